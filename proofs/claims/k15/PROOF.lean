import PyProof.Rows.All
import Wide.All
import OpenK.AllK
import Wide.FinOn
import KE.GoesEnum
import KE.GoesMore
import HandS.ForMost
import HandS.Property
import HandS.IsInst
import HandS.Wide
import HandS.WideBits
import HandS.Defaults
import HandS.StrMore
import HandS.Style
import HandS.Codes
import HandS.OwnEq
import HandS.Conv
import HandS.SetFor
import HandS.WrittenGet
import PyProof.StrBlock2
import PyProof.LongRange
import PyProof.ReprRoads
import HandS.FStr
import HandS.MakeKwOnly
import HandS.ListItems
import HandS.Gcd
import HandS.Small
import HandS.NoneIn
import HandS.Walk
import HandS.Deep
import HandS.SortRule
import HandS.SortInts
import HandS.Star
import KE.KOpsOwn
import KE.KMathGC
import HandS.Flt
import PySem.Challenge.RW_ringrows_k15_whole_forms_alike
set_option Elab.async false
set_option linter.all false
set_option maxRecDepth 100000
set_option maxHeartbeats 4000000
namespace Rx
open PySem PySem.Spec PyProof.Rows L2

inductive D where
  | v (x : V)
  | lst (xs : List D)
  | tup (xs : List D)
  | ins (C : Addr) (ns : List Str) (xs : List D)
  | dct (ks : List Key) (xs : List D)
  | dcT (ks : List (List Key)) (xs : List D)

mutual
def rep (ms : List Addr) (H : Hp) : D → V → Prop
  | .v x, u => u = x
  | .lst ds, u => ∃ p vs, u = .ref p ∧ p ∉ ms ∧ H p = some (.lst vs) ∧ repL ms H ds vs
  | .tup ds, u => ∃ p vs, u = .ref p ∧ p ∉ ms ∧ H p = some (.tup vs) ∧ repL ms H ds vs
  | .ins C ns ds, u => ∃ p dx vs, u = .ref p ∧ p ∉ ms ∧ H p = some (.ins C dx (ns.zip vs)) ∧ ns.length = vs.length ∧ repL ms H ds vs
  | .dct ks ds, u => ∃ p vs, u = .ref p ∧ p ∉ ms ∧ H p = some (.dK (ks.zip vs)) ∧ ks.length = vs.length ∧ repL ms H ds vs
  | .dcT ks ds, u => ∃ p vs, u = .ref p ∧ p ∉ ms ∧ H p = some (.dT (ks.zip vs)) ∧ ks.length = vs.length ∧ repL ms H ds vs
def repL (ms : List Addr) (H : Hp) : List D → List V → Prop
  | [], vs => vs = []
  | d :: ds, vs => ∃ u us, vs = u :: us ∧ rep ms H d u ∧ repL ms H ds us
end

mutual
theorem rep_map {ms ms' : List Addr} {H H' : Hp} (f : ∀ p o, p ∉ ms → H p = some o → p ∉ ms' ∧ H' p = some o) : ∀ (d : D) (u : V), rep ms H d u → rep ms' H' d u
  | .v x, u, h => by
    simp only [rep] at h ⊢
    exact h
  | .lst ds, u, h => by
    simp only [rep] at h ⊢
    obtain ⟨p, vs, e, n, hp, hl⟩ := h
    exact ⟨p, vs, e, (f p _ n hp).1, (f p _ n hp).2, repL_map f ds vs hl⟩
  | .tup ds, u, h => by
    simp only [rep] at h ⊢
    obtain ⟨p, vs, e, n, hp, hl⟩ := h
    exact ⟨p, vs, e, (f p _ n hp).1, (f p _ n hp).2, repL_map f ds vs hl⟩
  | .ins C ns ds, u, h => by
    simp only [rep] at h ⊢
    obtain ⟨p, dx, vs, e, n, hp, hn, hl⟩ := h
    exact ⟨p, dx, vs, e, (f p _ n hp).1, (f p _ n hp).2, hn, repL_map f ds vs hl⟩
  | .dct ks ds, u, h => by
    simp only [rep] at h ⊢
    obtain ⟨p, vs, e, n, hp, hn, hl⟩ := h
    exact ⟨p, vs, e, (f p _ n hp).1, (f p _ n hp).2, hn, repL_map f ds vs hl⟩
  | .dcT ks ds, u, h => by
    simp only [rep] at h ⊢
    obtain ⟨p, vs, e, n, hp, hn, hl⟩ := h
    exact ⟨p, vs, e, (f p _ n hp).1, (f p _ n hp).2, hn, repL_map f ds vs hl⟩
theorem repL_map {ms ms' : List Addr} {H H' : Hp} (f : ∀ p o, p ∉ ms → H p = some o → p ∉ ms' ∧ H' p = some o) : ∀ (ds : List D) (us : List V), repL ms H ds us → repL ms' H' ds us
  | [], us, h => by
    simp only [repL] at h ⊢
    exact h
  | d :: ds, us, h => by
    simp only [repL] at h ⊢
    obtain ⟨u, vs, e, h1, h2⟩ := h
    exact ⟨u, vs, e, rep_map f d u h1, repL_map f ds vs h2⟩
end

theorem repL_len {ms : List Addr} {H : Hp} : ∀ {ds : List D} {vs : List V}, repL ms H ds vs → ds.length = vs.length
  | [], vs, h => by
    simp only [repL] at h
    rw [h]
    rfl
  | d :: ds, vs, h => by
    simp only [repL] at h
    obtain ⟨u, us, e, _, h2⟩ := h
    rw [e]
    show ds.length + 1 = us.length + 1
    rw [repL_len h2]
theorem repL_get {ms : List Addr} {H : Hp} : ∀ {ds : List D} {vs : List V} {j : Nat} {d : D}, repL ms H ds vs → ds[j]? = some d → ∃ v, vs[j]? = some v ∧ rep ms H d v
  | [], vs, j, d, h, e => by simp at e
  | d0 :: ds, vs, 0, d, h, e => by
    simp only [repL] at h
    obtain ⟨u, us, rfl, h1, _⟩ := h
    have e' : d0 = d := Option.some.inj e
    subst e'
    exact ⟨u, rfl, h1⟩
  | d0 :: ds, vs, j + 1, d, h, e => by
    simp only [repL] at h
    obtain ⟨u, us, rfl, _, h2⟩ := h
    exact repL_get (j := j) h2 (by simpa using e)
theorem repL_app {ms : List Addr} {H : Hp} : ∀ {ds es : List D} {vs us : List V}, repL ms H ds vs → repL ms H es us → repL ms H (ds ++ es) (vs ++ us)
  | [], es, vs, us, h, h' => by
    simp only [repL] at h
    rw [h]
    exact h'
  | d :: ds, es, vs, us, h, h' => by
    simp only [repL] at h
    obtain ⟨u, ws, rfl, h1, h2⟩ := h
    show repL ms H (d :: (ds ++ es)) (u :: (ws ++ us))
    simp only [repL]
    exact ⟨u, ws ++ us, rfl, h1, repL_app h2 h'⟩
theorem repL_one {ms : List Addr} {H : Hp} {d : D} {u : V} (h : rep ms H d u) : repL ms H [d] [u] := by
  simp only [repL]
  exact ⟨u, [], rfl, h, rfl⟩
theorem repL_nil {ms : List Addr} {H : Hp} : repL ms H [] [] := by simp only [repL]
theorem repL_cons {ms : List Addr} {H : Hp} {d : D} {u : V} {ds : List D} {us : List V} (h : rep ms H d u) (t : repL ms H ds us) : repL ms H (d :: ds) (u :: us) := by
  simp only [repL]
  exact ⟨u, us, rfl, h, t⟩
theorem rep_v {ms : List Addr} {H : Hp} {x : V} : rep ms H (.v x) x := by simp only [rep]
theorem of_v {ms : List Addr} {H : Hp} {x u : V} (h : rep ms H (.v x) u) : u = x := by
  simp only [rep] at h
  exact h
/-- a list of flat values -/
theorem repL_flat {ms : List Addr} {H : Hp} : ∀ {xs vs : List V}, repL ms H (xs.map D.v) vs ↔ vs = xs
  | [], vs => by simp only [List.map_nil, repL]
  | x :: xs, vs => by
    simp only [List.map_cons, repL]
    constructor
    · rintro ⟨u, us, rfl, h1, h2⟩
      rw [of_v h1, repL_flat.mp h2]
    · rintro rfl
      exact ⟨x, xs, rfl, rep_v, repL_flat.mpr rfl⟩

/-! ### frames -/
def PotH (H : Hp) (a : Addr) : Prop := ∃ i j : Int, H a = some (.lst [.int i, .int j]) ∧ j.natAbs < 4294967296
structure Ret (ps : List Addr) (H H' : Hp) : Prop where
  kp : ∀ a o, a ∉ ps → H a = some o → H' a = some o
  pot : ∀ a ∈ ps, PotH H' a
  grow : ∀ a, H a ≠ none → H' a ≠ none
abbrev Ext (H H' : Hp) : Prop := Ret [] H H'
theorem Ret.rfl0 {H : Hp} : Ret [] H H := ⟨fun _ _ _ h => h, fun _ h => absurd h List.not_mem_nil, fun _ h => h⟩
theorem Ext.keep {H H' : Hp} (e : Ext H H') {a : Addr} {o : HO} (h : H a = some o) : H' a = some o := e.kp a o (by simp) h
theorem Ext.new {H : Hp} {p : Addr} {o : HO} (np : H p = none) : Ext H (upd H p o) := by
  refine ⟨fun a u _ h => ?_, fun _ h => absurd h List.not_mem_nil, fun a h => ?_⟩
  · rw [upd_ne (ne_of_none h np)]
    exact h
  · by_cases e : a = p
    · rw [e, upd_same]
      exact fun z => nomatch z
    · rw [upd_ne e]
      exact h
theorem newH {H : Hp} {o : HO} {Q : V → Hp → Prop} (h : ∀ p H', H p = none → Ext H H' → H' p = some o → Q (.ref p) H') : ∀ p, H p = none → Q (.ref p) (upd H p o) :=
  fun p np => h p _ np (Ext.new np) upd_same

structure Wd (ms ps : List Addr) (cs : List (Addr × List V)) (H0 H : Hp) : Prop where
  kp : ∀ a o, a ∉ ps → H0 a = some o → H a = some o
  grow : ∀ a, H0 a ≠ none → H a ≠ none
  tr : ∀ m ∈ ms, H m ≠ none
  pot : ∀ a ∈ ps, PotH H a
  pm : ∀ a ∈ ps, a ∈ ms
  cel : ∀ c ∈ cs, H c.1 = some (.lst c.2) ∧ c.1 ∈ ms ∧ c.1 ∉ ps ∧ H0 c.1 = none

section
variable {ms ps ps' : List Addr} {cs : List (Addr × List V)} {H0 H H' : Hp} {d : D} {u : V}
theorem Wd.ret (hs : ∀ a ∈ ps', a ∈ ps) (w : Wd ms ps cs H0 H) (e : Ret ps' H H') : Wd ms ps cs H0 H' where
  kp := fun a o n h => e.kp a o (fun z => n (hs a z)) (w.kp a o n h)
  grow := fun a h => e.grow a (w.grow a h)
  tr := fun m h => e.grow m (w.tr m h)
  pot := fun a h => by
    by_cases z : a ∈ ps'
    · exact e.pot a z
    · obtain ⟨i, j, h1, h2⟩ := w.pot a h
      exact ⟨i, j, e.kp a _ z h1, h2⟩
  pm := w.pm
  cel := fun c h => by
    obtain ⟨h1, h2, h3, h4⟩ := w.cel c h
    exact ⟨e.kp _ _ (fun z => h3 (hs _ z)) h1, h2, h3, h4⟩
theorem Wd.ret0 (w : Wd ms ps cs H0 H) (e : Ret [] H H') : Wd ms ps cs H0 H' := w.ret (fun _ h => absurd h List.not_mem_nil) e
theorem Wd.retP (w : Wd ms ps cs H0 H) (e : Ret ps H H') : Wd ms ps cs H0 H' := w.ret (fun _ h => h) e
theorem Wd.enter0 (w : Wd ms ps cs H0 H) : Wd ms [] [] H H := ⟨fun _ _ _ h => h, fun _ h => h, w.tr, fun _ h => absurd h List.not_mem_nil, fun _ h => absurd h List.not_mem_nil, fun _ h => absurd h List.not_mem_nil⟩
theorem Wd.enterP (w : Wd ms ps cs H0 H) : Wd ms ps [] H H := ⟨fun _ _ _ h => h, fun _ h => h, w.tr, w.pot, w.pm, fun _ h => absurd h List.not_mem_nil⟩
theorem Wd.out (w : Wd ms ps cs H0 H) : Ret ps H0 H := ⟨w.kp, w.pot, w.grow⟩
theorem rep_ret (w : Wd ms ps cs H0 H) (e : Ret ps H H') (h : rep ms H d u) : rep ms H' d u := rep_map (fun p o n hp => ⟨n, e.kp p o (fun z => n (w.pm p z)) hp⟩) d u h
theorem rep_ext (e : Ret [] H H') (h : rep ms H d u) : rep ms H' d u := rep_map (fun p o n hp => ⟨n, e.kp p o (by simp) hp⟩) d u h
theorem repL_ret {ds : List D} {us : List V} (w : Wd ms ps cs H0 H) (e : Ret ps H H') (h : repL ms H ds us) : repL ms H' ds us := repL_map (fun p o n hp => ⟨n, e.kp p o (fun z => n (w.pm p z)) hp⟩) ds us h
theorem repL_ext {ds : List D} {us : List V} (e : Ret [] H H') (h : repL ms H ds us) : repL ms H' ds us := repL_map (fun p o n hp => ⟨n, e.kp p o (by simp) hp⟩) ds us h
/-- a new cell -/
theorem Wd.cell {l : Addr} {xs : List V} (w : Wd ms ps cs H0 H) (nl : H l = none) : Wd (l :: ms) ps ((l, xs) :: cs) H0 (upd H l (.lst xs)) := by
  have e : Ext H (upd H l (.lst xs)) := Ext.new nl
  have w1 := w.ret0 e
  refine ⟨w1.kp, w1.grow, fun m h => ?_, w1.pot, fun a h => List.mem_cons_of_mem _ (w.pm a h), fun c h => ?_⟩
  · rcases List.mem_cons.mp h with rfl | h
    · rw [upd_same]
      exact fun z => nomatch z
    · exact w1.tr m h
  · rcases List.mem_cons.mp h with rfl | h
    · refine ⟨upd_same, List.mem_cons_self, fun z => ?_, ?_⟩
      · obtain ⟨i, j, h1, _⟩ := w.pot _ z
        rw [nl] at h1
        cases h1
      · show H0 l = none
        cases q : H0 l with
        | none => rfl
        | some o => exact absurd nl (w.grow l (by rw [q]; exact fun z => nomatch z))
    · obtain ⟨h1, h2, h3, h4⟩ := w1.cel c h
      exact ⟨h1, List.mem_cons_of_mem _ h2, h3, h4⟩
theorem rep_cell {l : Addr} {o : HO} (nl : H l = none) (h : rep ms H d u) : rep (l :: ms) (upd H l o) d u := by
  refine rep_map (fun p o n hp => ?_) d u h
  have ne : p ≠ l := ne_of_none hp nl
  refine ⟨fun z => ?_, by rw [upd_ne ne]; exact hp⟩
  rcases List.mem_cons.mp z with z | z
  · exact ne z
  · exact n z
/-- a cell's store -/
theorem Wd.put {l : Addr} {xs ys : List V} (w : Wd ms ps ((l, xs) :: cs) H0 H) (hn : ∀ c ∈ cs, c.1 ≠ l) : Wd ms ps ((l, ys) :: cs) H0 (upd H l (.lst ys)) := by
  obtain ⟨hl, lm, lp, l0⟩ := w.cel _ List.mem_cons_self
  refine ⟨fun a o n h => ?_, fun a h => ?_, fun m h => ?_, fun a h => ?_, w.pm, fun c h => ?_⟩
  · rw [upd_ne (ne_of_none h l0)]
    exact w.kp a o n h
  · by_cases e : a = l
    · rw [e, upd_same]
      exact fun z => nomatch z
    · rw [upd_ne e]
      exact w.grow a h
  · by_cases e : m = l
    · rw [e, upd_same]
      exact fun z => nomatch z
    · rw [upd_ne e]
      exact w.tr m h
  · obtain ⟨i, j, h1, h2⟩ := w.pot a h
    exact ⟨i, j, by rw [upd_ne (fun z => lp (by rw [← z]; exact h))]; exact h1, h2⟩
  · rcases List.mem_cons.mp h with rfl | h
    · exact ⟨upd_same, lm, lp, l0⟩
    · obtain ⟨h1, h2, h3, h4⟩ := w.cel c (List.mem_cons_of_mem _ h)
      exact ⟨by rw [upd_ne (hn c h)]; exact h1, h2, h3, h4⟩
theorem rep_put {l : Addr} {o : HO} (lm : l ∈ ms) (h : rep ms H d u) : rep ms (upd H l o) d u :=
  rep_map (fun p o n hp => ⟨n, by rw [upd_ne (fun z => n (by rw [z]; exact lm))]; exact hp⟩) d u h
theorem repL_put {ds : List D} {us : List V} {l : Addr} {o : HO} (lm : l ∈ ms) (h : repL ms H ds us) : repL ms (upd H l o) ds us :=
  repL_map (fun p o n hp => ⟨n, by rw [upd_ne (fun z => n (by rw [z]; exact lm))]; exact hp⟩) ds us h
/-- the newest cell is a list for good -/
theorem Wd.froze {l : Addr} {xs : List V} (w : Wd (l :: ms) ps ((l, xs) :: cs) H0 H) (hp : ∀ a ∈ ps, a ∈ ms) (hc : ∀ c ∈ cs, c.1 ∈ ms) : Wd ms ps cs H0 H :=
  ⟨w.kp, w.grow, fun m h => w.tr m (List.mem_cons_of_mem _ h), w.pot, hp, fun c h => by
    obtain ⟨h1, _, h3, h4⟩ := w.cel c (List.mem_cons_of_mem _ h)
    exact ⟨h1, hc c h, h3, h4⟩⟩
theorem rep_weak {l : Addr} (h : rep (l :: ms) H d u) : rep ms H d u := rep_map (fun p o n hp => ⟨fun z => n (List.mem_cons_of_mem _ z), hp⟩) d u h
theorem repL_weak {ds : List D} {us : List V} {l : Addr} (h : repL (l :: ms) H ds us) : repL ms H ds us := repL_map (fun p o n hp => ⟨fun z => n (List.mem_cons_of_mem _ z), hp⟩) ds us h
end

/-! ### a reading may be weakened at its end: the places where ways are joined -/
def upE (t : TE) : TE := fun σ H Q => ∃ Q' : VK, t σ H Q' ∧ ∀ v H', Q' v H' → Q v H'
def upT (t : TT) : TT := fun σ H Q => ∃ Q' : Bool → Hp → Prop, t σ H Q' ∧ ∀ b H', Q' b H' → Q b H'
def upS (t : TS) : TS := fun D σ H => ∃ N : L2.St → Hp → Prop, t { D with nx := N } σ H ∧ ∀ σ' H', N σ' H' → D.nx σ' H'
section
variable {X : Cx}
theorem pe_up {e : Expr} {t : TE} (h : PE X e t) : PE X e (upE t) := ⟨fun pins s σ H Q I ⟨Q', hq, m⟩ => thn (h.run pins s σ H Q' I hq) fun u s' ⟨v, H', I', r, q⟩ => ⟨v, H', I', r, m v H' q⟩⟩
theorem pt_up {e : Expr} {t : TT} (h : PT X e t) : PT X e (upT t) := ⟨fun pins s σ H Q I ⟨Q', hq, m⟩ => thn (h.run pins s σ H Q' I hq) fun u s' ⟨H', I', q⟩ => ⟨H', I', m u H' q⟩⟩
theorem ps_up {st : Stmt} {t : TS} (h : PS X st t) : PS X st (upS t) := ⟨fun pins s σ H D I ⟨N, hq, m⟩ => thn (h.run pins s σ H _ I hq) fun f s' q => by
  cases f with
  | next => obtain ⟨σ', H', I', n⟩ := q; exact ⟨σ', H', I', m _ _ n⟩
  | brk => exact q
  | cont => exact q
  | ret u => exact q⟩
end

/-! ### loops by data -/
def mapC {α β : Type} (body : α → (β → Prop) → Prop) : List α → List β → (List β → Prop) → Prop
  | [], acc, k => k acc
  | x :: xs, acc, k => body x fun y => mapC body xs (acc ++ [y]) k
def filC {α β : Type} (body : α → (Option β → Prop) → Prop) : List α → List β → (List β → Prop) → Prop
  | [], acc, k => k acc
  | x :: xs, acc, k => body x fun o => match o with
    | some y => filC body xs (acc ++ [y]) k
    | none => filC body xs acc k
def forC {α S : Type} (body : α → S → (S → Prop) → Prop) : List α → S → (S → Prop) → Prop
  | [], s, k => k s
  | x :: xs, s, k => body x s fun s' => forC body xs s' k
def whileC {S : Type} (body : S → (S → Prop) → (S → Prop) → Prop) : Nat → S → (S → Prop) → Prop
  | 0, _, _ => False
  | n + 1, s, k => body s (fun s' => whileC body n s' k) k
def rangeI (lo hi : Int) : List Int := (List.range (hi - lo).toNat).map fun i => lo + ((i : Nat) : Int)
theorem rangeI_len {lo hi : Int} : (rangeI lo hi).length = (hi - lo).toNat := by simp [rangeI]
theorem rangeI_get {lo hi : Int} {i : Nat} (h : i < (hi - lo).toNat) : (rangeI lo hi)[i]? = some (lo + (i : Int)) := by
  simp [rangeI, List.getElem?_map, List.getElem?_range h]
theorem drop_cons' {α : Type} {xs : List α} {i : Nat} {x : α} (h : xs[i]? = some x) : xs.drop i = x :: xs.drop (i + 1) := by
  obtain ⟨h1, h2⟩ := List.getElem?_eq_some_iff.mp h
  rw [List.drop_eq_getElem_cons h1, h2]

/-- what a loop keeps of all that it does not change -/
def Keep (ms : List Addr) (H H' : Hp) : Prop := ∀ a o, a ∉ ms → H a = some o → H' a = some o
section
variable {ms ps : List Addr} {cs : List (Addr × List V)} {H0 H H1 H' : Hp} {d : D} {u : V}
theorem Keep.refl : Keep ms H H := fun _ _ _ h => h
theorem keep_ret (w : Wd ms ps cs H0 H) (e : Ret ps H H') (k : Keep ms H1 H) : Keep ms H1 H' := fun a o n h => e.kp a o (fun z => n (w.pm a z)) (k a o n h)
theorem keep_ext (e : Ret [] H H') (k : Keep ms H1 H) : Keep ms H1 H' := fun a o n h => e.kp a o (by simp) (k a o n h)
theorem keep_cell {l : Addr} {o : HO} (nl : H l = none) (k : Keep ms H1 H) : Keep (l :: ms) H1 (upd H l o) := fun a u n h => by
  rw [upd_ne (fun z => n (by rw [z]; exact List.mem_cons_self))]
  exact k a u (fun z => n (List.mem_cons_of_mem _ z)) h
theorem keep_put {l : Addr} {o : HO} (lm : l ∈ ms) (k : Keep ms H1 H) : Keep ms H1 (upd H l o) := fun a u n h => by
  rw [upd_ne (fun z => n (by rw [z]; exact lm))]
  exact k a u n h
theorem rep_keep (k : Keep ms H H') (h : rep ms H d u) : rep ms H' d u := rep_map (fun p o n hp => ⟨n, k p o n hp⟩) d u h
theorem repL_keep {ds : List D} {us : List V} (k : Keep ms H H') (h : repL ms H ds us) : repL ms H' ds us := repL_map (fun p o n hp => ⟨n, k p o n hp⟩) ds us h
theorem at_keep {a : Addr} {o : HO} (k : Keep ms H H') (n : a ∉ ms) (h : H a = some o) : H' a = some o := k a o n h
end

theorem ite3 {c : Prop} [Decidable c] {A B P R : Prop} (h : if c then A else B) (h1 : A → P) (h2 : B → R) : if c then P else R := by
  by_cases q : c
  · rw [if_pos q] at h ⊢
    exact h1 h
  · rw [if_neg q] at h ⊢
    exact h2 h

section
variable {K : PySem.W.Frag} {ms ps : List Addr} {cs : List (Addr × List V)} {H0 H : Hp} {d : D} {u x : V}
/-! ### readings by data -/
theorem rep_fld {C : Addr} {ns : List Str} {ds : List D} {f : Str} {Q : VK} {j : Nat} (h : rep ms H (.ins C ns ds) x) (c : Cls K C) (n : NoAttr K C f) (nd : ns.Nodup) (hn : ns[j]? = some f) (hd : ds[j]? = some d) (k : ∀ v, rep ms H d v → Q v H) :
    ∃ a C dx fs v, x = .ref a ∧ H a = some (.ins C dx fs) ∧ Cls K C ∧ NoAttr K C f ∧ fs.lookup f = some v ∧ Q v H := by
  simp only [rep] at h
  obtain ⟨p, dx, vs, e, _, hp, hl, hr⟩ := h
  obtain ⟨v, hv, rv⟩ := repL_get hr hd
  refine ⟨p, C, dx, _, v, e, hp, c, n, ?_, k v rv⟩
  clear hr hd hp e k rv
  induction ns generalizing vs j with
  | nil => simp at hn
  | cons n0 ns ih =>
    cases vs with
    | nil => simp at hv
    | cons v0 vs =>
      cases j with
      | zero =>
        have e1 : n0 = f := Option.some.inj hn
        have e2 : v0 = v := Option.some.inj hv
        subst e1 e2
        simp [List.lookup]
      | succ j =>
        have hn' : ns[j]? = some f := by simpa using hn
        have hv' : vs[j]? = some v := by simpa using hv
        have ne : f ≠ n0 := fun z => by
          subst z
          exact (List.nodup_cons.mp nd).1 (List.mem_of_getElem? hn')
        show ((n0, v0) :: ns.zip vs).lookup f = some v
        rw [List.lookup_cons, show (f == n0) = false from beq_eq_false_iff_ne.mpr ne]
        exact ih (List.nodup_cons.mp nd).2 hn' vs (by simpa using hl) hv'
theorem lookup_zip_none {m : Str} : ∀ {ns : List Str} {vs : List V}, m ∉ ns → (ns.zip vs).lookup m = none
  | [], vs, _ => by simp
  | n :: ns, [], _ => by simp
  | n :: ns, v :: vs, h => by
    show ((n, v) :: ns.zip vs).lookup m = none
    rw [List.lookup_cons, show (m == n) = false from beq_eq_false_iff_ne.mpr fun z => h (by rw [z]; exact List.mem_cons_self)]
    exact lookup_zip_none fun z => h (List.mem_cons_of_mem _ z)
theorem rep_meth {C : Addr} {ns : List Str} {ds : List D} {m : Str} {P : Hp → Prop} (h : rep ms H (.ins C ns ds) x) (hm : m ∉ ns) (k : P H) : ∃ a dx fs, x = .ref a ∧ H a = some (.ins C dx fs) ∧ fs.lookup m = none ∧ P H := by
  simp only [rep] at h
  obtain ⟨p, dx, vs, e, _, hp, hl, hr⟩ := h
  exact ⟨p, dx, _, e, hp, lookup_zip_none hm, k⟩
theorem rep_prop {C : Addr} {ns : List Str} {ds : List D} {P : Addr → Prop} (h : rep ms H (.ins C ns ds) x) (k : ∀ a, rep ms H (.ins C ns ds) (.ref a) → P a) : ∃ a dx fs, x = .ref a ∧ H a = some (.ins C dx fs) ∧ P a := by
  have h' := h
  simp only [rep] at h
  obtain ⟨p, dx, vs, e, _, hp, hl, hr⟩ := h
  subst e
  exact ⟨p, dx, _, rfl, hp, k p h'⟩
/-- t[j], j written -/
theorem rep_ixT {ds : List D} {i : Int} (j : Nat) {σ : L2.St} {Q : VK} (h : rep ms H (.tup ds) x) (hi : i = (j : Int)) (hd : ds[j]? = some d) (k : ∀ v, rep ms H d v → Q v H) : tC (V.int i) σ H fun y H2 => rIxT K x y H2 Q := by
  subst hi
  simp only [rep] at h
  obtain ⟨p, vs, e, _, hp, hr⟩ := h
  obtain ⟨v, hv, rv⟩ := repL_get hr hd
  exact ⟨p, vs, _, v, e, rfl, .inl (.inl hp), atI_nat hv, k v rv⟩
/-- xs[i] -/
theorem rep_ixL {α : Type} {e : α → D} {xs : List α} {i : Int} {Q : VK} (h : rep ms H (.lst (xs.map e)) x) (h0 : 0 ≤ i) (hi : i.toNat < xs.length) (k : ∀ v, rep ms H (e (xs[i.toNat]'hi)) v → Q v H) : rIxL K x (.int i) H Q := by
  simp only [rep] at h
  obtain ⟨p, vs, e', _, hp, hr⟩ := h
  obtain ⟨v, hv, rv⟩ := repL_get (d := e (xs[i.toNat]'hi)) hr (by rw [List.getElem?_map, List.getElem?_eq_getElem hi]; rfl)
  refine ⟨p, vs, i, v, e', rfl, .inl (.inl hp), at_of (j := i.toNat) (by omega) hv, k v rv⟩
theorem rep_lenL {α : Type} {e : α → D} {xs : List α} {P : Nat → Prop} (h : rep ms H (.lst (xs.map e)) x) (k : P xs.length) : ∃ y n, [x] = [y] ∧ LenV K y H n ∧ P n := by
  simp only [rep] at h
  obtain ⟨p, vs, e', _, hp, hr⟩ := h
  subst e'
  have hl := repL_len hr
  rw [List.length_map] at hl
  exact ⟨_, xs.length, rfl, .inl ⟨vs, .inl (.inl hp), hl⟩, k⟩
theorem rep_iter {ds : List D} {P : Addr → Prop} (h : rep ms H (.lst ds) x) (k : ∀ a xs, x = .ref a → a ∉ ms → H a = some (.lst xs) → repL ms H ds xs → P a) : ∃ a, x = .ref a ∧ (∃ xs, SqL K H a xs) ∧ P a := by
  simp only [rep] at h
  obtain ⟨p, vs, e, n, hp, hr⟩ := h
  exact ⟨p, e, ⟨vs, .inl (.inl hp)⟩, k p vs e n hp hr⟩
theorem rep_gtup {ds : List D} {n : Nat} {Q : L2.St → Hp → Prop} {t : TGs} {σ : L2.St} (h : rep ms H (.tup ds) x) (hn : ds.length = n) (k : ∀ vs, repL ms H ds vs → t vs σ H Q) : ∃ a xs, x = .ref a ∧ SqT K H a xs ∧ xs.length = n ∧ t xs σ H Q := by
  simp only [rep] at h
  obtain ⟨p, vs, e, _, hp, hr⟩ := h
  exact ⟨p, vs, e, .inl (.inl hp), by rw [← repL_len hr]; exact hn, k vs hr⟩
theorem rep_tup_mk {p : Addr} {ds : List D} {vs : List V} (w : Wd ms ps cs H0 H) (np : H p = none) (e : Ext H H') (hp : H' p = some (.tup vs)) (hr : repL ms H ds vs) : rep ms H' (.tup ds) (.ref p) := by
  simp only [rep]
  exact ⟨p, vs, rfl, fun z => w.tr p z np, hp, repL_ext e hr⟩
theorem rep_lst_mk {p : Addr} {ds : List D} {vs : List V} (w : Wd ms ps cs H0 H) (np : H p = none) (e : Ext H H') (hp : H' p = some (.lst vs)) (hr : repL ms H ds vs) : rep ms H' (.lst ds) (.ref p) := by
  simp only [rep]
  exact ⟨p, vs, rfl, fun z => w.tr p z np, hp, repL_ext e hr⟩
end

/-! ### comprehensions -/
section
variable {α β : Type} {K : PySem.W.Frag} {ms ps : List Addr} {cs : List (Addr × List V)} {H0 H1 : Hp} {g : TG} {tt : TT} {te : TE} {vl : List Nat} {σ : L2.St} {Qd : Hp → Prop}
/-- where a turn begins: the new list at L holds what is made so far -/
structure Trn (ms ps : List Addr) (cs : List (Addr × List V)) (H0 H1 : Hp) (L : Addr) (eb : β → D) (n : Nat) (ys : List β) (vs : List V) (H : Hp) : Prop where
  w : Wd (L :: ms) ps ((L, vs) :: cs) H0 H
  k : Keep (L :: ms) H1 H
  r : repL (L :: ms) H (ys.map eb) vs
  n : ys.length ≤ n
theorem Trn.add {L : Addr} {eb : β → D} {n : Nat} {ys : List β} {vs : List V} {H : Hp} {y : β} {u : V} (hc : ∀ c ∈ cs, c.1 ≠ L) (w : Wd (L :: ms) ps ((L, vs) :: cs) H0 H) (k : Keep (L :: ms) H1 H) (r : repL (L :: ms) H (ys.map eb) vs) (hn : ys.length ≤ n) (hr : rep (L :: ms) H (eb y) u) :
    Trn ms ps cs H0 H1 L eb (n + 1) (ys ++ [y]) (vs ++ [u]) (upd H L (.lst (vs ++ [u]))) := by
  refine ⟨w.put hc, keep_put List.mem_cons_self k, ?_, by rw [List.length_append]; exact Nat.add_le_add_right hn 1⟩
  rw [List.map_append]
  exact repL_put List.mem_cons_self (repL_app r (repL_one hr))
theorem new_ne {L : Addr} (w : Wd ms ps cs H0 H1) (nl : H1 L = none) : ∀ c ∈ cs, c.1 ≠ L := fun c h z => by
  have q := (w.cel c h).1
  rw [z, nl] at q
  cases q
theorem Trn.start {L : Addr} {eb : β → D} (w : Wd ms ps cs H0 H1) (nl : H1 L = none) : Trn ms ps cs H0 H1 L eb 0 [] [] (upd H1 L (.lst [])) :=
  ⟨w.cell nl, fun a o n h => by rw [upd_ne (ne_of_none h nl)]; exact h, repL_nil, Nat.le_refl _⟩
theorem Trn.done {L : Addr} {eb : β → D} {n : Nat} {ys : List β} {vs : List V} {H : Hp} (w : Wd ms ps cs H0 H1) (nl : H1 L = none) (t : Trn ms ps cs H0 H1 L eb n ys vs H) : Wd ms ps cs H0 H ∧ Keep ms H1 H ∧ rep ms H (.lst (ys.map eb)) (.ref L) := by
  refine ⟨t.w.froze w.pm fun c h => (w.cel c h).2.1, fun a o n h => t.k a o (fun z => ?_) h, ?_⟩
  · rcases List.mem_cons.mp z with z | z
    · rw [z, nl] at h
      cases h
    · exact n z
  · simp only [rep]
    exact ⟨L, vs, rfl, fun z => w.tr L z nl, (t.w.cel _ List.mem_cons_self).1, repL_weak t.r⟩

/-- [e for x in range(lo, hi)] -/
theorem lc_rangeC {lo hi : Int} {N : Nat} {L : Addr} {eb : β → D} {body : Int → (β → Prop) → Prop} {KM : List β → Prop} (hN : N = (hi - lo).toNat) (w : Wd ms ps cs H0 H1) (nl : H1 L = none) (hM : (rangeI lo hi).length < 100000 ∧ mapC body (rangeI lo hi) [] KM)
    (hs : ∀ (x : Int) (n : Nat) (ys : List β) (vs : List V) (k : β → Prop) (H : Hp), n < 100000 → Trn ms ps cs H0 H1 L eb n ys vs H → body x k → ∀ Nx : Hp → Prop, (∀ y vs' H', k y → Trn ms ps cs H0 H1 L eb (n + 1) (ys ++ [y]) vs' H' → Nx H') →
      g (.int x) (wipe σ vl) H fun σ2 H2 => wipe σ2 vl = wipe σ vl ∧ tt σ2 H2 fun b H3 => if b = true then te σ2 H3 fun y H4 => ∃ acc, H4 L = some (.lst acc) ∧ acc.length < sizeLine ∧ Nx (upd H4 L (.lst (acc ++ [y]))) else Nx H3)
    (hd : ∀ ys H, KM ys → Wd ms ps cs H0 H → Keep ms H1 H → rep ms H (.lst (ys.map eb)) (.ref L) → Qd H) :
    ∃ W : Nat → Nat → Hp → Prop, (∃ m, W 0 m (upd H1 L (.lst []))) ∧ ∀ i m H, W i m H →
      ((Itr lo N).stop i H ∧ Qd H) ∨ ((Itr lo N).go i H ∧ ∃ Nx : Hp → Prop, (∀ H', Nx H' → ∃ m', m' < m ∧ W (i + 1) m' H') ∧ ∀ x H', (Itr lo N).yld i H x H' → g x (wipe σ vl) H' fun σ2 H2 => wipe σ2 vl = wipe σ vl ∧ tt σ2 H2 fun b H3 =>
        if b = true then te σ2 H3 fun y H4 => ∃ acc, H4 L = some (.lst acc) ∧ acc.length < sizeLine ∧ Nx (upd H4 L (.lst (acc ++ [y]))) else Nx H3) := by
  obtain ⟨hn, hM⟩ := hM
  subst hN
  rw [rangeI_len] at hn
  refine ⟨fun i m H => m = (hi - lo).toNat - i ∧ i ≤ (hi - lo).toNat ∧ ∃ ys vs, Trn ms ps cs H0 H1 L eb i ys vs H ∧ mapC body ((rangeI lo hi).drop i) ys KM, ⟨_, rfl, Nat.zero_le _, [], [], Trn.start w nl, hM⟩, ?_⟩
  rintro i m H ⟨rfl, hi', ys, vs, T, q⟩
  by_cases hlt : i < (hi - lo).toNat
  · refine .inr ⟨hlt, fun H' => i + 1 ≤ (hi - lo).toNat ∧ ∃ ys vs, Trn ms ps cs H0 H1 L eb (i + 1) ys vs H' ∧ mapC body ((rangeI lo hi).drop (i + 1)) ys KM, fun H' p' => ⟨_, by omega, rfl, p'⟩, fun x H' y => ?_⟩
    obtain ⟨e, y⟩ := y
    subst e y
    rw [drop_cons' (rangeI_get hlt)] at q
    exact hs _ i ys vs _ H' (by omega) T q _ fun y vs' H' k T' => ⟨hlt, _, _, T', k⟩
  · have e : i = (hi - lo).toNat := by omega
    refine .inl ⟨by rw [e]; exact Nat.le_refl _, ?_⟩
    have q' : KM ys := by
      rw [List.drop_of_length_le (by rw [rangeI_len]; omega)] at q
      exact q
    obtain ⟨w', k', r'⟩ := T.done w nl
    exact hd ys H q' w' k' r'
/-- [e for x in xs] -/
theorem lc_listC {items : List α} {a : Addr} {xs : List V} {L : Addr} {e : α → D} {eb : β → D} {body : α → (β → Prop) → Prop} {KM : List β → Prop} (w : Wd ms ps cs H0 H1) (an : a ∉ ms) (ha : H1 a = some (.lst xs)) (hx : repL ms H1 (items.map e) xs) (nl : H1 L = none) (hM : items.length < 100000 ∧ mapC body items [] KM)
    (hs : ∀ (x : α) (u : V) (n : Nat) (ys : List β) (vs : List V) (k : β → Prop) (H : Hp), n < 100000 → Trn ms ps cs H0 H1 L eb n ys vs H → rep (L :: ms) H (e x) u → body x k → ∀ Nx : Hp → Prop, (∀ y vs' H', k y → Trn ms ps cs H0 H1 L eb (n + 1) (ys ++ [y]) vs' H' → Nx H') →
      g u (wipe σ vl) H fun σ2 H2 => wipe σ2 vl = wipe σ vl ∧ tt σ2 H2 fun b H3 => if b = true then te σ2 H3 fun y H4 => ∃ acc, H4 L = some (.lst acc) ∧ acc.length < sizeLine ∧ Nx (upd H4 L (.lst (acc ++ [y]))) else Nx H3)
    (hd : ∀ ys H, KM ys → Wd ms ps cs H0 H → Keep ms H1 H → rep ms H (.lst (ys.map eb)) (.ref L) → Qd H) :
    ∃ W : Nat → Nat → Hp → Prop, (∃ m, W 0 m (upd H1 L (.lst []))) ∧ ∀ i m H, W i m H →
      ((Itl K a).stop i H ∧ Qd H) ∨ ((Itl K a).go i H ∧ ∃ Nx : Hp → Prop, (∀ H', Nx H' → ∃ m', m' < m ∧ W (i + 1) m' H') ∧ ∀ x H', (Itl K a).yld i H x H' → g x (wipe σ vl) H' fun σ2 H2 => wipe σ2 vl = wipe σ vl ∧ tt σ2 H2 fun b H3 =>
        if b = true then te σ2 H3 fun y H4 => ∃ acc, H4 L = some (.lst acc) ∧ acc.length < sizeLine ∧ Nx (upd H4 L (.lst (acc ++ [y]))) else Nx H3) := by
  obtain ⟨hn, hM⟩ := hM
  have hl : items.length = xs.length := by
    have := repL_len hx
    rwa [List.length_map] at this
  have aL : a ≠ L := ne_of_none ha nl
  have hx1 : repL (L :: ms) (upd H1 L (.lst [])) (items.map e) xs := repL_map (fun p o n hp => ⟨fun z => by
    rcases List.mem_cons.mp z with z | z
    · exact ne_of_none hp nl z
    · exact n z, by rw [upd_ne (ne_of_none hp nl)]; exact hp⟩) _ _ hx
  have aM : a ∉ L :: ms := fun z => by
    rcases List.mem_cons.mp z with z | z
    · exact aL z
    · exact an z
  refine ⟨fun i m H => m = xs.length - i ∧ i ≤ xs.length ∧ ∃ ys vs, Trn ms ps cs H0 H1 L eb i ys vs H ∧ Keep (L :: ms) (upd H1 L (.lst [])) H ∧ mapC body (items.drop i) ys KM, ⟨_, rfl, Nat.zero_le _, [], [], Trn.start w nl, Keep.refl, hM⟩, ?_⟩
  rintro i m H ⟨rfl, hi', ys, vs, T, kp, q⟩
  have hA : H a = some (.lst xs) := kp a _ aM (by rw [upd_ne aL]; exact ha)
  by_cases hlt : i < xs.length
  · refine .inr ⟨⟨xs, xs[i], .inl (.inl hA), by simp [hlt]⟩, fun H' => i + 1 ≤ xs.length ∧ ∃ ys vs, Trn ms ps cs H0 H1 L eb (i + 1) ys vs H' ∧ Keep (L :: ms) (upd H1 L (.lst [])) H' ∧ mapC body (items.drop (i + 1)) ys KM, fun H' p' => ⟨_, by omega, rfl, p'⟩, fun x H' y => ?_⟩
    obtain ⟨e1, y⟩ := y
    subst e1
    have hxi := y xs (.inl (.inl hA))
    have hit : items[i]? = some (items[i]'(by omega)) := List.getElem?_eq_getElem (by omega)
    rw [drop_cons' hit] at q
    obtain ⟨v, hv, rv⟩ := repL_get (repL_keep kp hx1) (j := i) (d := e (items[i]'(by omega))) (by rw [List.getElem?_map, hit]; rfl)
    rw [hxi] at hv
    have ev : x = v := Option.some.inj hv
    subst ev
    refine hs _ x i ys vs _ H' (by omega) T rv q _ fun y vs' H'' k T' => ⟨hlt, _, _, T', fun b o n hb => ?_, k⟩
    by_cases e3 : b = L
    · exact absurd (by rw [e3]; exact List.mem_cons_self) n
    · rw [upd_ne e3] at hb
      exact T'.k b o n hb
  · have e1 : i = xs.length := by omega
    refine .inl ⟨⟨xs, .inl (.inl hA), by omega⟩, ?_⟩
    have q' : KM ys := by
      rw [List.drop_of_length_le (by omega)] at q
      exact q
    obtain ⟨w', k', r'⟩ := T.done w nl
    exact hd ys H q' w' k' r'
end

/-! ### comprehensions with a test -/
section
variable {α β : Type} {K : PySem.W.Frag} {ms ps : List Addr} {cs : List (Addr × List V)} {H0 H1 : Hp} {g : TG} {tt : TT} {te : TE} {vl : List Nat} {σ : L2.St} {Qd : Hp → Prop}
theorem Trn.skip {L : Addr} {eb : β → D} {n : Nat} {ys : List β} {vs : List V} {H : Hp} (t : Trn ms ps cs H0 H1 L eb n ys vs H) : Trn ms ps cs H0 H1 L eb (n + 1) ys vs H := ⟨t.w, t.k, t.r, Nat.le_succ_of_le t.n⟩
theorem lf_listC {items : List α} {a : Addr} {xs : List V} {L : Addr} {e : α → D} {eb : β → D} {body : α → (Option β → Prop) → Prop} {KM : List β → Prop} (w : Wd ms ps cs H0 H1) (an : a ∉ ms) (ha : H1 a = some (.lst xs)) (hx : repL ms H1 (items.map e) xs) (nl : H1 L = none) (hM : items.length < 100000 ∧ filC body items [] KM)
    (hs : ∀ (x : α) (u : V) (n : Nat) (ys : List β) (vs : List V) (k : Option β → Prop) (H : Hp), n < 100000 → Trn ms ps cs H0 H1 L eb n ys vs H → rep (L :: ms) H (e x) u → body x k → ∀ Nx : Hp → Prop,
        (∀ y vs' H', k (some y) → Trn ms ps cs H0 H1 L eb (n + 1) (ys ++ [y]) vs' H' → Nx H') → (∀ vs' H', k none → Trn ms ps cs H0 H1 L eb (n + 1) ys vs' H' → Nx H') →
      g u (wipe σ vl) H fun σ2 H2 => wipe σ2 vl = wipe σ vl ∧ tt σ2 H2 fun b H3 => if b = true then te σ2 H3 fun y H4 => ∃ acc, H4 L = some (.lst acc) ∧ acc.length < sizeLine ∧ Nx (upd H4 L (.lst (acc ++ [y]))) else Nx H3)
    (hd : ∀ ys H, KM ys → Wd ms ps cs H0 H → Keep ms H1 H → rep ms H (.lst (ys.map eb)) (.ref L) → Qd H) :
    ∃ W : Nat → Nat → Hp → Prop, (∃ m, W 0 m (upd H1 L (.lst []))) ∧ ∀ i m H, W i m H →
      ((Itl K a).stop i H ∧ Qd H) ∨ ((Itl K a).go i H ∧ ∃ Nx : Hp → Prop, (∀ H', Nx H' → ∃ m', m' < m ∧ W (i + 1) m' H') ∧ ∀ x H', (Itl K a).yld i H x H' → g x (wipe σ vl) H' fun σ2 H2 => wipe σ2 vl = wipe σ vl ∧ tt σ2 H2 fun b H3 =>
        if b = true then te σ2 H3 fun y H4 => ∃ acc, H4 L = some (.lst acc) ∧ acc.length < sizeLine ∧ Nx (upd H4 L (.lst (acc ++ [y]))) else Nx H3) := by
  obtain ⟨hn, hM⟩ := hM
  have hl : items.length = xs.length := by
    have := repL_len hx
    rwa [List.length_map] at this
  have aL : a ≠ L := ne_of_none ha nl
  have hx1 : repL (L :: ms) (upd H1 L (.lst [])) (items.map e) xs := repL_map (fun p o n hp => ⟨fun z => by
    rcases List.mem_cons.mp z with z | z
    · exact ne_of_none hp nl z
    · exact n z, by rw [upd_ne (ne_of_none hp nl)]; exact hp⟩) _ _ hx
  have aM : a ∉ L :: ms := fun z => by
    rcases List.mem_cons.mp z with z | z
    · exact aL z
    · exact an z
  refine ⟨fun i m H => m = xs.length - i ∧ i ≤ xs.length ∧ ∃ ys vs, Trn ms ps cs H0 H1 L eb i ys vs H ∧ Keep (L :: ms) (upd H1 L (.lst [])) H ∧ filC body (items.drop i) ys KM, ⟨_, rfl, Nat.zero_le _, [], [], Trn.start w nl, Keep.refl, hM⟩, ?_⟩
  rintro i m H ⟨rfl, hi', ys, vs, T, kp, q⟩
  have hA : H a = some (.lst xs) := kp a _ aM (by rw [upd_ne aL]; exact ha)
  by_cases hlt : i < xs.length
  · refine .inr ⟨⟨xs, xs[i], .inl (.inl hA), by simp [hlt]⟩, fun H' => i + 1 ≤ xs.length ∧ ∃ ys vs, Trn ms ps cs H0 H1 L eb (i + 1) ys vs H' ∧ Keep (L :: ms) (upd H1 L (.lst [])) H' ∧ filC body (items.drop (i + 1)) ys KM, fun H' p' => ⟨_, by omega, rfl, p'⟩, fun x H' y => ?_⟩
    obtain ⟨e1, y⟩ := y
    subst e1
    have hxi := y xs (.inl (.inl hA))
    have hit : items[i]? = some (items[i]'(by omega)) := List.getElem?_eq_getElem (by omega)
    rw [drop_cons' hit] at q
    obtain ⟨v, hv, rv⟩ := repL_get (repL_keep kp hx1) (j := i) (d := e (items[i]'(by omega))) (by rw [List.getElem?_map, hit]; rfl)
    rw [hxi] at hv
    have ev : x = v := Option.some.inj hv
    subst ev
    have kk : ∀ {ys'} {vs'} {H''}, Trn ms ps cs H0 H1 L eb (i + 1) ys' vs' H'' → Keep (L :: ms) (upd H1 L (.lst [])) H'' := fun {ys' vs' H''} T' b o n hb => by
      by_cases e3 : b = L
      · exact absurd (by rw [e3]; exact List.mem_cons_self) n
      · rw [upd_ne e3] at hb
        exact T'.k b o n hb
    exact hs _ x i ys vs _ H' (by omega) T rv q _ (fun y vs' H'' k T' => ⟨hlt, _, _, T', kk T', k⟩) (fun vs' H'' k T' => ⟨hlt, _, _, T', kk T', k⟩)
  · have e1 : i = xs.length := by omega
    refine .inl ⟨⟨xs, .inl (.inl hA), by omega⟩, ?_⟩
    have q' : KM ys := by
      rw [List.drop_of_length_le (by omega)] at q
      exact q
    obtain ⟨w', k', r'⟩ := T.done w nl
    exact hd ys H q' w' k' r'
/-- an element's end -/
theorem lc_end {L : Addr} {eb : β → D} {n : Nat} {ys : List β} {vs : List V} {H : Hp} {y : β} {u : V} {Nx : Hp → Prop} (hc : ∀ c ∈ cs, c.1 ≠ L) (hn : n < 100000) (w : Wd (L :: ms) ps ((L, vs) :: cs) H0 H) (k : Keep (L :: ms) H1 H) (r : repL (L :: ms) H (ys.map eb) vs) (hy : ys.length ≤ n) (hr : rep (L :: ms) H (eb y) u)
    (h : ∀ vs' H', Trn ms ps cs H0 H1 L eb (n + 1) (ys ++ [y]) vs' H' → Nx H') : ∃ acc, H L = some (.lst acc) ∧ acc.length < sizeLine ∧ Nx (upd H L (.lst (acc ++ [u]))) := by
  refine ⟨vs, (w.cel _ List.mem_cons_self).1, ?_, h _ _ (Trn.add hc w k r hy hr)⟩
  have q := repL_len r
  rw [List.length_map] at q
  have e : sizeLine = 16777216 := sizeLine_eq
  omega
end

/-! ### for -/
section
variable {α S : Type} {K : PySem.W.Frag} {ms ps : List Addr} {H0 H1 : Hp} {g : TG} {tb : TS} {D' : Ends} {σ : L2.St} {cs : S → List (Addr × List V)}
/-- for x in range(lo, hi) -/
theorem for_rangeC {lo hi : Int} {N : Nat} {body : Int → S → (S → Prop) → Prop} {KM : S → Prop} (SI : S → L2.St → Hp → Prop) (s0 : S) (hN : N = (hi - lo).toNat) (w : Wd ms ps (cs s0) H0 H1) (hM : forC body (rangeI lo hi) s0 KM) (h0 : SI s0 σ H1)
    (hs : ∀ (x : Int) (s : S) (k : S → Prop) (σ : L2.St) (H : Hp), Wd ms ps (cs s) H0 H → Keep ms H1 H → SI s σ H → body x s k → ∀ Nx : L2.St → Hp → Prop, (∀ s' σ' H', k s' → Wd ms ps (cs s') H0 H' → Keep ms H1 H' → SI s' σ' H' → Nx σ' H') →
      g (.int x) σ H fun σ2 H2 => tb { D' with nx := Nx, ct := Nx, bk := D'.nx } σ2 H2)
    (hd : ∀ s σ H, KM s → Wd ms ps (cs s) H0 H → Keep ms H1 H → SI s σ H → D'.nx σ H) :
    ∃ W : Nat → Nat → L2.St → Hp → Prop, (∃ m, W 0 m σ H1) ∧ ∀ i m σ H, W i m σ H →
      ((Itr lo N).stop i H ∧ D'.nx σ H) ∨ ((Itr lo N).go i H ∧ ∃ Nx : L2.St → Hp → Prop, (∀ σ' H', Nx σ' H' → ∃ m', m' < m ∧ W (i + 1) m' σ' H') ∧ ∀ x H', (Itr lo N).yld i H x H' → g x σ H' fun σ2 H2 => tb { D' with nx := Nx, ct := Nx, bk := D'.nx } σ2 H2) := by
  subst hN
  refine for_range (lo := lo) (n := (hi - lo).toNat) (D := D') (fun i σ H => ∃ s, Wd ms ps (cs s) H0 H ∧ Keep ms H1 H ∧ SI s σ H ∧ forC body ((rangeI lo hi).drop i) s KM) ⟨s0, w, Keep.refl, h0, hM⟩ (fun i σ H hi' ⟨s, w', k', si, q⟩ => ?_) (fun σ H ⟨s, w', k', si, q⟩ => ?_)
  · rw [drop_cons' (rangeI_get hi')] at q
    exact hs _ s _ σ H w' k' si q _ fun s' σ' H' hk w2 k2 si2 => ⟨s', w2, k2, si2, hk⟩
  · rw [List.drop_of_length_le (by rw [rangeI_len]; exact Nat.le_refl _)] at q
    exact hd s σ H q w' k' si
/-- for x in xs -/
theorem for_listC {items : List α} {e : α → D} {a : Addr} {xs : List V} {body : α → S → (S → Prop) → Prop} {KM : S → Prop} (SI : S → L2.St → Hp → Prop) (s0 : S) (w : Wd ms ps (cs s0) H0 H1) (an : a ∉ ms) (ha : H1 a = some (.lst xs)) (hx : repL ms H1 (items.map e) xs) (hM : forC body items s0 KM) (h0 : SI s0 σ H1)
    (hs : ∀ (x : α) (u : V) (s : S) (k : S → Prop) (σ : L2.St) (H : Hp), Wd ms ps (cs s) H0 H → Keep ms H1 H → SI s σ H → rep ms H (e x) u → body x s k → ∀ Nx : L2.St → Hp → Prop, (∀ s' σ' H', k s' → Wd ms ps (cs s') H0 H' → Keep ms H1 H' → SI s' σ' H' → Nx σ' H') →
      g u σ H fun σ2 H2 => tb { D' with nx := Nx, ct := Nx, bk := D'.nx } σ2 H2)
    (hd : ∀ s σ H, KM s → Wd ms ps (cs s) H0 H → Keep ms H1 H → SI s σ H → D'.nx σ H) :
    ∃ W : Nat → Nat → L2.St → Hp → Prop, (∃ m, W 0 m σ H1) ∧ ∀ i m σ H, W i m σ H →
      ((Itl K a).stop i H ∧ D'.nx σ H) ∨ ((Itl K a).go i H ∧ ∃ Nx : L2.St → Hp → Prop, (∀ σ' H', Nx σ' H' → ∃ m', m' < m ∧ W (i + 1) m' σ' H') ∧ ∀ x H', (Itl K a).yld i H x H' → g x σ H' fun σ2 H2 => tb { D' with nx := Nx, ct := Nx, bk := D'.nx } σ2 H2) := by
  have hl : items.length = xs.length := by
    have := repL_len hx
    rwa [List.length_map] at this
  refine for_list (xs := xs) (D := D') (fun i σ H => ∃ s, Wd ms ps (cs s) H0 H ∧ Keep ms H1 H ∧ SI s σ H ∧ forC body (items.drop i) s KM) ⟨s0, w, Keep.refl, h0, hM⟩ (fun i σ H _ ⟨s, w', k', _⟩ => .inl (.inl (k' a _ an ha))) (fun i x σ H hx' ⟨s, w', k', si, q⟩ => ?_) (fun σ H ⟨s, w', k', si, q⟩ => ?_)
  · have hi : i < xs.length := (List.getElem?_eq_some_iff.mp hx').1
    have hit : items[i]? = some (items[i]'(by omega)) := List.getElem?_eq_getElem (by omega)
    rw [drop_cons' hit] at q
    obtain ⟨v, hv, rv⟩ := repL_get (repL_keep k' hx) (j := i) (d := e (items[i]'(by omega))) (by rw [List.getElem?_map, hit]; rfl)
    rw [hx'] at hv
    have ev : x = v := Option.some.inj hv
    subst ev
    exact hs _ x s _ σ H w' k' si rv q _ fun s' σ' H' hk w2 k2 si2 => ⟨s', w2, k2, si2, hk⟩
  · rw [List.drop_of_length_le (by omega)] at q
    exact hd s σ H q w' k' si
/-- while -/
theorem while_C {c : TT} {fuel : Nat} {body : S → (S → Prop) → (S → Prop) → Prop} {KM : S → Prop} (SI : S → L2.St → Hp → Prop) (s0 : S) (w : Wd ms ps (cs s0) H0 H1) (hM : whileC body fuel s0 KM) (h0 : SI s0 σ H1)
    (hs : ∀ (s : S) (k1 k2 : S → Prop) (σ : L2.St) (H : Hp), Wd ms ps (cs s) H0 H → Keep ms H1 H → SI s σ H → body s k1 k2 → ∀ (Nx : L2.St → Hp → Prop) (Ex : L2.St → Hp → Prop), (∀ s' σ' H', k1 s' → Wd ms ps (cs s') H0 H' → Keep ms H1 H' → SI s' σ' H' → Nx σ' H') → (∀ s' σ' H', k2 s' → Wd ms ps (cs s') H0 H' → Keep ms H1 H' → SI s' σ' H' → Ex σ' H') →
      c σ H fun b H1 => if b = true then tb { D' with nx := Nx, ct := Nx, bk := D'.nx } σ H1 else Ex σ H1)
    (hd : ∀ s σ H, KM s → Wd ms ps (cs s) H0 H → Keep ms H1 H → SI s σ H → D'.nx σ H)
    (mono : ∀ σ H Q Q', (∀ b H1, Q b H1 → Q' b H1) → c σ H Q → c σ H Q') : tWhile c tb D' σ H1 := by
  refine ⟨fun m σ H => ∃ s, Wd ms ps (cs s) H0 H ∧ Keep ms H1 H ∧ SI s σ H ∧ whileC body m s KM, ⟨fuel, s0, w, Keep.refl, h0, hM⟩, ?_⟩
  rintro m σ H ⟨s, w', k', si, q⟩
  cases m with
  | zero => exact False.elim q
  | succ m =>
    refine mono _ _ _ _ (fun b H2 hb => ?_) (hs s _ _ σ H w' k' si q (fun σ' H' => ∃ s, Wd ms ps (cs s) H0 H' ∧ Keep ms H1 H' ∧ SI s σ' H' ∧ whileC body m s KM) D'.nx (fun s' σ' H' hk w2 k2 si2 => ⟨s', w2, k2, si2, hk⟩) fun s' σ' H' hk w2 k2 si2 => hd s' σ' H' hk w2 k2 si2)
    cases b with
    | true => exact ⟨_, fun σ' H' p => ⟨m, Nat.lt_succ_self m, p⟩, hb⟩
    | false => exact hb
end

section
variable {K : PySem.W.Frag} {ms : List Addr} {H : Hp} {d : D} {u x y : V}
theorem repL_uncons {ds : List D} {vs : List V} (h : repL ms H (d :: ds) vs) : ∃ u us, vs = u :: us ∧ rep ms H d u ∧ repL ms H ds us := by
  simp only [repL] at h
  exact h
theorem repL_empty {vs : List V} (h : repL ms H [] vs) : vs = [] := by
  simp only [repL] at h
  exact h
theorem repL_ints {ns : List Int} {vs : List V} (h : repL ms H (ns.map fun n => D.v (.int n)) vs) : vs = ns.map V.int := by
  have e : (ns.map fun n => D.v (.int n)) = (ns.map V.int).map D.v := by rw [List.map_map]; rfl
  rw [e] at h
  exact repL_flat.mp h
theorem repL_strs {ns : List Str} {vs : List V} (h : repL ms H (ns.map fun n => D.v (.str n)) vs) : vs = ns.map V.str := by
  have e : (ns.map fun n => D.v (.str n)) = (ns.map V.str).map D.v := by rw [List.map_map]; rfl
  rw [e] at h
  exact repL_flat.mp h
theorem repL_bls {ns : List Bool} {vs : List V} (h : repL ms H (ns.map fun n => D.v (.bl n)) vs) : vs = ns.map V.bl := by
  have e : (ns.map fun n => D.v (.bl n)) = (ns.map V.bl).map D.v := by rw [List.map_map]; rfl
  rw [e] at h
  exact repL_flat.mp h
theorem rep_join {a : Str} {ys : List Str} {P : Str → List Str → Prop} (h : rep ms H (.lst (ys.map fun n => D.v (.str n))) x) (hz : (ys.map (·.length)).sum + ys.length * a.length ≤ 16777216) (k : P a ys) :
    ∃ a' p, ∃ ys : List Str, V.str a = .str a' ∧ [x] = [.ref p] ∧ (SqL K H p (ys.map V.str) ∨ SqT K H p (ys.map V.str)) ∧ (ys.map (·.length)).sum + ys.length * a'.length ≤ 16777216 ∧ P a' ys := by
  simp only [rep] at h
  obtain ⟨p, vs, e, _, hp, hr⟩ := h
  have ev := repL_strs hr
  subst ev e
  exact ⟨a, p, ys, rfl, rfl, .inl (.inl (.inl hp)), hz, k⟩
theorem rep_all {ys : List Bool} {P : List Bool → Prop} (h : rep ms H (.lst (ys.map fun n => D.v (.bl n))) x) (k : P ys) : ∃ (a : Addr) (bs : List Bool), [x] = [V.ref a] ∧ SqL K H a (bs.map V.bl) ∧ P bs := by
  simp only [rep] at h
  obtain ⟨p, vs, e, _, hp, hr⟩ := h
  have ev := repL_bls hr
  subst ev e
  exact ⟨p, ys, rfl, .inl (.inl hp), k⟩
/-! data as the library data, for == -/
mutual
def pyOf : D → PyData
  | .v .non => .none
  | .v (.bl b) => .bool b
  | .v (.int i) => .int i
  | .v (.str z) => .str z
  | .v _ => .none
  | .lst ds => .list (pyL ds)
  | .tup ds => .tuple (pyL ds)
  | .ins _ _ _ => .none
  | .dct _ _ => .none
  | .dcT _ _ => .none
def pyL : List D → List PyData
  | [] => []
  | d :: ds => pyOf d :: pyL ds
def plainD : D → Bool
  | .v .non => true
  | .v (.bl _) => true
  | .v (.int _) => true
  | .v (.str _) => true
  | .v _ => false
  | .lst ds => plainL ds
  | .tup ds => plainL ds
  | .ins _ _ _ => false
  | .dct _ _ => false
  | .dcT _ _ => false
def plainL : List D → Bool
  | [] => true
  | d :: ds => plainD d && plainL ds
end
mutual
theorem dp_of : ∀ (d : D) (u : V), plainD d = true → rep ms H d u → Dp K H u (pyOf d)
  | .v x, u, p, h => by
    have e := of_v h
    subst e
    cases u <;> simp only [pyOf, plainD] at p ⊢ <;> first | exact .non | exact .bl _ | exact .int _ | exact .str _ | cases p
  | .lst ds, u, p, h => by
    simp only [rep] at h
    obtain ⟨a, vs, e, _, hp, hr⟩ := h
    subst e
    simp only [pyOf, plainD] at p ⊢
    exact .lst (.inl (.inl hp)) (dpL_of ds vs p hr)
  | .tup ds, u, p, h => by
    simp only [rep] at h
    obtain ⟨a, vs, e, _, hp, hr⟩ := h
    subst e
    simp only [pyOf, plainD] at p ⊢
    exact .tup (.inl (.inl hp)) (dpL_of ds vs p hr)
  | .ins _ _ _, u, p, h => by
    simp only [plainD] at p
    cases p
  | .dct _ _, u, p, h => by
    simp only [plainD] at p
    cases p
  | .dcT _ _, u, p, h => by
    simp only [plainD] at p
    cases p
theorem dpL_of : ∀ (ds : List D) (vs : List V), plainL ds = true → repL ms H ds vs → DpAll K H vs (pyL ds)
  | [], vs, p, h => by
    have e := repL_empty h
    subst e
    simp only [pyL]
    exact .nil
  | d :: ds, vs, p, h => by
    obtain ⟨u, us, e, h1, h2⟩ := repL_uncons h
    subst e
    simp only [plainL, Bool.and_eq_true] at p
    simp only [pyL]
    exact .cons (dp_of d u p.1 h1) (dpL_of ds us p.2 h2)
end
theorem rep_eqD {d e : D} {Q : VK} (h1 : rep ms H d x) (h2 : rep ms H e y) (p1 : plainD d = true) (p2 : plainD e = true) (s1 : SeqAt.shaped (pyOf d) = true) (s2 : SeqAt.shaped (pyOf e) = true) (k : Q (.bl (PyData.eqv (pyOf d) (pyOf e))) H) : rEqD K x y H Q :=
  ⟨_, _, dp_of d x p1 h1, dp_of e y p2 h2, s1, s2, k⟩
theorem rep_neD {d e : D} {Q : VK} (h1 : rep ms H d x) (h2 : rep ms H e y) (p1 : plainD d = true) (p2 : plainD e = true) (s1 : SeqAt.shaped (pyOf d) = true) (s2 : SeqAt.shaped (pyOf e) = true) (k : Q (.bl (!PyData.eqv (pyOf d) (pyOf e))) H) : rNeD K x y H Q :=
  ⟨_, _, dp_of d x p1 h1, dp_of e y p2 h2, s1, s2, k⟩
end

section
variable {ms : List Addr} {H H' H1 : Hp} {d : D} {u : V} {l : Addr}
theorem Keep.trans (a : Keep ms H1 H) (b : Keep ms H H') : Keep ms H1 H' := fun x o n h => b x o n (a x o n h)
theorem Keep.new (k : Keep ms H1 H) : Keep (l :: ms) H1 H := fun x o n h => k x o (fun z => n (List.mem_cons_of_mem _ z)) h
theorem rep_new (nl : H l = none) (h : rep ms H d u) : rep (l :: ms) H d u := rep_map (fun p o n hp => ⟨fun z => by
  rcases List.mem_cons.mp z with z | z
  · exact ne_of_none hp nl z
  · exact n z, hp⟩) d u h
theorem repL_new {ds : List D} {us : List V} (nl : H l = none) (h : repL ms H ds us) : repL (l :: ms) H ds us := repL_map (fun p o n hp => ⟨fun z => by
  rcases List.mem_cons.mp z with z | z
  · exact ne_of_none hp nl z
  · exact n z, hp⟩) ds us h
end

/-! ### a method called by keywords alone -/
def tMethK (C : Addr) (m : Str) (n : Nat) (gV : List V → List V → List V) (sp : Sp) (E : XK) (ta : TE) (tk : TA) : TE := fun σ H Q => ta σ H fun x H1 => ∃ a dx fs, x = .ref a ∧ H1 a = some (.ins C dx fs) ∧ fs.lookup m = none ∧
  tk σ H1 fun zs H2 => zs.length = n ∧ sp (gV [x] zs) H2 Q E
section
variable {X : Cx} {CX : CXT} {k : Nat} {f C : Addr} {fd : FuncData} {ps ks : List Str} {sp : Sp} {E : XK} {m : Str} {apos pos : Pos} {o : Expr} {kws : List Keyword} {ta : TE} {tk : TA} {g : List Value → List Value → List Value} {gV : List V → List V → List V}
theorem pe_methK0 {pl : Sem Bool} (he : PE X o ta) (c : Cls X.K C) (hm : Meth X.K C m f) (F : FnOk X.prog X.w X.K X.mg X.base CX k f fd ps sp) (hr : Room k X.A) (hb : KBn X.K fd ps 1 ks g gV) (hx : Passes CX X E) (hkw : PK X kws tk)
    (hall : (backToKw pos (keywordEach kws X.env)).all (·.1.isSome) = true := by rfl) (hks : (backToKw pos (keywordEach kws X.env)).filterMap (·.1) = ks := by rfl)
    (hpl : ((backTo pos (starEach [] X.env)).any (·.1) || (backToKw pos (keywordEach kws X.env)).any (·.1.isNone)) = false := by rfl)
    (ht : eval (.Call (.Attribute o m apos) [] kws pos) X.env = (do
      let ov ← eval o X.env
      standAt apos.atName
      let (f, first) ← holding [ov] (getMethod ov m pl)
      callWith pos f first (backTo pos (starEach [] X.env)) (backToKw pos (keywordEach kws X.env))) := by rfl) :
    PE X (.Call (.Attribute o m apos) [] kws pos) (tMethK C m ks.length gV sp E ta tk) := by
  refine ⟨fun pins s σ H Q I h => ?_⟩
  refine PySem.W.methodCall_KW (pl := pl) (thn (he.run pins s σ H _ I h) fun u s1 ⟨x, H1, I1, rx, a, dx, fs, ex, ea, l, q⟩ => ?_) ht
  subst ex
  obtain rfl : u = Value.ref a := rx
  refine getmeth_ok I1 ea c hm l ?_
  refine PySem.W.callWith_KW0 (first := [.ref a]) (h₀ := X.base) I.ok.mod.kin hm.kp hall ?_ hpl
  refine thn (hkw.run pos pins s1 σ H1 _ I1 q) fun ws s2 ⟨zs, H2, I2, rz, l2, q2⟩ => ⟨I2.kIn, ?_⟩
  rw [hks]
  exact run_fnN (us := [.ref a]) (vs := [.ref a]) F hr hb hx I2 (.cons rfl .nil) rz rfl l2 q2
end
end Rx
namespace Rx
open PySem PySem.Spec PyProof.Rows L2
theorem vals_getD : ∀ {zs : List V} {ws : List Value}, Vals zs ws → ∀ j : Nat, RelV (zs.getD j .non) (ws.getD j .none)
  | _, _, .nil, _ => rfl
  | _, _, .cons r _, 0 => r
  | _, _, .cons _ t, j + 1 => vals_getD t j
theorem tyes_of {σ : L2.St} {H : Hp} {A B : Hp → Prop} (h : A H) : tYes σ H fun b H3 => if b = true then A H3 else B H3 := by
  show (if true = true then A H else B H)
  rw [if_pos rfl]
  exact h
theorem Ret.keep {H H' : Hp} (e : Ret [] H H') {a : Addr} {o : HO} (h : H a = some o) : H' a = some o := e.kp a o (by simp) h
end Rx
namespace Rx
open PySem PySem.Spec PyProof.Rows L2
section
variable {X : Cx}
def rMulS : R2 := fun x y H Q => ∃ (a : Str) (k : Int), x = .str a ∧ y = .int k ∧ MulOk a k ∧ Q (.str (Txt.mul a k)) H
theorem op_mulS : OpR X (binaryOp .Mult) rMulS := by
  intro pins s σ H x y v u Q I rx ry h
  obtain ⟨a, k, rfl, rfl, ok, q⟩ := h
  obtain ⟨t, rfl⟩ := rx
  obtain ⟨t', rfl⟩ := ry
  exact SB.mul ok fun t' tk => ⟨.str (Txt.mul a k), H, I.tok _, ⟨_, rfl⟩, q⟩
end

/-! own == -/
def rOwnEq (C : Addr) (sp : Sp) (E : XK) : R2 := fun x y H Q => ∃ a b dx dy fs gs, x = .ref a ∧ y = .ref b ∧ H a = some (.ins C dx fs) ∧ H b = some (.ins C dy gs) ∧ sp [x, y] H (fun v H' => ∃ r : Bool, v = .bl r ∧ Q v H') E
structure OwnEq (K : PySem.W.Frag) (C f : Addr) : Prop where
  hs : PySem.W.findIn K (.ref C) "__eq__" = some (some (.ref f))
  hf : PySem.W.isFn K (.ref f) = true
theorem op_eqOwn {X : Cx} {n : Nat} {CX : CXT} {C f : Addr} {fd : FuncData} {ps : List Str} {sp : Sp} {E : XK} (F : FnOk X.prog X.w X.K X.mg X.base CX n f fd ps sp) (hr : Room n X.A)
    (o : OwnEq X.K C f) (hb : Binds X.K fd ps []) (hx : Passes CX X E) : OpR X (compareOp .Eq) (rOwnEq C sp E) := by
  intro pins s σ H x y v u Q I rx ry d
  show wpAny (model X.prog X.w) X.A (richCompare .Eq v u) (EP X pins σ Q) X.xe s
  obtain ⟨a, b, dx, dy, fs, gs, rfl, rfl, ha, hb', hsp⟩ := d
  cases rx
  cases ry
  obtain ⟨mA, J, _⟩ := ins_get I.hok ha
  obtain ⟨mB, J', _⟩ := ins_get I.hok hb'
  obtain ⟨od, J, _⟩ := J.look
  obtain ⟨od', J', _⟩ := J'.look
  obtain ⟨m, hF⟩ := I.fr
  refine PySem.W.cmp_K (op := .Eq) (tb := .ref C) hr.units0 hF I.ok.mod.kin J J'.type (by simp [PySem.W.notFirst]) o.hs o.hf ?_
  have hl := F.len _ _ _ _ hsp
  have r2 : Vals [V.ref a, V.ref b] [Value.ref a, Value.ref b] := .cons rfl (.cons rfl .nil)
  refine wpAny_call (codeAny_mono (F.run X.A X.stack s H ⟨[.ref a, .ref b], []⟩ [.ref a, .ref b] [.ref a, .ref b] _ E hr I.env0 (by
    have := hb s [.ref a, .ref b] I.kIn (by simpa using hl)
    simpa using this) r2 hsp) fun r s' hq => ?_)
  cases r with
  | error e => exact hx pins σ H s e s' I hq
  | ok fl =>
    cases fl with
    | ret w =>
      obtain ⟨z, H', I', rz, ⟨r, ez, q⟩⟩ := I.after hq
      subst ez
      cases (show w = Value.bool r from rz)
      exact ⟨.bl r, H', I', rfl, q⟩
    | next => exact False.elim hq
    | brk => exact False.elim hq
    | cont => exact False.elim hq
section
variable {K : PySem.W.Frag} {ms ps : List Addr} {cs : List (Addr × List V)} {H H0 H1 : Hp} {d : D} {u x y : V}
theorem rep_ins {C : Addr} {ns : List Str} {ds : List D} (h : rep ms H (.ins C ns ds) u) : ∃ p dx fs, u = .ref p ∧ H p = some (.ins C dx fs) := by
  simp only [rep] at h
  obtain ⟨p, dx, vs, e, _, hp, _⟩ := h
  exact ⟨p, dx, _, e, hp⟩
theorem rep_eqOwn {C : Addr} {ns ns' : List Str} {ds ds' : List D} {sp : Sp} {E : XK} {Q : VK} (h1 : rep ms H (.ins C ns ds) x) (h2 : rep ms H (.ins C ns' ds') y) (k : sp [x, y] H (fun v H' => ∃ r : Bool, v = .bl r ∧ Q v H') E) : rOwnEq C sp E x y H Q := by
  obtain ⟨p, dx, fs, e, hp⟩ := rep_ins h1
  obtain ⟨q, dy, gs, e', hq⟩ := rep_ins h2
  subst e e'
  exact ⟨p, q, dx, dy, fs, gs, rfl, rfl, hp, hq, k⟩
/-! list + list -/
theorem rep_cat {α : Type} {xs ys : List α} {e : α → D} {Q : VK} (w : Wd ms ps cs H0 H) (h1 : rep ms H (.lst (xs.map e)) x) (h2 : rep ms H (.lst (ys.map e)) y) (hz : xs.length + ys.length ≤ sizeLine)
    (k : ∀ p H', Ret [] H H' → rep ms H' (.lst ((xs ++ ys).map e)) (.ref p) → Q (.ref p) H') : rCat x y H Q := by
  simp only [rep] at h1 h2
  obtain ⟨p, vs, rfl, np, hp, r1⟩ := h1
  obtain ⟨q, us, rfl, nq, hq, r2⟩ := h2
  have l1 := repL_len r1
  have l2 := repL_len r2
  rw [List.length_map] at l1 l2
  refine ⟨p, q, vs, us, rfl, rfl, hp, hq, by rw [← l1, ← l2]; exact hz, fun a na => ?_⟩
  have ee : Ret [] H (upd H a (.lst (vs ++ us))) := Ext.new na
  refine k a _ ee ?_
  simp only [rep]
  refine ⟨a, vs ++ us, rfl, fun z => w.tr a z na, upd_same, ?_⟩
  rw [List.map_append]
  exact repL_app (repL_ext ee r1) (repL_ext ee r2)
/-! isinstance(x, C), x of the class C -/
structure IsC (K : PySem.W.Frag) (C : Addr) : Prop where
  cl : Cls K C
  ha : PySem.W.findIn K (.ref C) "__class__" = some (some (.builtin "object.__class__"))
  hn : PySem.W.specialIn K (.builtin "object.__class__") "__get__" = some (some (.builtin "getset_descriptor.__get__"))
  tk : PySem.W.takesIn K (.builtin "object.__class__") = some true
  hm : PySem.W.mroIn K C (.type "object") = some true
theorem rep_isi {C : Addr} {ns : List Str} {ds : List D} {P : Bool → Prop} (h : rep ms H (.ins C ns ds) x) (c : IsC K C) (k : P true) :
    ∃ (x' c : V) (t u : Value) (b : Bool), [x, .ref C] = [x', c] ∧ ClsV c u ∧ TyX K H x' t ∧ PySem.W.kitOne K t u = some b ∧ P b := by
  obtain ⟨p, dx, fs, e, hp⟩ := rep_ins h
  subst e
  refine ⟨_, _, _, _, true, rfl, .own C, .base (.ins hp c.cl c.ha c.hn c.tk c.hm), ?_, k⟩
  simp [PySem.W.kitOne]
/-! list.count of texts -/
def rCntS (K : PySem.W.Frag) : V → List V → Hp → VK → Prop := fun x xs H Q => ∃ (p : Addr) (ns : List Str) (k : Str), x = .ref p ∧ xs = [.str k] ∧ SqL K H p (ns.map V.str) ∧ Q (.int (ns.count k : Nat)) H
def eqs (k : Str) (v : Value) : Bool := match v with
  | .str n _ => n == k
  | _ => false
theorem eqs_at {A : Around} {s : Shared} {k : Str} {t : Tok} : ∀ {ns : List Str} {us : List Value}, Vals (ns.map V.str) us → ∀ y ∈ us, SeqAt.EqAt A s y (.str k t) (eqs k y)
  | [], _, .nil => fun y hy => by cases hy
  | n :: ns, _, .cons r h => fun y hy => by
    rcases List.mem_cons.mp hy with e | e
    · subst e
      obtain ⟨t', rfl⟩ := r
      exact SeqAt.EqAt.str_str n t' k t
    · exact eqs_at h y e
theorem eqs_count {k : Str} : ∀ {ns : List Str} {us : List Value}, Vals (ns.map V.str) us → us.countP (eqs k) = ns.count k
  | [], _, .nil => rfl
  | n :: ns, _, .cons r h => by
    have ih := eqs_count (k := k) h
    obtain ⟨t', rfl⟩ := r
    rw [List.countP_cons, List.count_cons, ih] <;> rfl
theorem mt_lcountS {X : Cx} : MtR X "list.count" (rCntS X.K) := by
  intro pins s σ H x xs v us Q I rx rxs h
  obtain ⟨p, ns, k, rfl, rfl, hs, q⟩ := h
  cases rx
  obtain ⟨u, rfl, ru⟩ := rxs.one
  obtain ⟨t, rfl⟩ := ru
  obtain ⟨its, rv, ⟨⟨cls, dd, data, sl⟩, n, ho, hc, hdn, hd⟩, hlen⟩ := I.list hs
  simp only at hc hd
  subst hc hd
  refine call_meets PySem.F.slot_list_count ⟨_, ho, rfl⟩ PySem.F.entry_list_count (PySem.F.args_list_count_2 _ _)
    (SeqAt.list_countAt p its.toArray n dd sl (.str k t) (eqs k)) ⟨ho, fun y hy => eqs_at rv y (by simpa using hy), ?_⟩
  have ec : its.toArray.toList.countP (eqs k) = ns.count k := eqs_count rv
  refine ⟨.int (ns.count k : Nat), H, I.tok _, ⟨s.toks, ?_⟩, q⟩
  show Value.int ((its.toArray.toList.countP (eqs k) : Nat) : Int) s.toks = Value.int ((ns.count k : Nat) : Int) s.toks
  rw [ec]
theorem rep_lcountS {ns : List Str} {k : Str} {P : List Str → Str → Prop} (h : rep ms H (.lst (ns.map fun n => D.v (.str n))) x) (q : P ns k) :
    ∃ (p : Addr) (ns : List Str) (k' : Str), x = .ref p ∧ [V.str k] = [.str k'] ∧ SqL K H p (ns.map V.str) ∧ P ns k' := by
  simp only [rep] at h
  obtain ⟨p, vs, e, _, hp, hr⟩ := h
  have ev := repL_strs hr
  subst ev e
  exact ⟨p, ns, k, rfl, rfl, .inl (.inl hp), q⟩
/-! written dicts of texts -/
theorem kd_nil {w : World} {a : Addr} : ∀ z c : Str, ([] : List (Str × Str)).lookup z = some c → KDct K w a z (.str c) := fun _ _ h => by cases h
theorem kd_cons {w : World} {a : Addr} {k v : Str} {l : List (Str × Str)} (h : KDct K w a k (.str v)) (t : ∀ z c : Str, l.lookup z = some c → KDct K w a z (.str c)) : ∀ z c : Str, ((k, v) :: l).lookup z = some c → KDct K w a z (.str c) := by
  intro z c e
  rw [List.lookup_cons] at e
  by_cases q : (z == k) = true
  · rw [q] at e
    have e1 : v = c := Option.some.inj e
    subst e1
    rw [eq_of_beq q]
    exact h
  · have q' : (z == k) = false := by simpa using q
    rw [q'] at e
    exact t z c e
theorem rep_ixD {w : World} {a : Addr} {l : List (Str × Str)} {z c : Str} {Q : VK} (t : ∀ z c : Str, l.lookup z = some c → KDct K w a z (.str c)) (h : l.lookup z = some c) (q : Q (.str c) H) : rIxD K w (.ref a) (.str z) H Q :=
  ⟨a, z, .str c, rfl, rfl, t z c h, q⟩
theorem ix_kdictW {X : Cx} {w : World} (hK : X.K = K) (hw : X.w = w) : IxR X (rIxD K w) := by
  subst hK hw
  exact ix_kdict
theorem rep_tyL {ds : List D} (h : rep ms H (.lst ds) x) : tyV K "list" x H := by
  simp only [rep] at h
  obtain ⟨p, vs, e, _, hp, hr⟩ := h
  subst e
  exact .inl ⟨rfl, vs, .inl (.inl hp)⟩
end
/-! the signs of a text -/
def signs (x : Str) : List Str := x.cps.toList.map fun c => ⟨#[c]⟩
theorem signs_len {x : Str} : (signs x).length = x.cps.size := by simp [signs]
theorem signs_get {x : Str} {i : Nat} {c : Nat} (h : x.cps[i]? = some c) : (signs x)[i]? = some ⟨#[c]⟩ := by
  simp only [signs, List.getElem?_map, Array.getElem?_toList, h]
  rfl
section
variable {β : Type} {K : PySem.W.Frag} {ms ps : List Addr} {cs : List (Addr × List V)} {H0 H1 : Hp} {g : TG} {tt : TT} {te : TE} {vl : List Nat} {σ : L2.St} {Qd : Hp → Prop}
/-- [e for x in text] -/
theorem lc_strC {z : Str} {L : Addr} {eb : β → D} {body : Str → (β → Prop) → Prop} {KM : List β → Prop} (w : Wd ms ps cs H0 H1) (nl : H1 L = none) (hM : (signs z).length < 100000 ∧ mapC body (signs z) [] KM)
    (hs : ∀ (x : Str) (n : Nat) (ys : List β) (vs : List V) (k : β → Prop) (H : Hp), n < 100000 → Trn ms ps cs H0 H1 L eb n ys vs H → body x k → ∀ Nx : Hp → Prop, (∀ y vs' H', k y → Trn ms ps cs H0 H1 L eb (n + 1) (ys ++ [y]) vs' H' → Nx H') →
      g (.str x) (wipe σ vl) H fun σ2 H2 => wipe σ2 vl = wipe σ vl ∧ tt σ2 H2 fun b H3 => if b = true then te σ2 H3 fun y H4 => ∃ acc, H4 L = some (.lst acc) ∧ acc.length < sizeLine ∧ Nx (upd H4 L (.lst (acc ++ [y]))) else Nx H3)
    (hd : ∀ ys H, KM ys → Wd ms ps cs H0 H → Keep ms H1 H → rep ms H (.lst (ys.map eb)) (.ref L) → Qd H) :
    ∃ W : Nat → Nat → Hp → Prop, (∃ m, W 0 m (upd H1 L (.lst []))) ∧ ∀ i m H, W i m H →
      ((Its z).stop i H ∧ Qd H) ∨ ((Its z).go i H ∧ ∃ Nx : Hp → Prop, (∀ H', Nx H' → ∃ m', m' < m ∧ W (i + 1) m' H') ∧ ∀ x H', (Its z).yld i H x H' → g x (wipe σ vl) H' fun σ2 H2 => wipe σ2 vl = wipe σ vl ∧ tt σ2 H2 fun b H3 =>
        if b = true then te σ2 H3 fun y H4 => ∃ acc, H4 L = some (.lst acc) ∧ acc.length < sizeLine ∧ Nx (upd H4 L (.lst (acc ++ [y]))) else Nx H3) := by
  obtain ⟨hn, hM⟩ := hM
  rw [signs_len] at hn
  refine ⟨fun i m H => m = z.cps.size - i ∧ i ≤ z.cps.size ∧ ∃ ys vs, Trn ms ps cs H0 H1 L eb i ys vs H ∧ mapC body ((signs z).drop i) ys KM, ⟨_, rfl, Nat.zero_le _, [], [], Trn.start w nl, hM⟩, ?_⟩
  rintro i m H ⟨rfl, hi', ys, vs, T, q⟩
  by_cases hlt : i < z.cps.size
  · refine .inr ⟨hlt, fun H' => i + 1 ≤ z.cps.size ∧ ∃ ys vs, Trn ms ps cs H0 H1 L eb (i + 1) ys vs H' ∧ mapC body ((signs z).drop (i + 1)) ys KM, fun H' p' => ⟨_, by omega, rfl, p'⟩, fun x H' y => ?_⟩
    obtain ⟨e, c, hc, y⟩ := y
    subst e y
    rw [drop_cons' (signs_get hc)] at q
    exact hs _ i ys vs _ H' (by omega) T q _ fun y vs' H' k T' => ⟨hlt, _, _, T', k⟩
  · have e : i = z.cps.size := by omega
    refine .inl ⟨by rw [e]; exact Nat.le_refl _, ?_⟩
    have q' : KM ys := by
      rw [List.drop_of_length_le (by rw [signs_len]; omega)] at q
      exact q
    obtain ⟨w', k', r'⟩ := T.done w nl
    exact hd ys H q' w' k' r'
end
/-! != by the text's own == -/
section
variable {M : Model} {prog : Program} {w : World} {A : Around} {E : Value → Shared → Prop} {s : Shared} {K : PySem.W.Frag} {x y C : Addr} {ox : Obj} {od : Option Obj}
theorem entry_objNe {Q : Fin → Shared → Prop} (hu : A.units < cLine) (hcall : wpAny M A (callSpecialIfBound? (.ref x) (Str.ofString "__eq__") [.ref y]) (fun r s' => ∃ b, r = some (.bool b) ∧ Q (.done (.ret (.bool (!b)))) s') E s) :
    wpAny M A (Builtin.«object.__ne__» ⟨[.ref x, .ref y], []⟩) Q E s := by
  unfold Builtin.«object.__ne__»
  repeat (first
    | with_reducible refine wpAny_cRoomFor hu ?_
    | (refine wpAny_bind (m := callSpecialIfBound? (.ref x) (Str.ofString "__eq__") [.ref y])
        (wpAny_mono hcall (fun r s' hr => by
          obtain ⟨b, rfl, hq⟩ := hr
          repeat (first | exact hq | exact wpAny_pure hq | exact wpAny_truthy_bool hq | (refine wpAny_bind (m := truthy (.bool _)) (wpAny_truthy_bool ?_)) | wp_step)) fun _ _ e => e))
    | wp_step)
theorem call_objNe {Q : Value → Shared → Prop} (X : K.In s.heap) (I : PySem.W.InstAt s.heap x ox C od) (hm : PySem.W.mroIn K C (.type "object") = some true) (hu : A.in1.units < cLine)
    (hcall : wpAny (model prog w) A.in1 (callSpecialIfBound? (.ref x) (Str.ofString "__eq__") [.ref y]) (fun r s' => ∃ b, r = some (.bool b) ∧ Q (.bool (!b)) s') E s) :
    wpAny (model prog w) A (call (.builtin "object.__ne__") [.ref x, .ref y]) Q E s := by
  refine wpAny_call (codeAny_call_builtin F.cmp_object.ne.plain F.cmpEntry_ne (PySem.W.check_slot F.cmpKind_ne F.cmpSplit_ne (I.type.andThen (PySem.W.looks_mroIn X hm)) (F.cmpArgs_ne _ _) (entry_objNe hu (wpAny_mono hcall (fun r s' hr => ?_) fun _ _ e => e))))
  obtain ⟨b, rfl, hq⟩ := hr
  first | exact ⟨b, rfl, hq⟩ | exact ⟨b, rfl, wpAny_pure hq⟩
theorem ifBound_objNe {args : List Value} {Q : Option Value → Shared → Prop} (X : K.In s.heap) (I : PySem.W.InstAt s.heap x ox C od) (hs : PySem.W.findIn K (.ref C) "__ne__" = some (some (.builtin "object.__ne__")))
    (h : wpAny M A (call (.builtin "object.__ne__") (.ref x :: args)) (fun v => Q (some v)) E s) : wpAny M A (callSpecialIfBound? (.ref x) "__ne__" args) Q E s := by
  simp only [callSpecialIfBound?, bindSpecialIfBound?]
  refine wpAny_holding (wpAny_bind (wpAny_bind (wpAny_bind (I.type.here ((PySem.W.looks_findIn X hs).here ?_)))))
  refine wpAny_bind (wpAny_askSetting (wpAny_ite ?_))
  have fin : wpAny M A (call (.builtin "object.__ne__") ([.ref x] ++ args) >>= fun v => pure (some v)) Q E s := wpAny_bind (wpAny_mono h (fun v s' h' => wpAny_pure h') fun _ _ h' => h')
  split
  · exact wpAny_bind (wpAny_of_eq (F.cmp_object.ne.bind _) (wpAny_pure (by exact fin)))
  · exact wpAny_tryCatch (wpAny_bind (wpAny_of_eq (F.cmp_object.ne.bind _) (wpAny_pure (by exact fin))))
end
structure OwnNe (K : PySem.W.Frag) (C : Addr) : Prop where
  hne : PySem.W.findIn K (.ref C) "__ne__" = some (some (.builtin "object.__ne__"))
  hm : PySem.W.mroIn K C (.type "object") = some true
def rOwnNe (C : Addr) (sp : Sp) (E : XK) : R2 := fun x y H Q => ∃ a b dx dy fs gs, x = .ref a ∧ y = .ref b ∧ H a = some (.ins C dx fs) ∧ H b = some (.ins C dy gs) ∧ sp [x, y] H (fun v H' => ∃ r : Bool, v = .bl r ∧ Q (.bl (!r)) H') E
theorem op_neOwn {X : Cx} {n : Nat} {CX : CXT} {C f : Addr} {fd : FuncData} {ps : List Str} {sp : Sp} {E : XK} (F : FnOk X.prog X.w X.K X.mg X.base CX n f fd ps sp) (hr : Room (n + 1) X.A)
    (o : OwnEq X.K C f) (o' : OwnNe X.K C) (hb : Binds X.K fd ps []) (hx : Passes CX X E) : OpR X (compareOp .NotEq) (rOwnNe C sp E) := by
  intro pins s σ H x y v u Q I rx ry d
  show wpAny (model X.prog X.w) X.A (richCompare .NotEq v u) (EP X pins σ Q) X.xe s
  obtain ⟨a, b, dx, dy, fs, gs, rfl, rfl, ha, hb', hsp⟩ := d
  cases rx
  cases ry
  obtain ⟨mA, J, _⟩ := ins_get I.hok ha
  obtain ⟨mB, J', _⟩ := ins_get I.hok hb'
  obtain ⟨od, J, _⟩ := J.look
  obtain ⟨od', J', _⟩ := J'.look
  have hl := F.len _ _ _ _ hsp
  have r2 : Vals [V.ref a, V.ref b] [Value.ref a, Value.ref b] := .cons rfl (.cons rfl .nil)
  have one : wpAny (model X.prog X.w) X.A (tryCompare (.ref a) (cmpInfo .NotEq).2.1 (.ref b)) (fun r s' => ∃ v, r = some v ∧ EP X pins σ Q v s') X.xe s := by
    unfold tryCompare
    refine wpAny_bind (ifBound_objNe I.kIn J o'.hne (call_objNe I.kIn J o'.hm hr.in1.units0 (PySem.W.ifBound_K I.kIn J o.hs o.hf ?_)))
    refine wpAny_call (codeAny_mono (F.run X.A.in1 X.stack s H ⟨[.ref a, .ref b], []⟩ [.ref a, .ref b] [.ref a, .ref b] _ E hr.in1 I.env0.in1 (by
      have := hb s [.ref a, .ref b] I.kIn (by simpa using hl)
      simpa using this) r2 hsp) fun r s' hq => ?_)
    cases r with
    | error e => exact hx pins σ H s e s' I hq
    | ok fl =>
      cases fl with
      | ret w =>
        obtain ⟨z, H', I', rz, ⟨r, ez, q⟩⟩ := I.after hq
        subst ez
        cases (show w = Value.bool r from rz)
        exact ⟨r, rfl, wpAny_pure ⟨_, rfl, .bl (!r), H', I', rfl, q⟩⟩
      | next => exact False.elim hq
      | brk => exact False.elim hq
      | cont => exact False.elim hq
  unfold richCompare
  simp only [oneThing_ref]
  refine wpAny_holding (wpAny_bind (wpAny_cRoomFor hr.units0 ?_))
  refine wpAny_bind (J.type.here (wpAny_bind (J'.type.here ?_)))
  rw [show (Value.ref C != Value.ref C) = false from by simp]
  refine wpAny_bind (wpAny_pure ?_)
  simp only [Bool.false_eq_true, if_false]
  refine wpAny_bind (wpAny_mono one (fun r s' z => ?_) fun _ _ e => e)
  obtain ⟨v, rfl, hq⟩ := z
  exact wpAny_pure hq
theorem rep_neOwn {ms : List Addr} {H : Hp} {x y : V} {C : Addr} {ns ns' : List Str} {ds ds' : List D} {sp : Sp} {E : XK} {Q : VK} (h1 : rep ms H (.ins C ns ds) x) (h2 : rep ms H (.ins C ns' ds') y) (k : sp [x, y] H (fun v H' => ∃ r : Bool, v = .bl r ∧ Q (.bl (!r)) H') E) : rOwnNe C sp E x y H Q := by
  obtain ⟨p, dx, fs, e, hp⟩ := rep_ins h1
  obtain ⟨q, dy, gs, e', hq⟩ := rep_ins h2
  subst e e'
  exact ⟨p, q, dx, dy, fs, gs, rfl, rfl, hp, hq, k⟩
/-! a local list that grows -/
mutual
def noL : D → Bool
  | .v _ => true
  | .lst _ => false
  | .tup ds => noLs ds
  | .ins _ _ ds => noLs ds
  | .dct _ ds => noLs ds
  | .dcT _ ds => noLs ds
def noLs : List D → Bool
  | [] => true
  | d :: ds => noL d && noLs ds
end
section
variable {ms ps : List Addr} {cs : List (Addr × List V)} {H0 H H' : Hp} {L : Addr} {vs : List V}
mutual
theorem rep_lift0 (hL : H L = some (.lst vs)) : ∀ (d : D) (u : V), noL d = true → rep ms H d u → rep (L :: ms) H d u
  | .v x, u, _, h => by
    simp only [rep] at h ⊢
    exact h
  | .lst ds, u, n, h => by
    simp only [noL] at n
    cases n
  | .tup ds, u, n, h => by
    simp only [noL] at n
    simp only [rep] at h ⊢
    obtain ⟨p, us, e, np, hp, hl⟩ := h
    refine ⟨p, us, e, fun z => ?_, hp, repL_lift0 hL ds us n hl⟩
    rcases List.mem_cons.mp z with z | z
    · rw [z, hL] at hp
      cases hp
    · exact np z
  | .ins C ns ds, u, n, h => by
    simp only [noL] at n
    simp only [rep] at h ⊢
    obtain ⟨p, dx, us, e, np, hp, hn, hl⟩ := h
    refine ⟨p, dx, us, e, fun z => ?_, hp, hn, repL_lift0 hL ds us n hl⟩
    rcases List.mem_cons.mp z with z | z
    · rw [z, hL] at hp
      cases hp
    · exact np z
  | .dct ks ds, u, n, h => by
    simp only [noL] at n
    simp only [rep] at h ⊢
    obtain ⟨p, us, e, np, hp, hn, hl⟩ := h
    refine ⟨p, us, e, fun z => ?_, hp, hn, repL_lift0 hL ds us n hl⟩
    rcases List.mem_cons.mp z with z | z
    · rw [z, hL] at hp
      cases hp
    · exact np z
  | .dcT ks ds, u, n, h => by
    simp only [noL] at n
    simp only [rep] at h ⊢
    obtain ⟨p, us, e, np, hp, hn, hl⟩ := h
    refine ⟨p, us, e, fun z => ?_, hp, hn, repL_lift0 hL ds us n hl⟩
    rcases List.mem_cons.mp z with z | z
    · rw [z, hL] at hp
      cases hp
    · exact np z
theorem repL_lift0 (hL : H L = some (.lst vs)) : ∀ (ds : List D) (us : List V), noLs ds = true → repL ms H ds us → repL (L :: ms) H ds us
  | [], us, _, h => by
    simp only [repL] at h ⊢
    exact h
  | d :: ds, us, n, h => by
    simp only [noLs, Bool.and_eq_true] at n
    simp only [repL] at h ⊢
    obtain ⟨u, ws, e, h1, h2⟩ := h
    exact ⟨u, ws, e, rep_lift0 hL d u n.1 h1, repL_lift0 hL ds ws n.2 h2⟩
end
structure Mut (ms ps : List Addr) (cs : List (Addr × List V)) (H0 H : Hp) (L : Addr) (ds : List D) : Prop where
  hp : L ∉ ps
  h0 : H0 L = none
  hc : ∀ c ∈ cs, c.1 ≠ L
  nm : L ∉ ms
  val : ∃ vs, H L = some (.lst vs) ∧ repL (L :: ms) H ds vs
variable {ds : List D} {d : D} {u : V}
theorem mut_new (w : Wd ms ps cs H0 H) (nl : H L = none) (r : repL ms H ds vs) : Wd (L :: ms) ps cs H0 (upd H L (.lst vs)) ∧ Mut ms ps cs H0 (upd H L (.lst vs)) L ds := by
  have wc := Wd.cell (xs := vs) w nl
  have nL : L ∉ ms := fun z => w.tr L z nl
  refine ⟨⟨wc.kp, wc.grow, wc.tr, wc.pot, wc.pm, fun c h => wc.cel c (List.mem_cons_of_mem _ h)⟩, (wc.cel _ List.mem_cons_self).2.2.1, (wc.cel _ List.mem_cons_self).2.2.2, new_ne w nl, nL, vs, upd_same, ?_⟩
  exact repL_map (fun p o n hp => ⟨fun z => by
    rcases List.mem_cons.mp z with z | z
    · exact ne_of_none hp nl z
    · exact n z, by rw [upd_ne (ne_of_none hp nl)]; exact hp⟩) _ _ r
theorem mut_ret (w : Wd (L :: ms) ps cs H0 H) (e : Ret ps H H') (m : Mut ms ps cs H0 H L ds) : Mut ms ps cs H0 H' L ds := by
  obtain ⟨vs, h1, h2⟩ := m.val
  exact ⟨m.hp, m.h0, m.hc, m.nm, vs, e.kp L _ m.hp h1, repL_ret w e h2⟩
theorem mut_ext (e : Ret [] H H') (m : Mut ms ps cs H0 H L ds) : Mut ms ps cs H0 H' L ds := by
  obtain ⟨vs, h1, h2⟩ := m.val
  exact ⟨m.hp, m.h0, m.hc, m.nm, vs, e.kp L _ (by simp) h1, repL_ext e h2⟩
theorem mut_drop (m : Mut ms ps cs H0 H L ds) (w : Wd (L :: ms) ps cs H0 H) : Wd ms ps cs H0 H := by
  refine ⟨w.kp, w.grow, fun a h => w.tr a (List.mem_cons_of_mem _ h), w.pot, fun a h => ?_, fun c h => ?_⟩
  · rcases List.mem_cons.mp (w.pm a h) with z | z
    · rw [z] at h
      exact absurd h m.hp
    · exact z
  · obtain ⟨h1, h2, h3, h4⟩ := w.cel c h
    refine ⟨h1, ?_, h3, h4⟩
    rcases List.mem_cons.mp h2 with z | z
    · exact absurd z (m.hc c h)
    · exact z
theorem mut_rep (m : Mut ms ps cs H0 H L ds) : rep ms H (.lst ds) (.ref L) := by
  obtain ⟨vs, h1, h2⟩ := m.val
  simp only [rep]
  exact ⟨L, vs, rfl, m.nm, h1, repL_weak h2⟩
theorem rep_lift (m : Mut ms ps cs H0 H L ds) (n : noL d = true) (h : rep ms H d u) : rep (L :: ms) H d u := by
  obtain ⟨vs, h1, _⟩ := m.val
  exact rep_lift0 h1 d u n h
theorem mut_app {P : Addr → List V → V → Prop} (m : Mut ms ps cs H0 H L ds) (hl : ds.length < 16777216) (k : ∀ vs, H L = some (.lst vs) → repL (L :: ms) H ds vs → P L vs u) :
    ∃ (l : Addr) (xs : List V) (y : V), V.ref L = .ref l ∧ [u] = [y] ∧ H l = some (.lst xs) ∧ xs.length < sizeLine ∧ P l xs y := by
  obtain ⟨vs, h1, h2⟩ := m.val
  refine ⟨L, vs, u, rfl, rfl, h1, ?_, k vs h1 h2⟩
  rw [← repL_len h2, sizeLine_eq]
  exact hl
theorem mut_upd (w : Wd (L :: ms) ps cs H0 H) (m : Mut ms ps cs H0 H L ds) (hv : H L = some (.lst vs)) (h2 : repL (L :: ms) H ds vs) (r : rep (L :: ms) H d u) :
    Wd (L :: ms) ps cs H0 (upd H L (.lst (vs ++ [u]))) ∧ Mut ms ps cs H0 (upd H L (.lst (vs ++ [u]))) L (ds ++ [d]) ∧ (∀ d' u', rep (L :: ms) H d' u' → rep (L :: ms) (upd H L (.lst (vs ++ [u]))) d' u') ∧ True := by
  refine ⟨⟨fun a o n h => ?_, fun a h => ?_, fun a h => ?_, fun a h => ?_, w.pm, fun c h => ?_⟩, ⟨m.hp, m.h0, m.hc, m.nm, _, upd_same, ?_⟩, fun d u' h => ?_, trivial⟩
  · rw [upd_ne (ne_of_none h m.h0)]
    exact w.kp a o n h
  · by_cases e : a = L
    · rw [e, upd_same]
      exact fun z => nomatch z
    · rw [upd_ne e]
      exact w.grow a h
  · by_cases e : a = L
    · rw [e, upd_same]
      exact fun z => nomatch z
    · rw [upd_ne e]
      exact w.tr a h
  · obtain ⟨i, j, h1, h3⟩ := w.pot a h
    exact ⟨i, j, by rw [upd_ne (fun z => m.hp (by rw [← z]; exact h))]; exact h1, h3⟩
  · obtain ⟨h1, h3, h4, h5⟩ := w.cel c h
    exact ⟨by rw [upd_ne (m.hc c h)]; exact h1, h3, h4, h5⟩
  · exact repL_put List.mem_cons_self (repL_app h2 (repL_one r))
  · exact rep_put List.mem_cons_self h
end
section
variable {ms ps : List Addr} {cs : List (Addr × List V)} {H0 H H1 H' : Hp} {L : Addr} {K : PySem.W.Frag} {x : V}
theorem keep_none {w : Wd ms ps cs H0 H} (nl : H L = none) (k : Keep ms H1 H) : H1 L = none := by
  have nL : L ∉ ms := fun z => w.tr L z nl
  cases q : H1 L with
  | none => rfl
  | some o =>
    have := k L o nL q
    rw [nl] at this
    cases this
theorem keep_frz (n : H1 L = none) (k : Keep (L :: ms) H1 H) : Keep ms H1 H := fun a o na h => k a o (fun z => by
  rcases List.mem_cons.mp z with z | z
  · rw [z, n] at h
    cases h
  · exact na z) h
theorem rep_ixN {α : Type} {e : α → D} {xs : List α} {i : Int} {y : α} {Q : VK} (h : rep ms H (.lst (xs.map e)) x) (hi : atI xs i = some y) (k : ∀ v, rep ms H (e y) v → Q v H) : rIxL K x (.int i) H Q := by
  simp only [rep] at h
  obtain ⟨p, vs, e', _, hp, hr⟩ := h
  have hl := repL_len hr
  rw [List.length_map] at hl
  unfold atI at hi
  cases hx : ixN xs.length i with
  | none =>
    rw [hx] at hi
    cases hi
  | some j =>
    rw [hx] at hi
    have hj : xs[j]? = some y := hi
    obtain ⟨v, hv, rv⟩ := repL_get (d := e y) (j := j) hr (by rw [List.getElem?_map, hj]; rfl)
    refine ⟨p, vs, i, v, e', rfl, .inl (.inl hp), ?_, k v rv⟩
    unfold atI
    rw [← hl, hx]
    exact hv
theorem rep_rg_mk {p : Addr} {a b : Int} (w : Wd ms ps cs H0 H) (np : H p = none) (e : Ret [] H H') (hp : H' p = some (.lst (rgV a b))) : rep ms H' (.lst ((rangeI a b).map fun n => D.v (.int n))) (.ref p) := by
  simp only [rep]
  refine ⟨p, rgV a b, rfl, fun z => w.tr p z np, hp, ?_⟩
  have e1 : (rangeI a b).map (fun n => D.v (.int n)) = (rgV a b).map D.v := by
    unfold rangeI rgV
    rw [List.map_map, List.map_map]
    rfl
  rw [e1]
  exact repL_flat.mpr rfl
end
/-! ranges of any size -/
theorem turn_long {P : Program} {w : World} {K : PySem.W.Frag} {tg : Expr} (it : Addr) (lo : Int) (n : Nat) : Turn P w K tg (Itr lo n) [it] it (fun i h => IsLongIter h it (lo + (i : Nat) * 1) ((n : Int) - (i : Nat)) 1) where
  mem := by simp
  obj := fun i h st b hb => by
    have e : b = it := by simpa using hb
    subst e
    exact ⟨_, st, fun v z => by
      have z' : Data.fields _ = Data.cell v := z
      cases z'⟩
  keep := fun i h h' st k => k it (by simp) _ st
  item := by
    intro X hP hw hK hc i pins s σ H E I hf st hg
    subst hP hw hK
    obtain ⟨f0, f1, f2, f3, f4, f5⟩ := hf it (by simp)
    have W := Walks.longrange (prog := X.prog) (w := X.w) (I.ok.hd hc) it lo 1 n
    refine W.item i s _ _ hg st fun v h' tk hv st' kk => ?_
    obtain ⟨t, rfl⟩ := hv
    have I1 : Inv X pins σ H { s with heap := h', toks := tk } := I.turned (fun b o hb e => kk b o (by simpa using hb) e) f0 f1 f3 f4 f5
    refine ⟨_, rfl, go_of (s := { s with heap := h', toks := tk }) (n := "longrange_iterator") st' rfl rfl (by decide) ⟨.int (lo + i), H, I1, ⟨t, ?_⟩, ⟨rfl, rfl⟩, st', fun b hb => (hf b hb).1⟩⟩
    rw [Int.mul_one]
  done := by
    intro X hP hw hK hc i pins s σ H E I hf st hg
    subst hP hw hK
    obtain ⟨f0, f1, f2, f3, f4, f5⟩ := hf it (by simp)
    exact wpAny_pyNext_long_end (I.ok.hd hc) st (by have : n ≤ i := hg; omega) fun h' eb => ⟨rfl, I.turned (t' := s.toks) (fun b o hb e => eb b o hb e) f0 f1 f3 f4 f5⟩
  self := fun _ _ _ _ _ st h => wpAny_pyIter_longiter st h
section
variable {X : Cx} {tg : Expr}
theorem range_itW {pins : List (Addr × Obj)} {σ : L2.St} {H : Hp} {s : Shared} {R : It → Hp → Prop} {E : Value → Shared → Prop} {lo hi : Int} {t u v : Tok} {tk : Nat} (I : Inv X pins σ H s)
    (q : R (Itr lo (hi - lo).toNat) H) : wpAny (model X.prog X.w) X.A (pyIter (.ref s.heap.objs.size)) (PIE X pins σ tg R) E { s with heap := s.heap.push { cls := .type "range", data := .fields #[.int lo t, .int hi u, .int 1 v] }, toks := tk } := by
  have I1 : Inv X pins σ H { s with heap := s.heap.push { cls := .type "range", data := .fields #[.int lo t, .int hi u, .int 1 v] }, toks := tk } := I.kept fun b o e => Heap.get?_push_of_some _ e
  have e1 : lo + ((0 : Nat) : Int) * 1 = lo := by simp
  have e2 : (((hi - lo).toNat : Nat) : Int) - ((0 : Nat) : Int) = Builtin.Range.rangeSize lo hi 1 := by rw [rangeSize_one]; split <;> omega
  cases hs : Builtin.Range.small lo hi 1 with
  | true =>
    refine wpAny_pyIter_range (IsRange.new ..) hs ?_
    refine ⟨(s.heap.push { cls := .type "range", data := .fields #[.int lo t, .int hi u, .int 1 v] }).objs.size, [(s.heap.push { cls := .type "range", data := .fields #[.int lo t, .int hi u, .int 1 v] }).objs.size], _, _, H, rfl,
      I1.kept (t' := tk) fun b o e => Heap.get?_push_of_some _ e, turn_range _ lo (hi - lo).toNat, ?_, fun b hb => ?_, q⟩
    · show IsRangeIter _ _ (lo + ((0 : Nat) : Int) * 1) ((((hi - lo).toNat : Nat) : Int) - ((0 : Nat) : Int)) 1
      rw [e1, e2]
      exact Heap.get?_push_size _ rfl
    · have e : b = (s.heap.push { cls := .type "range", data := .fields #[.int lo t, .int hi u, .int 1 v] }).objs.size := by simpa using hb
      subst e
      exact I1.fpOk (Nat.le_refl _) (I1.hok.fresh (Nat.le_refl _))
  | false =>
    refine wpAny_pyIter_longrange (IsRange.new ..) hs ?_
    refine ⟨(s.heap.push { cls := .type "range", data := .fields #[.int lo t, .int hi u, .int 1 v] }).objs.size, [(s.heap.push { cls := .type "range", data := .fields #[.int lo t, .int hi u, .int 1 v] }).objs.size], _, _, H, rfl,
      I1.kept (t' := tk) fun b o e => Heap.get?_push_of_some _ e, turn_long _ lo (hi - lo).toNat, ?_, fun b hb => ?_, q⟩
    · show IsLongIter _ _ (lo + ((0 : Nat) : Int) * 1) ((((hi - lo).toNat : Nat) : Int) - ((0 : Nat) : Int)) 1
      rw [e1, e2]
      exact Heap.get?_push_size _ rfl
    · have e : b = (s.heap.push { cls := .type "range", data := .fields #[.int lo t, .int hi u, .int 1 v] }).objs.size := by simpa using hb
      subst e
      exact I1.fpOk (Nat.le_refl _) (I1.hok.fresh (Nat.le_refl _))
def iRngW1 (ta : TA) : TI := fun σ H R => ta σ H fun vs H1 => ∃ j : Int, vs = [.int j] ∧ R (Itr 0 j.toNat) H1
def iRngW2 (ta : TA) : TI := fun σ H R => ta σ H fun vs H1 => ∃ i j : Int, vs = [.int i, .int j] ∧ R (Itr i (j - i).toNat) H1
theorem pi_rangeW1 {a : Expr} {ta : TA} {p pos : Pos} (hg : Gl X "range") (hm : X.mg "range" = none) (ha : PA X [a] ta) (hs : starEach [a] X.env = [(false, eval a X.env)] := by rfl) : PI X tg (.Call (.Name "range" p) [a] [] pos) (iRngW1 ta) := by
  refine ⟨fun pins s σ H R I h => ?_⟩
  refine Call_ (ld_blt I hg hm boot_range (PyProof.Rows.callWith_type1 (thn (ha.run pos pins s σ H _ I h) fun us s1 ⟨vs, H1, I1, r1, q1⟩ => ?_) hs rfl))
  obtain ⟨j, e, q⟩ := q1
  subst e
  cases r1 with
  | cons r rr =>
    cases rr
    obtain ⟨t, rfl⟩ := r
    exact call_range_1 (range_itW I1 (by simpa using q))
theorem pi_rangeW2 {a b : Expr} {ta : TA} {p pos : Pos} (hg : Gl X "range") (hm : X.mg "range" = none) (ha : PA X [a, b] ta) (hs : starEach [a, b] X.env = [(false, eval a X.env), (false, eval b X.env)] := by rfl) (hs2 : starEach [b] X.env = [(false, eval b X.env)] := by rfl) :
    PI X tg (.Call (.Name "range" p) [a, b] [] pos) (iRngW2 ta) := by
  refine ⟨fun pins s σ H R I h => ?_⟩
  refine Call_ (ld_blt I hg hm boot_range (PyProof.Rows.callWith_type1 (thn (ha.run pos pins s σ H _ I h) fun us s1 ⟨vs, H1, I1, r1, q1⟩ => ?_) (by rw [hs, hs2]) (by rw [hs2]; rfl)))
  obtain ⟨i, j, e, q⟩ := q1
  subst e
  cases r1 with
  | cons r rr =>
    cases rr with
    | cons r' rr =>
      cases rr
      obtain ⟨t, rfl⟩ := r
      obtain ⟨t', rfl⟩ := r'
      exact call_range_2 (range_itW I1 q)
end
end Rx
namespace Rx
open PySem PySem.Spec PyProof.Rows L2
/-- a def's promise, asked only where no text is under way -/
structure FnG (P : Program) (w : World) (K : PySem.W.Frag) (mg : Str → Option Value) (base : Heap) (k : Nat) (f : Addr) (fd : FuncData) (ps : List Str) (sp : Sp) : Prop where
  len : ∀ vs H Q E, sp vs H Q E → vs.length = ps.length
  run : ∀ (A : Around), A.guards = some [] → Room k A → ∀ (outer : List Env) (s : Shared) (H : Hp) (args : Args) (us : List Value) (vs : List V) (Q : VK) (E : XK), Env0 P w K mg base A outer s H → BindsTo s fd args (ps.zip us) → Vals vs us → sp vs H Q E →
    codeAny (model P w) A (.call (.ref f) args) (CR CX0 outer P w H s Q E) s
theorem FnG.of {P : Program} {w : World} {K : PySem.W.Frag} {mg : Str → Option Value} {base : Heap} {k : Nat} {f : Addr} {fd : FuncData} {ps : List Str} {sp : Sp} (F : FnOk P w K mg base CX0 k f fd ps sp) : FnG P w K mg base k f fd ps sp :=
  ⟨F.len, fun A _ hr outer s H args us vs Q E => F.run A outer s H args us vs Q E hr⟩
section
variable {X : Cx} {k : Nat} {f : Addr} {fd : FuncData} {ps : List Str} {sp : Sp} {x : Str} {e : Expr} {es : List Expr} {p pos : Pos} {t : TA}
theorem runG {pins : List (Addr × Obj)} {σ : L2.St} {H : Hp} {s : Shared} {Q : VK} {us : List Value} {vs : List V} (F : FnG X.prog X.w X.K X.mg X.base k f fd ps sp) (hg : X.A.guards = some []) (hr : Room k X.A) (hb : Binds X.K fd ps [])
    (I : Inv X pins σ H s) (r : Vals vs us) (h : sp vs H Q E0) : wpAny (model X.prog X.w) X.A (call (.ref f) us) (EP X pins σ Q) X.xe s := by
  have hl : us.length = ps.length := r.length.symm.trans (F.len _ _ _ _ h)
  have bt := hb s us I.kIn (by rw [List.append_nil]; exact hl)
  rw [List.append_nil] at bt
  refine wpAny_call (codeAny_mono (F.run X.A hg hr X.stack s H ⟨us, []⟩ us vs Q E0 I.env0 bt r h) fun out s' hq => ?_)
  rcases out with err | fl
  · exact pass0 pins σ H s err s' I hq
  · rcases fl with _ | _ | _ | u
    all_goals first | exact I.after hq | exact hq.elim
/-- f(e, ..) -/
theorem pe_callG (F : FnG X.prog X.w X.K X.mg X.base k f fd ps sp) (gu : X.A.guards = some []) (hr : Room k X.A) (hg : Gl X x) (hm : X.mg x = some (.ref f)) (hk : PySem.W.keepIn X.K (.ref f) = true) (hb : Binds X.K fd ps []) (ha : PA X (e :: es) t)
    (hdb : (x == ("__debug__" : Str)) = false := by decide) (he : starEach (e :: es) X.env = (false, eval e X.env) :: starEach es X.env := by rfl) (hpl : (backTo pos (starEach es X.env)).any (·.1) = false := by rfl) :
    PE X (.Call (.Name x p) (e :: es) [] pos) (tCall sp [] E0 t) :=
  ⟨fun pins s σ H Q I h => wpAny_Call_Name_kw (ld_glob I hg hm (PySem.W.callWith_K (h₀ := X.base) I.ok.mod.kin hk (thn (ha.run pos pins s σ H _ I h) fun us s1 ⟨vs, H1, I1, r, q⟩ => ⟨I1.kIn, runG F gu hr hb I1 r (by have q' : sp (vs ++ []) H1 Q E0 := q; rwa [List.append_nil] at q')⟩) he hpl) hdb)⟩
end
section
variable {P : Program} {w : World} {K : PySem.W.Frag} {mg : Str → Option Value} {base : Heap}
/-- a def whose body is read where no text is under way -/
theorem okG {x qual : Str} {st : Stmt} {f : Addr} {fd : FuncData} {N ps : List Str} {k : Nat} {sp : Sp} (F : Fun K x qual st f fd) (S : FnScope N ps (defScope st)) (len : ∀ vs H Q E, sp vs H Q E → vs.length = ps.length)
    (hbody : ∀ (cdv : Value) (A : Around) (outer : List Env) (s : Shared) (H : Hp) (vs : List V) (Q : VK) (E : XK), A.guards = some [] → Room k (A.deeper (envOfC qual (defScope st) s.heap.objs.size f cdv)) → sp vs H Q E →
      ∃ t, PSs (cxOf CX0 P w K mg base N qual (defScope st) f cdv A outer s H E).nox (defBody st) t ∧ t { nx := fun _ H' => Q .non H', rt := Q } (start N vs) H) : FnG P w K mg base (k + 1) f fd ps sp := by
  obtain ⟨oc, od, kV, doc, pm, an, cdv, ct, osl, rfl, lk, hcd⟩ := F.ex
  refine ⟨len, fun A gu hr outer s H args us vs Q E en bt rv hs => ?_⟩
  have inK : K.In s.heap := en.mod.kin.keeps fun b o h => (en.bs b o h).1
  have names : ∀ y ∈ ps.zip us, (defScope st).names.lookup y.1 = some .local ∨ ((defScope st).names.lookup y.1 = some .cell ∧ ((cellsFrom (s.heap.objs.size + 1) (defScope st).names []).lookup y.1).isSome = true) := by
    rintro ⟨n, v⟩ hy
    exact (S.par n (List.of_mem_zip hy).1).imp id fun q => ⟨q, PySem.W.cellsFrom_some _ _ _ (.inl q)⟩
  refine codeAny_call_function hr.depth (inK _ _ lk) rfl S.co S.gen rfl (PySem.W.codeRec_of inK hcd) (bt _ _ _ _ (wpAny_newFunctionEnv_cells S.kind names fun env he s1 inner => ?_))
  subst he
  refine ⟨(en.mod.nolimit.keeps fun b o h => (en.bs b o h).1).keeps inner.toInCall.keep, codeAny_func ?_⟩
  obtain ⟨t, ht, hq⟩ := hbody cdv A outer s H vs Q E gu (hr.deeper _) hs
  have start0 : Inv (cxOf CX0 P w K mg base N qual (defScope st) f cdv A outer s H E) [] (start N vs) H s1 := inv_start S hr.hd en (len _ _ _ _ hs) rv inner
  have leave : ∀ {σ' : L2.St} {H' : Hp} {v : V} {u : Value} {s' : Shared}, Inv (cxOf CX0 P w K mg base N qual (defScope st) f cdv A outer s H E) [] σ' H' s' → RelV v u → Q v H' → CE outer P w H s Q u s' :=
    fun {σ' H' v u s'} J r q => ⟨v, H', J.os, J.bare, J.base, J.hok, r, q⟩
  refine wpAny_mono (ht.nox.run [] s1 (start N vs) H _ start0 hq) (fun fl s' hs' => ?_) fun _ _ h => h
  rcases fl with _ | _ | _ | u
  · obtain ⟨σ', H', J, q⟩ := hs'
    exact leave (v := V.non) (u := Value.none) J rfl q
  · obtain ⟨_, _, _, q⟩ := hs'
    exact q.elim
  · obtain ⟨_, _, _, q⟩ := hs'
    exact q.elim
  · obtain ⟨v, σ', H', J, r, q⟩ := hs'
    exact leave J r q
end
/-! the law's own call, where nothing is under way -/
section
variable {P : Program} {w : World} {K : PySem.W.Frag} {mg mb : Str → Option Value} {k : Nat} {fa a : Addr} {fd : FuncData} {x : Str} {sp : Sp} {s1 : Shared} {vs : List Value} {ns : List Int}
abbrev EndG (h : Heap) (os : OsState) (r : Result) (s' : Shared) : Prop := r = .ok (.ret (.bool true)) ∧ OldK h s'.heap ∧ s'.os = os ∧ AllBare s'.gens
/-- from one abstract heap that tells the script alone, if at all -/
theorem callG_at (inK : K.In s1.heap) (top : s1.heap.Ns mainGlobals mg) (bl : s1.heap.Ns builtinsNs mb) (blb : ∀ x : Str, x ≠ "__name__" → mb x = bootBuiltins x) (nl : s1.heap.NoLimit) (ng : s1.gens = #[])
    (obj : s1.heap.get? a = some { cls := .type "list", data := .seq vs.toArray }) (hr : Room k callerA) (F : ∀ base : Heap, K.In base → base.Ns mainGlobals mg → FnG P w K mg base k fa fd [x] sp) (bind : ∀ (s : Shared) (u : Value), BindsTo s fd ⟨[u], []⟩ [(x, u)])
    {H : Hp} (only : Only H) (ok : HOk P w H s1.heap) (at_a : ∀ b, H b ≠ none → b = a) (own : H a ≠ none → K.lookup a = none) (q : sp [.ref a] H (fun v _ => v = .bl true) E0) :
    codeAny (model P w) callerA (.call (.ref fa) ⟨[.ref a], []⟩) (EndG s1.heap s1.os) s1 := by
  have told : ∀ b, H b = none ∨ b = a := fun b => (Classical.em (H b = none)).imp id (at_a b)
  have keepN : ∀ {b : Addr} {m : Str → Option Value}, s1.heap.Ns b m → (hidT s1.heap H).Ns b m := fun {b m} ⟨o, es, ep, e, d, r⟩ => ⟨o, es, ep, hidT_get e ((told b).elim id fun z => by
    subst z
    rw [obj] at e
    cases e
    cases (show Data.seq vs.toArray _ = Data.dict es ep from d)), d, r⟩
  have keepK : K.In (hidT s1.heap H) := fun b o e => hidT_get (inK b o e) ((told b).elim id fun z => by
    subst z
    exact Classical.byContradiction fun n => by
      rw [own n] at e
      cases e)
  have md : Mod K mg (hidT s1.heap H) := ⟨keepK, keepN top, ⟨mb, keepN bl, blb⟩, nl.imp fun _ h => ⟨keepN h.1, h.2⟩⟩
  have en : Env0 P w K mg (hidT s1.heap H) callerA [] s1 H := ⟨rfl, md, fun b o e => of_hidT e, Nat.le_of_eq (hidT_size _ _), trivial, fun b hb => (List.not_mem_nil hb).elim, ok, .of_eq ng⟩
  refine codeAny_mono ((F _ keepK (keepN top)).run callerA rfl hr [] s1 H ⟨[.ref a], []⟩ [.ref a] [.ref a] _ _ en (bind s1 (.ref a)) (.cons rfl .nil) q) fun r s' h => ?_
  rcases r with e | fl
  · exact (show False from h).elim
  · rcases fl with _ | _ | _ | u
    · exact (show False from h).elim
    · exact (show False from h).elim
    · exact (show False from h).elim
    · obtain ⟨v, H', os, bare, un, ok', rv, qv⟩ := h
      cases (show v = .bl true from qv)
      cases (show u = Value.bool true from rv)
      refine ⟨rfl, OldK.of_keep fun b o e => ?_, os, bare⟩
      rcases only b with z | ⟨ob, xs, z⟩
      · exact un.keep b o e z (List.not_mem_nil) (List.not_mem_nil)
      · have e1 := (ok b _ z).1
        have e2 := (ok' b _ (un.frzs b ob _ z)).1
        exact (Option.some.inj (e.symm.trans e1)) ▸ e2
theorem callG (inK : K.In s1.heap) (top : s1.heap.Ns mainGlobals mg) (bl : s1.heap.Ns builtinsNs mb) (blb : ∀ x : Str, x ≠ "__name__" → mb x = bootBuiltins x) (nl : s1.heap.NoLimit) (ng : s1.gens = #[])
    (obj : s1.heap.get? a = some { cls := .type "list", data := .seq vs.toArray }) (its0 : IntsAre vs ns) (small : ns.length ≤ sizeLine) (hr : Room k callerA) (F : ∀ base : Heap, K.In base → base.Ns mainGlobals mg → FnG P w K mg base k fa fd [x] sp)
    (bind : ∀ (s : Shared) (u : Value), BindsTo s fd ⟨[u], []⟩ [(x, u)]) (q : ∀ H : Hp, Only H → SqL K H a (ns.map V.int) → sp [.ref a] H (fun v _ => v = .bl true) E0) :
    codeAny (model P w) callerA (.call (.ref fa) ⟨[.ref a], []⟩) (EndG s1.heap s1.os) s1 := by
  have rv := vals_ints its0
  have lv := its0.length
  cases hk : K.lookup a with
  | some o =>
    have e := inK a o hk
    rw [obj] at e
    cases e
    have sq : SqL K (fun _ => none) a (ns.map V.int) := .inr ⟨_, vs.toArray, _, hk, rfl, rfl, rfl, by rw [List.size_toArray, lv]; exact small, by simpa using rv⟩
    exact callG_at inK top bl blb nl ng obj hr F bind (H := fun _ => none) (fun _ => .inl rfl) (fun b u z => nomatch (show (none : Option HO) = some u from z)) (fun b z => absurd rfl z) (fun z => absurd rfl z) (q _ (fun _ => .inl rfl) sq)
  | none =>
    generalize hH : (fun b => if b = a then some (HO.frz { cls := .type "list", data := .seq vs.toArray } (.lst (ns.map V.int))) else none : Hp) = H
    have here : H a = some (.frz { cls := .type "list", data := .seq vs.toArray } (.lst (ns.map V.int))) := by rw [← hH]; exact if_pos rfl
    have else_ : ∀ b, b ≠ a → H b = none := fun b n => by rw [← hH]; exact if_neg n
    have only : Only H := fun b => (Classical.em (b = a)).elim (fun e => .inr ⟨{ cls := .type "list", data := .seq vs.toArray }, ns.map V.int, by rw [e]; exact here⟩) fun n => .inl (else_ b n)
    refine callG_at inK top bl blb nl ng obj hr F bind only (fun b u z => ?_) (fun b z => Classical.byContradiction fun n => z (else_ b n)) (fun _ => hk) (q _ only (.inl (.inr ⟨_, here⟩)))
    by_cases e : b = a
    · subst e
      rw [here] at z
      cases z
      exact ⟨obj, by rw [List.length_map]; exact small, vs, _, rv, obj⟩
    · rw [else_ b e] at z
      cases z
end
/-- the goal behind the head of an open law, by a promise that may tell texts of lists -/
theorem walk_ofG {l : PySem.W.OpenLaw} {n k : Nat} {q : Program} {loose : List Str} {XP : (Str → Option Value) → Heap → Prop} {YP : World → Heap → Prop} {d : DefRec} {K : Params → PySem.W.Frag} {sp : World → Sp} {x : Str}
    (most : l.most = some n) (small : n ≤ sizeLine) (plain : d.params.defaults = []) (hr : Room k callerA) (inK : ∀ (w : World) (h : Heap), YP w h → (K w.params).In h)
    (F : ∀ (w : World) (mg : Str → Option Value) (fa : Addr) (h : Heap), (K w.params).In h → h.Ns mainGlobals mg → mg d.name = some (.ref fa) →
      ∃ fd : FuncData, (∀ (s : Shared) (u : Value), BindsTo s fd ⟨[u], []⟩ [(x, u)]) ∧ ∀ base : Heap, (K w.params).In base → base.Ns mainGlobals mg → FnG l.prog w (K w.params) mg base k fa fd [x] (sp w))
    (enter : ∀ (w : World) (H : Hp) (a : Addr) (ns : List Int), ns.length ≤ n → Only H → SqL (K w.params) H a (ns.map V.int) → sp w [.ref a] H (fun v _ => v = .bl true) E0) :
    PySem.W.WalkO q loose XP YP l.row.toRowW d [] (fun f vs => PySem.call f vs) := by
  refine Att.attach_call most plain fun w s₀ s₁ mg mb fa o pm cd doc a vs ns G Y ho hd hcd hmg obj its0 len ng => ?_
  obtain ⟨fd, bind, hF⟩ := F w mg fa _ (inK w _ Y) G.T.g hmg
  exact callG (inK w _ Y) G.T.g G.T.b G.T.builtins G.T.nolimit ng obj its0 (Nat.le_trans len small) hr hF bind fun H only sq => enter w H a ns len only sq
/-! repr of lists and tuples -/
def rReprD (K : PySem.W.Frag) : List V → Hp → VK → Prop := fun xs H Q => ∃ (a : Addr) (d : PyData), xs = [.ref a] ∧ Dp K H (.ref a) d ∧ d.showable = true ∧ d.hasDict = false ∧ d.depth ≤ 60 ∧ d.shown.length ≤ sizeLine ∧ Q (.str d.shown) H
theorem call_reprD {X : Cx} {k : Nat} (gu : X.A.guards = some []) (hr : Room k X.A) : CallR X (.builtin "repr") (rReprD X.K) := by
  intro pins s σ H xs us Q I r h
  obtain ⟨a, d, rfl, dp, sh, nd, dep, len, q⟩ := h
  obtain ⟨u, rfl, ru⟩ := r.one
  cases ru
  obtain ⟨as, rd⟩ := Dp.reads I d _ _ dp rfl
  have un := hr.un
  refine repr_of_reads' (h₀ := s.heap) rd sh (fun z => by rw [nd] at z; cases z) gu (by omega) (fun _ _ h => h) (fun h' u tk keep => ?_) len
  exact ⟨.str d.shown, H, I.kept keep, ⟨u, rfl⟩, q⟩
/-- repr of any plain data -/
def rReprA (K : PySem.W.Frag) : List V → Hp → VK → Prop := fun xs H Q => ∃ (x : V) (d : PyData), xs = [x] ∧ Dp K H x d ∧ d.showable = true ∧ d.hasDict = false ∧ d.depth ≤ 60 ∧ d.shown.length ≤ sizeLine ∧ Q (.str d.shown) H
theorem call_reprA {X : Cx} {k : Nat} (gu : X.A.guards = some []) (hr : Room k X.A) : CallR X (.builtin "repr") (rReprA X.K) := by
  intro pins s σ H xs us Q I r h
  obtain ⟨x, d, rfl, dp, sh, nd, dep, len, q⟩ := h
  have big : ∀ a, x = .ref a → wpAny (model X.prog X.w) X.A (call (.builtin "repr") us) (EP X pins σ Q) X.xe s := fun a e => by
    subst e
    exact call_reprD gu hr pins s σ H _ us Q I r ⟨a, d, rfl, dp, sh, nd, dep, len, q⟩
  cases dp with
  | non =>
    obtain ⟨u, rfl, ru⟩ := r.one
    cases (show u = Value.none from ru)
    exact P.repr_of_none ⟨.str PyData.none.shown, H, I.tok _, ⟨_, rfl⟩, q⟩
  | bl b =>
    obtain ⟨u, rfl, ru⟩ := r.one
    cases (show u = Value.bool b from ru)
    exact P.repr_of_bool ⟨.str (PyData.bool b).shown, H, I.tok _, ⟨_, rfl⟩, q⟩
  | int i =>
    obtain ⟨u, rfl, t, rfl⟩ := r.one
    exact P.repr_of_int (of_decide_eq_true sh) ⟨.str (PyData.int i).shown, H, I.tok _, ⟨_, rfl⟩, q⟩
  | str z =>
    obtain ⟨u, rfl, t, rfl⟩ := r.one
    exact P.repr_of_str ⟨.str (PyData.str z).shown, H, I.tok _, ⟨_, rfl⟩, q⟩ len
  | lst _ _ => exact big _ rfl
  | tup _ _ => exact big _ rfl
section
variable {K : PySem.W.Frag} {ms : List Addr} {H : Hp} {d : D} {x : V}
theorem rep_repr {P : PyData → Prop} (h : rep ms H d x) (p : plainD d = true) (sh : (pyOf d).showable = true) (nd : (pyOf d).hasDict = false) (dep : (pyOf d).depth ≤ 60) (len : (pyOf d).shown.length ≤ sizeLine) (q : P (pyOf d)) :
    ∃ (x' : V) (d : PyData), [x] = [x'] ∧ Dp K H x' d ∧ d.showable = true ∧ d.hasDict = false ∧ d.depth ≤ 60 ∧ d.shown.length ≤ sizeLine ∧ P d :=
  ⟨x, _, rfl, dp_of (K := K) d x p h, sh, nd, dep, len, q⟩
end
/-! [e for x in range(lo, hi) if test]; min and max of a list of ints -/
section
variable {β : Type} {K : PySem.W.Frag} {ms ps : List Addr} {cs : List (Addr × List V)} {H0 H1 : Hp} {g : TG} {tt : TT} {te : TE} {vl : List Nat} {σ : L2.St} {Qd : Hp → Prop}
theorem lf_rangeC {lo hi : Int} {N : Nat} {L : Addr} {eb : β → D} {body : Int → (Option β → Prop) → Prop} {KM : List β → Prop} (hN : N = (hi - lo).toNat) (w : Wd ms ps cs H0 H1) (nl : H1 L = none) (hM : (rangeI lo hi).length < 100000 ∧ filC body (rangeI lo hi) [] KM)
    (hs : ∀ (x : Int) (n : Nat) (ys : List β) (vs : List V) (k : Option β → Prop) (H : Hp), n < 100000 → Trn ms ps cs H0 H1 L eb n ys vs H → body x k → ∀ Nx : Hp → Prop,
        (∀ y vs' H', k (some y) → Trn ms ps cs H0 H1 L eb (n + 1) (ys ++ [y]) vs' H' → Nx H') → (∀ vs' H', k none → Trn ms ps cs H0 H1 L eb (n + 1) ys vs' H' → Nx H') →
      g (.int x) (wipe σ vl) H fun σ2 H2 => wipe σ2 vl = wipe σ vl ∧ tt σ2 H2 fun b H3 => if b = true then te σ2 H3 fun y H4 => ∃ acc, H4 L = some (.lst acc) ∧ acc.length < sizeLine ∧ Nx (upd H4 L (.lst (acc ++ [y]))) else Nx H3)
    (hd : ∀ ys H, KM ys → Wd ms ps cs H0 H → Keep ms H1 H → rep ms H (.lst (ys.map eb)) (.ref L) → Qd H) :
    ∃ W : Nat → Nat → Hp → Prop, (∃ m, W 0 m (upd H1 L (.lst []))) ∧ ∀ i m H, W i m H →
      ((Itr lo N).stop i H ∧ Qd H) ∨ ((Itr lo N).go i H ∧ ∃ Nx : Hp → Prop, (∀ H', Nx H' → ∃ m', m' < m ∧ W (i + 1) m' H') ∧ ∀ x H', (Itr lo N).yld i H x H' → g x (wipe σ vl) H' fun σ2 H2 => wipe σ2 vl = wipe σ vl ∧ tt σ2 H2 fun b H3 =>
        if b = true then te σ2 H3 fun y H4 => ∃ acc, H4 L = some (.lst acc) ∧ acc.length < sizeLine ∧ Nx (upd H4 L (.lst (acc ++ [y]))) else Nx H3) := by
  obtain ⟨hn, hM⟩ := hM
  subst hN
  rw [rangeI_len] at hn
  refine ⟨fun i m H => m = (hi - lo).toNat - i ∧ i ≤ (hi - lo).toNat ∧ ∃ ys vs, Trn ms ps cs H0 H1 L eb i ys vs H ∧ filC body ((rangeI lo hi).drop i) ys KM, ⟨_, rfl, Nat.zero_le _, [], [], Trn.start w nl, hM⟩, ?_⟩
  rintro i m H ⟨rfl, hi', ys, vs, T, q⟩
  by_cases hlt : i < (hi - lo).toNat
  · refine .inr ⟨hlt, fun H' => i + 1 ≤ (hi - lo).toNat ∧ ∃ ys vs, Trn ms ps cs H0 H1 L eb (i + 1) ys vs H' ∧ filC body ((rangeI lo hi).drop (i + 1)) ys KM, fun H' p' => ⟨_, by omega, rfl, p'⟩, fun x H' y => ?_⟩
    obtain ⟨e, y⟩ := y
    subst e y
    rw [drop_cons' (rangeI_get hlt)] at q
    exact hs _ i ys vs _ H' (by omega) T q _ (fun y vs' H' k T' => ⟨hlt, _, _, T', k⟩) fun vs' H' k T' => ⟨hlt, _, _, T', k⟩
  · have e : i = (hi - lo).toNat := by omega
    refine .inl ⟨by rw [e]; exact Nat.le_refl _, ?_⟩
    have q' : KM ys := by
      rw [List.drop_of_length_le (by rw [rangeI_len]; omega)] at q
      exact q
    obtain ⟨w', k', r'⟩ := T.done w nl
    exact hd ys H q' w' k' r'
variable {x : V} {H : Hp}
theorem rep_minL {ns : List Int} {P : List Int → Prop} (h : rep ms H (.lst (ns.map fun n => D.v (.int n))) x) (ne : 0 < ns.length) (q : P ns) :
    ∃ (a : Addr) (ns : List Int), [x] = [V.ref a] ∧ SqL K H a (ns.map V.int) ∧ 0 < ns.length ∧ P ns := by
  simp only [rep] at h
  obtain ⟨p, vs, e, _, hp, hr⟩ := h
  have ev := repL_ints hr
  subst ev e
  exact ⟨p, ns, rfl, .inl (.inl hp), ne, q⟩
end
/-! repr and str of own instances, by the class's own def -/
def rOwnText (C : Addr) (sp : Sp) (E : XK) : List V → Hp → VK → Prop := fun xs H Q => ∃ (x : V) (a dx : Addr) (fs : List (Str × V)), xs = [x] ∧ x = .ref a ∧ H a = some (.ins C dx fs) ∧ sp [x] H (fun v H' => ∃ z : Str, v = .str z ∧ Q v H') E
structure OwnText (K : PySem.W.Frag) (C : Addr) (name : Str) (f : Addr) : Prop where
  hs : PySem.W.findIn K (.ref C) name = some (some (.ref f))
  hf : PySem.W.isFn K (.ref f) = true
section
variable {X : Cx} {n : Nat} {CX : CXT} {C f : Addr} {fd : FuncData} {ps : List Str} {sp : Sp} {E : XK}
theorem ownText_run (F : FnOk X.prog X.w X.K X.mg X.base CX n f fd ps sp) {A : Around} (hr : Room n A) (hb : Binds X.K fd ps []) (hx : Passes CX X E) {pins : List (Addr × Obj)} {σ : L2.St} {H : Hp} {s : Shared} {a : Addr} {Q : VK} (I : Inv X pins σ H s)
    (en : Env0 X.prog X.w X.K X.mg X.base A X.stack s H) (h : sp [.ref a] H (fun v H' => ∃ z : Str, v = .str z ∧ Q v H') E) : wpAny (model X.prog X.w) A (call (.ref f) [.ref a]) (PySem.W.StrBack (EP X pins σ Q)) X.xe s := by
  have hl := F.len _ _ _ _ h
  have bt := hb s [.ref a] I.kIn (by rw [List.append_nil]; exact hl)
  rw [List.append_nil] at bt
  refine wpAny_call (codeAny_mono (F.run A X.stack s H ⟨[.ref a], []⟩ [.ref a] [.ref a] _ E hr en bt (.cons rfl .nil) h) fun out s' hq => ?_)
  rcases out with err | fl
  · exact hx pins σ H s err s' I hq
  · rcases fl with _ | _ | _ | u
    · exact hq.elim
    · exact hq.elim
    · exact hq.elim
    · obtain ⟨v, H', I', rv, z, ez, q⟩ := I.after hq
      subst ez
      obtain ⟨t, rfl⟩ := rv
      exact ⟨.str z, H', I', ⟨t, rfl⟩, q⟩
theorem call_reprOwn (F : FnOk X.prog X.w X.K X.mg X.base CX n f fd ps sp) (hr : Room (n + 1) X.A) (o : OwnText X.K C "__repr__" f) (hb : Binds X.K fd ps []) (hx : Passes CX X E) : CallR X (.builtin "repr") (rOwnText C sp E) := by
  intro pins s σ H xs us Q I r h
  obtain ⟨x, a, dx, fs, rfl, rfl, ha, hsp⟩ := h
  obtain ⟨u, rfl, ru⟩ := r.one
  cases ru
  obtain ⟨mA, J, _⟩ := ins_get I.hok ha
  obtain ⟨od, J, _⟩ := J.look
  obtain ⟨m, hF⟩ := I.fr
  exact PySem.W.repr_K hr.in1.units0 hF I.ok.mod.kin J o.hs o.hf (ownText_run F hr.in1 hb hx I I.env0.in1 hsp)
theorem call_strOwn (F : FnOk X.prog X.w X.K X.mg X.base CX n f fd ps sp) (hr : Room (n + 2) X.A) (o : OwnText X.K C "__str__" f) (hb : Binds X.K fd ps []) (hx : Passes CX X E) : CallR X (.type "str") (rOwnText C sp E) := by
  intro pins s σ H xs us Q I r h
  obtain ⟨x, a, dx, fs, rfl, rfl, ha, hsp⟩ := h
  obtain ⟨u, rfl, ru⟩ := r.one
  cases ru
  obtain ⟨mA, J, _⟩ := ins_get I.hok ha
  obtain ⟨od, J, _⟩ := J.look
  exact PySem.W.kso_call hr.in1.in1.units0 I.kIn J o.hs o.hf (ownText_run F hr.in1.in1 hb hx I I.env0.in1.in1 hsp)
end
theorem rep_ownText {ms : List Addr} {H : Hp} {C : Addr} {ns : List Str} {ds : List D} {u : V} {P : V → Prop} (h : rep ms H (.ins C ns ds) u) (k : P u) :
    ∃ (x : V) (a dx : Addr) (fs : List (Str × V)), [u] = [x] ∧ x = .ref a ∧ H a = some (.ins C dx fs) ∧ P x := by
  obtain ⟨p, dx, fs, e, hp⟩ := rep_ins h
  exact ⟨u, p, dx, fs, rfl, e, hp, k⟩
/-! results that may be None -/
def encO {α : Type} (e : α → D) : Option α → D
  | none => .v .non
  | some y => e y
theorem rep_isN {α : Type} {e : α → D} {ms : List Addr} {H : Hp} {m : Option α} {u : V} (he : ∀ y, ∃ ds, e y = .tup ds) (h : rep ms H (encO e m) u) : decide (u = .non) = m.isNone := by
  cases m with
  | none =>
    rw [of_v h]
    rfl
  | some y =>
    obtain ⟨ds, ed⟩ := he y
    have h' : rep ms H (e y) u := h
    rw [ed] at h'
    simp only [rep] at h'
    obtain ⟨p, _, e1, _⟩ := h'
    rw [e1]
    rfl
theorem rep_isSome {α : Type} {e : α → D} {ms : List Addr} {H : Hp} {m : Option α} {u : V} (he : ∀ y, ∃ ds, e y = .tup ds) (h : rep ms H (encO e m) u) : (!decide (u = .non)) = m.isSome := by
  rw [rep_isN he h]
  cases m <;> rfl
theorem rep_some {α : Type} {e : α → D} {ms : List Addr} {H : Hp} {m : Option α} {u : V} {y : α} (hy : m = some y) (h : rep ms H (encO e m) u) : rep ms H (e y) u := by
  subst hy
  exact h
/-! a def called by keywords alone -/
def tCallKw (n : Nat) (gV : List V → List V → List V) (sp : Sp) (E : XK) (tk : TA) : TE := fun σ H Q => tk σ H fun zs H1 => zs.length = n ∧ sp (gV [] zs) H1 Q E
theorem pe_callKw {X : Cx} {CX : CXT} {k : Nat} {f : Addr} {fd : FuncData} {ps ks : List Str} {sp : Sp} {E : XK} {x : Str} {p pos : Pos} {kws : List Keyword} {tk : TA} {g : List Value → List Value → List Value} {gV : List V → List V → List V}
    (F : FnOk X.prog X.w X.K X.mg X.base CX k f fd ps sp) (hr : Room k X.A) (hg : Gl X x) (hm : X.mg x = some (.ref f)) (hk : PySem.W.keepIn X.K (.ref f) = true) (hb : KBn X.K fd ps 0 ks g gV) (hx : Passes CX X E) (hkw : PK X kws tk)
    (hall : (backToKw pos (keywordEach kws X.env)).all (·.1.isSome) = true := by rfl) (hks : (backToKw pos (keywordEach kws X.env)).filterMap (·.1) = ks := by rfl) (hdb : (x == ("__debug__" : Str)) = false := by decide)
    (hpl : ((backTo pos (starEach [] X.env)).any (·.1) || (backToKw pos (keywordEach kws X.env)).any (·.1.isNone)) = false := by rfl) : PE X (.Call (.Name x p) [] kws pos) (tCallKw ks.length gV sp E tk) :=
  ⟨fun pins s σ H Q I h => wpAny_Call_Name_kw (ld_glob I hg hm (PySem.W.callWith_KW0 (first := []) (h₀ := X.base) I.ok.mod.kin hk hall (thn (hkw.run pos pins s σ H _ I h) fun ws s2 ⟨zs, H2, I2, rz, l2, q2⟩ => ⟨I2.kIn, by
    rw [hks]
    exact run_fnN (us := []) (vs := []) F hr hb hx I2 .nil rz rfl l2 q2⟩) hpl) hdb)⟩
end Rx
namespace Rx
open PySem PySem.Spec PyProof.Rows L2
section
variable {K : PySem.W.Frag} {ms ps : List Addr} {cs : List (Addr × List V)} {H0 H H1 H' : Hp} {x : V} {ds : List D}
theorem wd_none {p : Addr} (w : Wd ms ps cs H0 H) (np : H p = none) : H0 p = none := by
  cases q : H0 p with
  | none => rfl
  | some o => exact absurd np (w.grow p (by rw [q]; exact fun z => nomatch z))
def rLstOf (K : PySem.W.Frag) : List V → Hp → VK → Prop := fun xs H Q => ∃ p ys, xs = [.ref p] ∧ (SqL K H p ys ∨ SqT K H p ys) ∧ ∀ l, H l = none → Q (.ref l) (upd H l (.lst ys))
theorem rep_listT {P : List V → Prop} (h : rep ms H (.tup ds) x) (k : ∀ ys, repL ms H ds ys → P ys) :
    ∃ p ys, [x] = [.ref p] ∧ (SqL K H p ys ∨ SqT K H p ys) ∧ P ys := by
  simp only [rep] at h
  obtain ⟨p, vs, rfl, _, hp, hr⟩ := h
  exact ⟨p, vs, rfl, .inr (.inl (.inl hp)), k vs hr⟩
theorem rep_listL {P : List V → Prop} (h : rep ms H (.lst ds) x) (k : ∀ ys, repL ms H ds ys → P ys) :
    ∃ p ys, [x] = [.ref p] ∧ (SqL K H p ys ∨ SqT K H p ys) ∧ P ys := by
  simp only [rep] at h
  obtain ⟨p, vs, rfl, _, hp, hr⟩ := h
  exact ⟨p, vs, rfl, .inl (.inl (.inl hp)), k vs hr⟩
mutual
theorem rep_noL {L : Addr} {vs vs' : List V} (hL : H L = some (.lst vs)) : ∀ (d : D) (u : V), noL d = true → rep ms H d u → rep ms (upd H L (.lst vs')) d u
  | .v x, u, _, h => by
    simp only [rep] at h ⊢
    exact h
  | .lst ds, u, n, h => by
    simp only [noL] at n
    cases n
  | .tup ds, u, n, h => by
    simp only [noL] at n
    simp only [rep] at h ⊢
    obtain ⟨p, us, e, np, hp, hl⟩ := h
    refine ⟨p, us, e, np, ?_, repL_noL hL ds us n hl⟩
    rw [upd_ne (fun z => by rw [z, hL] at hp; cases hp)]
    exact hp
  | .ins C ns ds, u, n, h => by
    simp only [noL] at n
    simp only [rep] at h ⊢
    obtain ⟨p, dx, us, e, np, hp, hn, hl⟩ := h
    refine ⟨p, dx, us, e, np, ?_, hn, repL_noL hL ds us n hl⟩
    rw [upd_ne (fun z => by rw [z, hL] at hp; cases hp)]
    exact hp
  | .dct ks ds, u, n, h => by
    simp only [noL] at n
    simp only [rep] at h ⊢
    obtain ⟨p, us, e, np, hp, hn, hl⟩ := h
    refine ⟨p, us, e, np, ?_, hn, repL_noL hL ds us n hl⟩
    rw [upd_ne (fun z => by rw [z, hL] at hp; cases hp)]
    exact hp
  | .dcT ks ds, u, n, h => by
    simp only [noL] at n
    simp only [rep] at h ⊢
    obtain ⟨p, us, e, np, hp, hn, hl⟩ := h
    refine ⟨p, us, e, np, ?_, hn, repL_noL hL ds us n hl⟩
    rw [upd_ne (fun z => by rw [z, hL] at hp; cases hp)]
    exact hp
theorem repL_noL {L : Addr} {vs vs' : List V} (hL : H L = some (.lst vs)) : ∀ (ds : List D) (us : List V), noLs ds = true → repL ms H ds us → repL ms (upd H L (.lst vs')) ds us
  | [], us, _, h => by
    simp only [repL] at h ⊢
    exact h
  | d :: ds, us, n, h => by
    simp only [noLs, Bool.and_eq_true] at n
    simp only [repL] at h ⊢
    obtain ⟨u, ws, e, h1, h2⟩ := h
    exact ⟨u, ws, e, rep_noL hL d u n.1 h1, repL_noL hL ds ws n.2 h2⟩
end
theorem noLs_map {α : Type} {e : α → D} (hn : ∀ x, noL (e x) = true) : ∀ xs : List α, noLs (xs.map e) = true
  | [] => rfl
  | x :: xs => by
    show (noL (e x) && noLs (xs.map e)) = true
    rw [hn x, noLs_map hn xs]
    rfl
theorem repL_set {α : Type} {e : α → D} {y : α} {v : V} : ∀ {xs : List α} {vs : List V} (j : Nat), repL ms H (xs.map e) vs → rep ms H (e y) v → repL ms H ((xs.set j y).map e) (vs.set j v)
  | [], vs, j, h, r => by
    have ev : vs = [] := by
      simp only [List.map_nil, repL] at h
      exact h
    subst ev
    simpa using h
  | x :: xs, vs, 0, h, r => by
    simp only [List.map_cons, repL] at h
    obtain ⟨u, us, rfl, h1, h2⟩ := h
    exact repL_cons r h2
  | x :: xs, vs, j + 1, h, r => by
    simp only [List.map_cons, repL] at h
    obtain ⟨u, us, rfl, h1, h2⟩ := h
    exact repL_cons h1 (repL_set j h2 r)
/-- L, a list of this def's own, may be told anew -/
theorem wd_own {L : Addr} {vs vs' : List V} (w : Wd ms ps cs H0 H) (nm : L ∉ ms) (hL : H L = some (.lst vs)) (o : H0 L = none) : Wd ms ps cs H0 (upd H L (.lst vs')) := by
  refine ⟨fun a o' n h => ?_, fun a h => ?_, fun m h => ?_, fun a h => ?_, w.pm, fun c h => ?_⟩
  · rw [upd_ne (ne_of_none h o)]
    exact w.kp a o' n h
  · by_cases e : a = L
    · rw [e, upd_same]
      exact fun z => nomatch z
    · rw [upd_ne e]
      exact w.grow a h
  · rw [upd_ne (fun z => nm (by rw [← z]; exact h))]
    exact w.tr m h
  · obtain ⟨i, j, h1, h3⟩ := w.pot a h
    exact ⟨i, j, by rw [upd_ne (fun z => nm (by rw [← z]; exact w.pm a h))]; exact h1, h3⟩
  · obtain ⟨h1, h3, h4, h5⟩ := w.cel c h
    exact ⟨by rw [upd_ne (fun z => nm (by rw [← z]; exact h3))]; exact h1, h3, h4, h5⟩
theorem rep_setL {α : Type} {e : α → D} {xs : List α} {y : α} {k : Int} {v : V} {L : Addr} {Q : Hp → Prop} (w : Wd ms ps cs H0 H) (h : rep ms H (.lst (xs.map e)) (.ref L)) (o : H0 L = none) (hn : ∀ x, noL (e x) = true)
    (h0 : 0 ≤ k) (hj : k.toNat < xs.length) (r : rep ms H (e y) v)
    (kk : ∀ H', Wd ms ps cs H0 H' → rep ms H' (.lst ((xs.set k.toNat y).map e)) (.ref L) → (∀ d u, noL d = true → rep ms H d u → rep ms H' d u) → Q H') : rSetL (.ref L) (.int k) v H Q := by
  simp only [rep] at h
  obtain ⟨p, vs, e1, np, hp, hr⟩ := h
  cases e1
  have hl := repL_len hr
  rw [List.length_map] at hl
  refine ⟨L, vs, k, k.toNat, rfl, rfl, hp, ?_, kk _ (wd_own w np hp o) ?_ fun d u n h => rep_noL hp d u n h⟩
  · unfold ixN
    rw [if_pos h0, if_pos (by omega)]
  · simp only [rep]
    exact ⟨L, _, rfl, np, upd_same, repL_set _ (repL_noL hp _ _ (noLs_map hn xs) hr) (rep_noL hp _ _ (hn y) r)⟩
end

/-! rules whose reading names the frame itself (within a comprehension its context is not known to the reading) -/
section
variable {X : Cx} {K : PySem.W.Frag}
theorem ix_listK (hK : X.K = K) : IxR X (rIxL K) := by
  subst hK
  exact ix_list
theorem ix_tupK (hK : X.K = K) : IxR X (rIxT K) := by
  subst hK
  exact ix_tup
end
end Rx
namespace Rx
open PySem PySem.Spec PyProof.Rows L2
section
variable {K : PySem.W.Frag} {ms ms' ps : List Addr} {H0 H H' H1 : Hp} {L L' : Addr} {d d' : D} {ds : List D} {u x : V} {vs : List V}
/-- what stands at L -/
def valO (ms : List Addr) (H : Hp) (L : Addr) : D → Prop
  | .lst ds => ∃ vs, H L = some (.lst vs) ∧ repL ms H ds vs
  | .dct ks ds => ∃ vs, H L = some (.dK (ks.zip vs)) ∧ ks.length = vs.length ∧ repL ms H ds vs
  | .dcT ks ds => ∃ vs, H L = some (.dT (ks.zip vs)) ∧ ks.length = vs.length ∧ repL ms H ds vs
  | _ => False
theorem valO_map (f : ∀ p o, p ∉ ms → H p = some o → p ∉ ms' ∧ H' p = some o) (g : ∀ o, H L = some o → H' L = some o) : ∀ d : D, valO ms H L d → valO ms' H' L d
  | .lst ds, ⟨vs, h1, h2⟩ => ⟨vs, g _ h1, repL_map f ds vs h2⟩
  | .dct ks ds, ⟨vs, h1, h2, h3⟩ => ⟨vs, g _ h1, h2, repL_map f ds vs h3⟩
  | .dcT ks ds, ⟨vs, h1, h2, h3⟩ => ⟨vs, g _ h1, h2, repL_map f ds vs h3⟩
  | .v _, h => h
  | .tup _, h => h
  | .ins _ _ _, h => h
structure MutO (ms ps : List Addr) (H0 H : Hp) (L : Addr) (d : D) : Prop where
  im : L ∈ ms
  hp : L ∉ ps
  h0 : H0 L = none
  val : valO ms H L d
theorem MutO.some (m : MutO ms ps H0 H L d) : ∃ o, H L = some o := by
  have h := m.val
  cases d with
  | lst ds => exact ⟨_, h.choose_spec.1⟩
  | dct ks ds => exact ⟨_, h.choose_spec.1⟩
  | dcT ks ds => exact ⟨_, h.choose_spec.1⟩
  | v _ => exact h.elim
  | tup _ => exact h.elim
  | ins _ _ _ => exact h.elim
theorem mo_ret (w : Wd ms ps [] H0 H) (e : Ret ps H H') (m : MutO ms ps H0 H L d) : MutO ms ps H0 H' L d :=
  ⟨m.im, m.hp, m.h0, valO_map (fun p o n hp => ⟨n, e.kp p o (fun z => n (w.pm p z)) hp⟩) (fun o h => e.kp L o m.hp h) d m.val⟩
theorem mo_ext (e : Ret [] H H') (m : MutO ms ps H0 H L d) : MutO ms ps H0 H' L d :=
  ⟨m.im, m.hp, m.h0, valO_map (fun p o n hp => ⟨n, e.kp p o (by simp) hp⟩) (fun o h => e.kp L o (by simp) h) d m.val⟩
theorem mo_ne (nl : H L = none) (m : MutO ms ps H0 H L' d) : L' ≠ L := fun z => by
  obtain ⟨o, h⟩ := m.some
  rw [z, nl] at h
  cases h
theorem mo_cell {o : HO} (nl : H L = none) (m : MutO ms ps H0 H L' d) : MutO (L :: ms) ps H0 (upd H L o) L' d :=
  ⟨List.mem_cons_of_mem _ m.im, m.hp, m.h0, valO_map (fun p o n hp => ⟨fun z => by
    rcases List.mem_cons.mp z with z | z
    · exact ne_of_none hp nl z
    · exact n z, by rw [upd_ne (ne_of_none hp nl)]; exact hp⟩) (fun o h => by rw [upd_ne (mo_ne nl m)]; exact h) d m.val⟩
theorem mo_put {o : HO} (lm : L ∈ ms) (ne : L' ≠ L) (m : MutO ms ps H0 H L' d) : MutO ms ps H0 (upd H L o) L' d :=
  ⟨m.im, m.hp, m.h0, valO_map (fun p o n hp => ⟨n, by rw [upd_ne (fun z => n (by rw [z]; exact lm))]; exact hp⟩) (fun o h => by rw [upd_ne ne]; exact h) d m.val⟩
theorem mo_sub (s : ∀ a ∈ ms', a ∈ ms) (i : L ∈ ms') (m : MutO ms ps H0 H L d) : MutO ms' ps H0 H L d :=
  ⟨i, m.hp, m.h0, valO_map (fun p o n hp => ⟨fun z => n (s p z), hp⟩) (fun o h => h) d m.val⟩
theorem rep_sub (s : ∀ a ∈ ms', a ∈ ms) (h : rep ms H d u) : rep ms' H d u := rep_map (fun p o n hp => ⟨fun z => n (s p z), hp⟩) d u h
theorem wd_sub (s : ∀ a ∈ ms', a ∈ ms) (hp : ∀ a ∈ ps, a ∈ ms') (w : Wd ms ps [] H0 H) : Wd ms' ps [] H0 H :=
  ⟨w.kp, w.grow, fun m h => w.tr m (s m h), w.pot, hp, fun _ h => absurd h List.not_mem_nil⟩
theorem keep_sub (h : ∀ a ∈ ms, a ∈ ms' ∨ H1 a = none) (k : Keep ms H1 H) : Keep ms' H1 H := fun a o n e => k a o (fun z => by
  rcases h a z with z | z
  · exact n z
  · rw [z] at e
    cases e) e
theorem mo_rep (n : L ∉ ms') (s : ∀ a ∈ ms', a ∈ ms) (m : MutO ms ps H0 H L d) : rep ms' H d (.ref L) := by
  have h := m.val
  cases d with
  | lst ds =>
    obtain ⟨vs, h1, h2⟩ := h
    simp only [rep]
    exact ⟨L, vs, rfl, n, h1, repL_map (fun p o n hp => ⟨fun z => n (s p z), hp⟩) ds vs h2⟩
  | dct ks ds =>
    obtain ⟨vs, h1, h2, h3⟩ := h
    simp only [rep]
    exact ⟨L, vs, rfl, n, h1, h2, repL_map (fun p o n hp => ⟨fun z => n (s p z), hp⟩) ds vs h3⟩
  | dcT ks ds =>
    obtain ⟨vs, h1, h2, h3⟩ := h
    simp only [rep]
    exact ⟨L, vs, rfl, n, h1, h2, repL_map (fun p o n hp => ⟨fun z => n (s p z), hp⟩) ds vs h3⟩
  | v _ => exact h.elim
  | tup _ => exact h.elim
  | ins _ _ _ => exact h.elim
/-- a new thing of one's own -/
theorem wd_cell {o : HO} (w : Wd ms ps [] H0 H) (nl : H L = none) : Wd (L :: ms) ps [] H0 (upd H L o) := by
  have w1 := w.ret0 (Ext.new (o := o) nl)
  refine ⟨w1.kp, w1.grow, fun m h => ?_, w1.pot, fun a h => List.mem_cons_of_mem _ (w.pm a h), fun _ h => absurd h List.not_mem_nil⟩
  rcases List.mem_cons.mp h with rfl | h
  · rw [upd_same]
    exact fun z => nomatch z
  · exact w1.tr m h
theorem pot_new (w : Wd ms ps [] H0 H) (nl : H L = none) : L ∉ ps := fun z => by
  obtain ⟨i, j, h, _⟩ := w.pot L z
  rw [nl] at h
  cases h
theorem nm_new (w : Wd ms ps [] H0 H) (nl : H L = none) : L ∉ ms := fun z => w.tr L z nl
theorem mo_newL (w : Wd ms ps [] H0 H) (nl : H L = none) (r : repL ms H ds vs) : MutO (L :: ms) ps H0 (upd H L (.lst vs)) L (.lst ds) :=
  ⟨List.mem_cons_self, pot_new w nl, wd_none w nl, vs, upd_same, repL_map (fun p o n hp => ⟨fun z => by
    rcases List.mem_cons.mp z with z | z
    · exact ne_of_none hp nl z
    · exact n z, by rw [upd_ne (ne_of_none hp nl)]; exact hp⟩) _ _ r⟩
theorem mo_newD {ks : List Key} (w : Wd ms ps [] H0 H) (nl : H L = none) (hl : ks.length = vs.length) (r : repL ms H ds vs) : MutO (L :: ms) ps H0 (upd H L (.dK (ks.zip vs))) L (.dct ks ds) :=
  ⟨List.mem_cons_self, pot_new w nl, wd_none w nl, vs, upd_same, hl, repL_map (fun p o n hp => ⟨fun z => by
    rcases List.mem_cons.mp z with z | z
    · exact ne_of_none hp nl z
    · exact n z, by rw [upd_ne (ne_of_none hp nl)]; exact hp⟩) _ _ r⟩
/-- told anew -/
theorem wd_put {o : HO} (w : Wd ms ps [] H0 H) (m : MutO ms ps H0 H L d) : Wd ms ps [] H0 (upd H L o) := by
  refine ⟨fun a o' n h => ?_, fun a h => ?_, fun a h => ?_, fun a h => ?_, w.pm, fun _ h => absurd h List.not_mem_nil⟩
  · rw [upd_ne (ne_of_none h m.h0)]
    exact w.kp a o' n h
  · by_cases e : a = L
    · rw [e, upd_same]
      exact fun z => nomatch z
    · rw [upd_ne e]
      exact w.grow a h
  · by_cases e : a = L
    · rw [e, upd_same]
      exact fun z => nomatch z
    · rw [upd_ne e]
      exact w.tr a h
  · obtain ⟨i, j, h1, h3⟩ := w.pot a h
    exact ⟨i, j, by rw [upd_ne (fun z => m.hp (by rw [← z]; exact h))]; exact h1, h3⟩
theorem mo_setL (m : MutO ms ps H0 H L d) (r : repL ms H ds vs) : MutO ms ps H0 (upd H L (.lst vs)) L (.lst ds) :=
  ⟨m.im, m.hp, m.h0, vs, upd_same, repL_put m.im r⟩
theorem mo_appU {P : Addr → List V → V → Prop} (m : MutO ms ps H0 H L (.lst ds)) (hl : ds.length < 16777216) (k : ∀ vs, repL ms H ds vs → P L vs u) :
    ∃ (l : Addr) (xs : List V) (y : V), V.ref L = .ref l ∧ [u] = [y] ∧ H l = some (.lst xs) ∧ xs.length < sizeLine ∧ P l xs y := by
  obtain ⟨vs, h1, h2⟩ := m.val
  refine ⟨L, vs, u, rfl, rfl, h1, ?_, k vs h2⟩
  rw [← repL_len h2, sizeLine_eq]
  exact hl
theorem mo_tyL (m : MutO ms ps H0 H L (.lst ds)) : tyV K "list" (.ref L) H := by
  obtain ⟨vs, h1, h2⟩ := m.val
  exact .inl ⟨rfl, vs, .inl (.inl h1)⟩
theorem mo_setU {α : Type} {e : α → D} {xs : List α} {k : Int} {v : V} {Q : Hp → Prop} (m : MutO ms ps H0 H L (.lst (xs.map e))) (h0 : 0 ≤ k) (hj : k.toNat < xs.length)
    (kk : ∀ vs, repL ms H (xs.map e) vs → Q (upd H L (.lst (vs.set k.toNat v)))) : rSetL (.ref L) (.int k) v H Q := by
  obtain ⟨vs, h1, h2⟩ := m.val
  have hl := repL_len h2
  rw [List.length_map] at hl
  refine ⟨L, vs, k, k.toNat, rfl, rfl, h1, ?_, kk vs h2⟩
  unfold ixN
  rw [if_pos h0, if_pos (by omega)]
/-- a list of one's own, as the comprehension's end wants it -/
theorem mo_end {n : Nat} {Nx : Hp → Prop} (m : MutO ms ps H0 H L (.lst ds)) (hn : n < 100000) (hy : ds.length ≤ n) (h : ∀ vs, repL ms H ds vs → Nx (upd H L (.lst (vs ++ [u])))) :
    ∃ acc, H L = some (.lst acc) ∧ acc.length < sizeLine ∧ Nx (upd H L (.lst (acc ++ [u]))) := by
  obtain ⟨vs, h1, h2⟩ := m.val
  refine ⟨vs, h1, ?_, h vs h2⟩
  have q := repL_len h2
  have e : sizeLine = 16777216 := sizeLine_eq
  omega
theorem repL_snoc {α : Type} {e : α → D} {xs : List α} {y : α} (r : repL ms H (xs.map e) vs) (h : rep ms H (e y) u) : repL ms H ((xs ++ [y]).map e) (vs ++ [u]) := by
  rw [List.map_append]
  exact repL_app r (repL_one h)
theorem repL_cat {α : Type} {e : α → D} {xs ys : List α} {us : List V} (r : repL ms H (xs.map e) vs) (h : repL ms H (ys.map e) us) : repL ms H ((xs ++ ys).map e) (vs ++ us) := by
  rw [List.map_append]
  exact repL_app r h
end

/-! loops by any invariant -/
section
variable {α S : Type} {K : PySem.W.Frag} {H1 : Hp} {g : TG} {tb : TS} {D' : Ends} {σ : L2.St}
theorem for_rangeG {lo hi : Int} {N : Nat} {body : Int → S → (S → Prop) → Prop} {KM : S → Prop} (SI : S → L2.St → Hp → Prop) (s0 : S) (hN : N = (hi - lo).toNat) (hM : forC body (rangeI lo hi) s0 KM) (h0 : SI s0 σ H1)
    (hs : ∀ (x : Int) (s : S) (k : S → Prop) (σ : L2.St) (H : Hp), SI s σ H → body x s k → ∀ Nx : L2.St → Hp → Prop, (∀ s' σ' H', k s' → SI s' σ' H' → Nx σ' H') →
      g (.int x) σ H fun σ2 H2 => tb { D' with nx := Nx, ct := Nx, bk := D'.nx } σ2 H2)
    (hd : ∀ s σ H, KM s → SI s σ H → D'.nx σ H) :
    ∃ W : Nat → Nat → L2.St → Hp → Prop, (∃ m, W 0 m σ H1) ∧ ∀ i m σ H, W i m σ H →
      ((Itr lo N).stop i H ∧ D'.nx σ H) ∨ ((Itr lo N).go i H ∧ ∃ Nx : L2.St → Hp → Prop, (∀ σ' H', Nx σ' H' → ∃ m', m' < m ∧ W (i + 1) m' σ' H') ∧ ∀ x H', (Itr lo N).yld i H x H' → g x σ H' fun σ2 H2 => tb { D' with nx := Nx, ct := Nx, bk := D'.nx } σ2 H2) := by
  subst hN
  refine for_range (lo := lo) (n := (hi - lo).toNat) (D := D') (fun i σ H => ∃ s, SI s σ H ∧ forC body ((rangeI lo hi).drop i) s KM) ⟨s0, h0, hM⟩ (fun i σ H hi' ⟨s, si, q⟩ => ?_) (fun σ H ⟨s, si, q⟩ => ?_)
  · rw [drop_cons' (rangeI_get hi')] at q
    exact hs _ s _ σ H si q _ fun s' σ' H' hk si2 => ⟨s', si2, hk⟩
  · rw [List.drop_of_length_le (by rw [rangeI_len]; exact Nat.le_refl _)] at q
    exact hd s σ H q si
theorem for_listG {items : List α} {e : α → D} {ms : List Addr} {a : Addr} {xs : List V} {body : α → S → (S → Prop) → Prop} {KM : S → Prop} (SI : S → L2.St → Hp → Prop) (s0 : S) (an : a ∉ ms) (ha : H1 a = some (.lst xs)) (hx : repL ms H1 (items.map e) xs)
    (kp : ∀ s σ H, SI s σ H → Keep ms H1 H) (hM : forC body items s0 KM) (h0 : SI s0 σ H1)
    (hs : ∀ (x : α) (u : V) (s : S) (k : S → Prop) (σ : L2.St) (H : Hp), SI s σ H → rep ms H (e x) u → body x s k → ∀ Nx : L2.St → Hp → Prop, (∀ s' σ' H', k s' → SI s' σ' H' → Nx σ' H') →
      g u σ H fun σ2 H2 => tb { D' with nx := Nx, ct := Nx, bk := D'.nx } σ2 H2)
    (hd : ∀ s σ H, KM s → SI s σ H → D'.nx σ H) :
    ∃ W : Nat → Nat → L2.St → Hp → Prop, (∃ m, W 0 m σ H1) ∧ ∀ i m σ H, W i m σ H →
      ((Itl K a).stop i H ∧ D'.nx σ H) ∨ ((Itl K a).go i H ∧ ∃ Nx : L2.St → Hp → Prop, (∀ σ' H', Nx σ' H' → ∃ m', m' < m ∧ W (i + 1) m' σ' H') ∧ ∀ x H', (Itl K a).yld i H x H' → g x σ H' fun σ2 H2 => tb { D' with nx := Nx, ct := Nx, bk := D'.nx } σ2 H2) := by
  have hl : items.length = xs.length := by
    have := repL_len hx
    rwa [List.length_map] at this
  refine for_list (xs := xs) (D := D') (fun i σ H => ∃ s, SI s σ H ∧ forC body (items.drop i) s KM) ⟨s0, h0, hM⟩ (fun i σ H _ ⟨s, si, _⟩ => .inl (.inl (kp s σ H si a _ an ha))) (fun i x σ H hx' ⟨s, si, q⟩ => ?_) (fun σ H ⟨s, si, q⟩ => ?_)
  · have hi : i < xs.length := (List.getElem?_eq_some_iff.mp hx').1
    have hit : items[i]? = some (items[i]'(by omega)) := List.getElem?_eq_getElem (by omega)
    rw [drop_cons' hit] at q
    obtain ⟨v, hv, rv⟩ := repL_get (repL_keep (kp s σ H si) hx) (j := i) (d := e (items[i]'(by omega))) (by rw [List.getElem?_map, hit]; rfl)
    rw [hx'] at hv
    have ev : x = v := Option.some.inj hv
    subst ev
    exact hs _ x s _ σ H si rv q _ fun s' σ' H' hk si2 => ⟨s', si2, hk⟩
  · rw [List.drop_of_length_le (by omega)] at q
    exact hd s σ H q si
theorem while_G {c : TT} {fuel : Nat} {body : S → (S → Prop) → (S → Prop) → Prop} {KM : S → Prop} (SI : S → L2.St → Hp → Prop) (s0 : S) (hM : whileC body fuel s0 KM) (h0 : SI s0 σ H1)
    (hs : ∀ (s : S) (k1 k2 : S → Prop) (σ : L2.St) (H : Hp), SI s σ H → body s k1 k2 → ∀ (Nx : L2.St → Hp → Prop) (Ex : L2.St → Hp → Prop), (∀ s' σ' H', k1 s' → SI s' σ' H' → Nx σ' H') → (∀ s' σ' H', k2 s' → SI s' σ' H' → Ex σ' H') →
      c σ H fun b H1 => if b = true then tb { D' with nx := Nx, ct := Nx, bk := D'.nx } σ H1 else Ex σ H1)
    (hd : ∀ s σ H, KM s → SI s σ H → D'.nx σ H)
    (mono : ∀ σ H Q Q', (∀ b H1, Q b H1 → Q' b H1) → c σ H Q → c σ H Q') : tWhile c tb D' σ H1 := by
  refine ⟨fun m σ H => ∃ s, SI s σ H ∧ whileC body m s KM, ⟨fuel, s0, h0, hM⟩, ?_⟩
  rintro m σ H ⟨s, si, q⟩
  cases m with
  | zero => exact False.elim q
  | succ m =>
    refine mono _ _ _ _ (fun b H2 hb => ?_) (hs s _ _ σ H si q (fun σ' H' => ∃ s, SI s σ' H' ∧ whileC body m s KM) D'.nx (fun s' σ' H' hk si2 => ⟨s', si2, hk⟩) fun s' σ' H' hk si2 => hd s' σ' H' hk si2)
    cases b with
    | true => exact ⟨_, fun σ' H' p => ⟨m, Nat.lt_succ_self m, p⟩, hb⟩
    | false => exact hb
end

/-! comprehensions by any invariant -/
section
variable {α β : Type} {K : PySem.W.Frag} {H1 H2 : Hp} {g : TG} {tt : TT} {te : TE} {vl : List Nat} {σ : L2.St} {Qd : Hp → Prop} {L : Addr}
/-- one turn -/
abbrev Turn (g : TG) (tt : TT) (te : TE) (vl : List Nat) (σ : L2.St) (L : Addr) (u : V) (H : Hp) (Nx : Hp → Prop) : Prop :=
  g u (wipe σ vl) H fun σ2 H2 => wipe σ2 vl = wipe σ vl ∧ tt σ2 H2 fun b H3 => if b = true then te σ2 H3 fun y H4 => ∃ acc, H4 L = some (.lst acc) ∧ acc.length < sizeLine ∧ Nx (upd H4 L (.lst (acc ++ [y]))) else Nx H3
theorem lc_rangeG {lo hi : Int} {N : Nat} {body : Int → (β → Prop) → Prop} {KM : List β → Prop} (SI : Nat → List β → Hp → Prop) (hN : N = (hi - lo).toNat) (hM : (rangeI lo hi).length < 100000 ∧ mapC body (rangeI lo hi) [] KM) (h0 : SI 0 [] (upd H1 L (.lst [])))
    (hs : ∀ (x : Int) (n : Nat) (ys : List β) (k : β → Prop) (H : Hp), n < 100000 → SI n ys H → body x k → ∀ Nx : Hp → Prop, (∀ y H', k y → SI (n + 1) (ys ++ [y]) H' → Nx H') → Turn g tt te vl σ L (.int x) H Nx)
    (hd : ∀ n ys H, KM ys → SI n ys H → Qd H) :
    ∃ W : Nat → Nat → Hp → Prop, (∃ m, W 0 m (upd H1 L (.lst []))) ∧ ∀ i m H, W i m H →
      ((Itr lo N).stop i H ∧ Qd H) ∨ ((Itr lo N).go i H ∧ ∃ Nx : Hp → Prop, (∀ H', Nx H' → ∃ m', m' < m ∧ W (i + 1) m' H') ∧ ∀ x H', (Itr lo N).yld i H x H' → g x (wipe σ vl) H' fun σ2 H2 => wipe σ2 vl = wipe σ vl ∧ tt σ2 H2 fun b H3 =>
        if b = true then te σ2 H3 fun y H4 => ∃ acc, H4 L = some (.lst acc) ∧ acc.length < sizeLine ∧ Nx (upd H4 L (.lst (acc ++ [y]))) else Nx H3) := by
  obtain ⟨hn, hM⟩ := hM
  subst hN
  rw [rangeI_len] at hn
  refine ⟨fun i m H => m = (hi - lo).toNat - i ∧ i ≤ (hi - lo).toNat ∧ ∃ ys, SI i ys H ∧ mapC body ((rangeI lo hi).drop i) ys KM, ⟨_, rfl, Nat.zero_le _, [], h0, hM⟩, ?_⟩
  rintro i m H ⟨rfl, hi', ys, T, q⟩
  by_cases hlt : i < (hi - lo).toNat
  · refine .inr ⟨hlt, fun H' => i + 1 ≤ (hi - lo).toNat ∧ ∃ ys, SI (i + 1) ys H' ∧ mapC body ((rangeI lo hi).drop (i + 1)) ys KM, fun H' p' => ⟨_, by omega, rfl, p'⟩, fun x H' y => ?_⟩
    obtain ⟨e, y⟩ := y
    subst e y
    rw [drop_cons' (rangeI_get hlt)] at q
    exact hs _ i ys _ H' (by omega) T q _ fun y H' k T' => ⟨hlt, _, T', k⟩
  · have e : i = (hi - lo).toNat := by omega
    refine .inl ⟨by rw [e]; exact Nat.le_refl _, ?_⟩
    rw [List.drop_of_length_le (by rw [rangeI_len]; omega)] at q
    exact hd _ ys H q T
theorem lf_rangeG {lo hi : Int} {N : Nat} {body : Int → (Option β → Prop) → Prop} {KM : List β → Prop} (SI : Nat → List β → Hp → Prop) (hN : N = (hi - lo).toNat) (hM : (rangeI lo hi).length < 100000 ∧ filC body (rangeI lo hi) [] KM) (h0 : SI 0 [] (upd H1 L (.lst [])))
    (hs : ∀ (x : Int) (n : Nat) (ys : List β) (k : Option β → Prop) (H : Hp), n < 100000 → SI n ys H → body x k → ∀ Nx : Hp → Prop, (∀ y H', k (some y) → SI (n + 1) (ys ++ [y]) H' → Nx H') → (∀ H', k none → SI (n + 1) ys H' → Nx H') → Turn g tt te vl σ L (.int x) H Nx)
    (hd : ∀ n ys H, KM ys → SI n ys H → Qd H) :
    ∃ W : Nat → Nat → Hp → Prop, (∃ m, W 0 m (upd H1 L (.lst []))) ∧ ∀ i m H, W i m H →
      ((Itr lo N).stop i H ∧ Qd H) ∨ ((Itr lo N).go i H ∧ ∃ Nx : Hp → Prop, (∀ H', Nx H' → ∃ m', m' < m ∧ W (i + 1) m' H') ∧ ∀ x H', (Itr lo N).yld i H x H' → g x (wipe σ vl) H' fun σ2 H2 => wipe σ2 vl = wipe σ vl ∧ tt σ2 H2 fun b H3 =>
        if b = true then te σ2 H3 fun y H4 => ∃ acc, H4 L = some (.lst acc) ∧ acc.length < sizeLine ∧ Nx (upd H4 L (.lst (acc ++ [y]))) else Nx H3) := by
  obtain ⟨hn, hM⟩ := hM
  subst hN
  rw [rangeI_len] at hn
  refine ⟨fun i m H => m = (hi - lo).toNat - i ∧ i ≤ (hi - lo).toNat ∧ ∃ ys, SI i ys H ∧ filC body ((rangeI lo hi).drop i) ys KM, ⟨_, rfl, Nat.zero_le _, [], h0, hM⟩, ?_⟩
  rintro i m H ⟨rfl, hi', ys, T, q⟩
  by_cases hlt : i < (hi - lo).toNat
  · refine .inr ⟨hlt, fun H' => i + 1 ≤ (hi - lo).toNat ∧ ∃ ys, SI (i + 1) ys H' ∧ filC body ((rangeI lo hi).drop (i + 1)) ys KM, fun H' p' => ⟨_, by omega, rfl, p'⟩, fun x H' y => ?_⟩
    obtain ⟨e, y⟩ := y
    subst e y
    rw [drop_cons' (rangeI_get hlt)] at q
    exact hs _ i ys _ H' (by omega) T q _ (fun y H' k T' => ⟨hlt, _, T', k⟩) fun H' k T' => ⟨hlt, _, T', k⟩
  · have e : i = (hi - lo).toNat := by omega
    refine .inl ⟨by rw [e]; exact Nat.le_refl _, ?_⟩
    rw [List.drop_of_length_le (by rw [rangeI_len]; omega)] at q
    exact hd _ ys H q T
theorem lc_strG {z : Str} {body : Str → (β → Prop) → Prop} {KM : List β → Prop} (SI : Nat → List β → Hp → Prop) (hM : (signs z).length < 100000 ∧ mapC body (signs z) [] KM) (h0 : SI 0 [] (upd H1 L (.lst [])))
    (hs : ∀ (x : Str) (n : Nat) (ys : List β) (k : β → Prop) (H : Hp), n < 100000 → SI n ys H → body x k → ∀ Nx : Hp → Prop, (∀ y H', k y → SI (n + 1) (ys ++ [y]) H' → Nx H') → Turn g tt te vl σ L (.str x) H Nx)
    (hd : ∀ n ys H, KM ys → SI n ys H → Qd H) :
    ∃ W : Nat → Nat → Hp → Prop, (∃ m, W 0 m (upd H1 L (.lst []))) ∧ ∀ i m H, W i m H →
      ((Its z).stop i H ∧ Qd H) ∨ ((Its z).go i H ∧ ∃ Nx : Hp → Prop, (∀ H', Nx H' → ∃ m', m' < m ∧ W (i + 1) m' H') ∧ ∀ x H', (Its z).yld i H x H' → g x (wipe σ vl) H' fun σ2 H2 => wipe σ2 vl = wipe σ vl ∧ tt σ2 H2 fun b H3 =>
        if b = true then te σ2 H3 fun y H4 => ∃ acc, H4 L = some (.lst acc) ∧ acc.length < sizeLine ∧ Nx (upd H4 L (.lst (acc ++ [y]))) else Nx H3) := by
  obtain ⟨hn, hM⟩ := hM
  rw [signs_len] at hn
  refine ⟨fun i m H => m = z.cps.size - i ∧ i ≤ z.cps.size ∧ ∃ ys, SI i ys H ∧ mapC body ((signs z).drop i) ys KM, ⟨_, rfl, Nat.zero_le _, [], h0, hM⟩, ?_⟩
  rintro i m H ⟨rfl, hi', ys, T, q⟩
  by_cases hlt : i < z.cps.size
  · refine .inr ⟨hlt, fun H' => i + 1 ≤ z.cps.size ∧ ∃ ys, SI (i + 1) ys H' ∧ mapC body ((signs z).drop (i + 1)) ys KM, fun H' p' => ⟨_, by omega, rfl, p'⟩, fun x H' y => ?_⟩
    obtain ⟨e, c, hc, y⟩ := y
    subst e y
    rw [drop_cons' (signs_get hc)] at q
    exact hs _ i ys _ H' (by omega) T q _ fun y H' k T' => ⟨hlt, _, T', k⟩
  · have e : i = z.cps.size := by omega
    refine .inl ⟨by rw [e]; exact Nat.le_refl _, ?_⟩
    rw [List.drop_of_length_le (by rw [signs_len]; omega)] at q
    exact hd _ ys H q T
/-- over a list; the items stand outside what changes -/
theorem lc_listG {items : List α} {e : α → D} {ms : List Addr} {a : Addr} {xs : List V} {body : α → (β → Prop) → Prop} {KM : List β → Prop} (SI : Nat → List β → Hp → Prop) (an : a ∉ ms) (ha : H1 a = some (.lst xs)) (hx : repL ms H1 (items.map e) xs) (nl : H1 L = none)
    (kp : ∀ n ys H, SI n ys H → Keep (L :: ms) H1 H) (hM : items.length < 100000 ∧ mapC body items [] KM) (h0 : SI 0 [] (upd H1 L (.lst [])))
    (hs : ∀ (x : α) (u : V) (n : Nat) (ys : List β) (k : β → Prop) (H : Hp), n < 100000 → SI n ys H → rep (L :: ms) H (e x) u → body x k → ∀ Nx : Hp → Prop, (∀ y H', k y → SI (n + 1) (ys ++ [y]) H' → Nx H') → Turn g tt te vl σ L u H Nx)
    (hd : ∀ n ys H, KM ys → SI n ys H → Qd H) :
    ∃ W : Nat → Nat → Hp → Prop, (∃ m, W 0 m (upd H1 L (.lst []))) ∧ ∀ i m H, W i m H →
      ((Itl K a).stop i H ∧ Qd H) ∨ ((Itl K a).go i H ∧ ∃ Nx : Hp → Prop, (∀ H', Nx H' → ∃ m', m' < m ∧ W (i + 1) m' H') ∧ ∀ x H', (Itl K a).yld i H x H' → g x (wipe σ vl) H' fun σ2 H2 => wipe σ2 vl = wipe σ vl ∧ tt σ2 H2 fun b H3 =>
        if b = true then te σ2 H3 fun y H4 => ∃ acc, H4 L = some (.lst acc) ∧ acc.length < sizeLine ∧ Nx (upd H4 L (.lst (acc ++ [y]))) else Nx H3) := by
  obtain ⟨hn, hM⟩ := hM
  have hl : items.length = xs.length := by
    have := repL_len hx
    rwa [List.length_map] at this
  have aM : a ∉ L :: ms := fun z => by
    rcases List.mem_cons.mp z with z | z
    · exact ne_of_none ha nl z
    · exact an z
  have hx1 : repL (L :: ms) H1 (items.map e) xs := repL_new nl hx
  refine ⟨fun i m H => m = xs.length - i ∧ i ≤ xs.length ∧ ∃ ys, SI i ys H ∧ mapC body (items.drop i) ys KM, ⟨_, rfl, Nat.zero_le _, [], h0, hM⟩, ?_⟩
  rintro i m H ⟨rfl, hi', ys, T, q⟩
  have hA : H a = some (.lst xs) := kp i ys H T a _ aM ha
  by_cases hlt : i < xs.length
  · refine .inr ⟨⟨xs, xs[i], .inl (.inl hA), by simp [hlt]⟩, fun H' => i + 1 ≤ xs.length ∧ ∃ ys, SI (i + 1) ys H' ∧ mapC body (items.drop (i + 1)) ys KM, fun H' p' => ⟨_, by omega, rfl, p'⟩, fun x H' y => ?_⟩
    obtain ⟨e1, y⟩ := y
    subst e1
    have hxi := y xs (.inl (.inl hA))
    have hit : items[i]? = some (items[i]'(by omega)) := List.getElem?_eq_getElem (by omega)
    rw [drop_cons' hit] at q
    obtain ⟨v, hv, rv⟩ := repL_get (repL_keep (kp i ys H' T) hx1) (j := i) (d := e (items[i]'(by omega))) (by rw [List.getElem?_map, hit]; rfl)
    rw [hxi] at hv
    have ev : x = v := Option.some.inj hv
    subst ev
    exact hs _ x i ys _ H' (by omega) T rv q _ fun y H'' k T' => ⟨hlt, _, T', k⟩
  · refine .inl ⟨⟨xs, .inl (.inl hA), by omega⟩, ?_⟩
    rw [List.drop_of_length_le (by omega)] at q
    exact hd _ ys H q T
theorem lf_listG {items : List α} {e : α → D} {ms : List Addr} {a : Addr} {xs : List V} {body : α → (Option β → Prop) → Prop} {KM : List β → Prop} (SI : Nat → List β → Hp → Prop) (an : a ∉ ms) (ha : H1 a = some (.lst xs)) (hx : repL ms H1 (items.map e) xs) (nl : H1 L = none)
    (kp : ∀ n ys H, SI n ys H → Keep (L :: ms) H1 H) (hM : items.length < 100000 ∧ filC body items [] KM) (h0 : SI 0 [] (upd H1 L (.lst [])))
    (hs : ∀ (x : α) (u : V) (n : Nat) (ys : List β) (k : Option β → Prop) (H : Hp), n < 100000 → SI n ys H → rep (L :: ms) H (e x) u → body x k → ∀ Nx : Hp → Prop, (∀ y H', k (some y) → SI (n + 1) (ys ++ [y]) H' → Nx H') → (∀ H', k none → SI (n + 1) ys H' → Nx H') → Turn g tt te vl σ L u H Nx)
    (hd : ∀ n ys H, KM ys → SI n ys H → Qd H) :
    ∃ W : Nat → Nat → Hp → Prop, (∃ m, W 0 m (upd H1 L (.lst []))) ∧ ∀ i m H, W i m H →
      ((Itl K a).stop i H ∧ Qd H) ∨ ((Itl K a).go i H ∧ ∃ Nx : Hp → Prop, (∀ H', Nx H' → ∃ m', m' < m ∧ W (i + 1) m' H') ∧ ∀ x H', (Itl K a).yld i H x H' → g x (wipe σ vl) H' fun σ2 H2 => wipe σ2 vl = wipe σ vl ∧ tt σ2 H2 fun b H3 =>
        if b = true then te σ2 H3 fun y H4 => ∃ acc, H4 L = some (.lst acc) ∧ acc.length < sizeLine ∧ Nx (upd H4 L (.lst (acc ++ [y]))) else Nx H3) := by
  obtain ⟨hn, hM⟩ := hM
  have hl : items.length = xs.length := by
    have := repL_len hx
    rwa [List.length_map] at this
  have aM : a ∉ L :: ms := fun z => by
    rcases List.mem_cons.mp z with z | z
    · exact ne_of_none ha nl z
    · exact an z
  have hx1 : repL (L :: ms) H1 (items.map e) xs := repL_new nl hx
  refine ⟨fun i m H => m = xs.length - i ∧ i ≤ xs.length ∧ ∃ ys, SI i ys H ∧ filC body (items.drop i) ys KM, ⟨_, rfl, Nat.zero_le _, [], h0, hM⟩, ?_⟩
  rintro i m H ⟨rfl, hi', ys, T, q⟩
  have hA : H a = some (.lst xs) := kp i ys H T a _ aM ha
  by_cases hlt : i < xs.length
  · refine .inr ⟨⟨xs, xs[i], .inl (.inl hA), by simp [hlt]⟩, fun H' => i + 1 ≤ xs.length ∧ ∃ ys, SI (i + 1) ys H' ∧ filC body (items.drop (i + 1)) ys KM, fun H' p' => ⟨_, by omega, rfl, p'⟩, fun x H' y => ?_⟩
    obtain ⟨e1, y⟩ := y
    subst e1
    have hxi := y xs (.inl (.inl hA))
    have hit : items[i]? = some (items[i]'(by omega)) := List.getElem?_eq_getElem (by omega)
    rw [drop_cons' hit] at q
    obtain ⟨v, hv, rv⟩ := repL_get (repL_keep (kp i ys H' T) hx1) (j := i) (d := e (items[i]'(by omega))) (by rw [List.getElem?_map, hit]; rfl)
    rw [hxi] at hv
    have ev : x = v := Option.some.inj hv
    subst ev
    exact hs _ x i ys _ H' (by omega) T rv q _ (fun y H'' k T' => ⟨hlt, _, T', k⟩) fun H'' k T' => ⟨hlt, _, T', k⟩
  · refine .inl ⟨⟨xs, .inl (.inl hA), by omega⟩, ?_⟩
    rw [List.drop_of_length_le (by omega)] at q
    exact hd _ ys H q T
end
end Rx
namespace Rx
open PySem PySem.Spec PyProof.Rows L2
/-! a thing of one's own is let go -/
structure Drop (ms : List Addr) (L : Addr) (ms' : List Addr) : Prop where
  sub : ∀ a ∈ ms', a ∈ ms
  ex : ∀ a ∈ ms, a ∈ ms' ∨ a = L
theorem dr_here {L : Addr} {ms : List Addr} : Drop (L :: ms) L ms := ⟨fun _ h => List.mem_cons_of_mem _ h, fun a h => (List.mem_cons.mp h).elim .inr .inl⟩
theorem dr_cons {L x : Addr} {ms ms' : List Addr} (d : Drop ms L ms') : Drop (x :: ms) L (x :: ms') :=
  ⟨fun a h => (List.mem_cons.mp h).elim (fun e => by rw [e]; exact List.mem_cons_self) fun h => List.mem_cons_of_mem _ (d.sub a h), fun a h => (List.mem_cons.mp h).elim (fun e => .inl (by rw [e]; exact List.mem_cons_self)) fun h => (d.ex a h).imp (List.mem_cons_of_mem _) id⟩
theorem nm_cons {L x : Addr} {ms : List Addr} (ne : L ≠ x) (n : L ∉ ms) : L ∉ x :: ms := fun z => (List.mem_cons.mp z).elim ne n
section
variable {K : PySem.W.Frag} {ms ms' ps : List Addr} {H0 H H' H1 : Hp} {L L' : Addr} {d d' : D} {ds : List D} {u x : V} {vs : List V}
theorem nm_dr (dr : Drop ms L ms') (n : L' ∉ ms) : L' ∉ ms' := fun z => n (dr.sub _ z)
theorem keep_dr (dr : Drop ms L ms') (n : H1 L = none) (k : Keep ms H1 H) : Keep ms' H1 H := fun a o na e => k a o (fun z => by
  rcases dr.ex a z with z | z
  · exact na z
  · rw [z, n] at e
    cases e) e
theorem wd_dr (dr : Drop ms L ms') (hp : L ∉ ps) (w : Wd ms ps [] H0 H) : Wd ms' ps [] H0 H := wd_sub dr.sub (fun a h => (dr.ex a (w.pm a h)).elim id fun e => absurd (by rw [← e]; exact h) hp) w
theorem rep_dr (dr : Drop ms L ms') (h : rep ms H d u) : rep ms' H d u := rep_sub dr.sub h
theorem repL_dr (dr : Drop ms L ms') (h : repL ms H ds vs) : repL ms' H ds vs := repL_map (fun p o n hp => ⟨fun z => n (dr.sub p z), hp⟩) ds vs h
theorem mo_dr (dr : Drop ms L ms') (ne : L' ≠ L) (m : MutO ms ps H0 H L' d) : MutO ms' ps H0 H L' d := mo_sub dr.sub ((dr.ex _ m.im).elim id fun e => absurd e ne) m
theorem mo_rep_dr (dr : Drop ms L ms') (n : L ∉ ms') (m : MutO ms ps H0 H L d) : rep ms' H d (.ref L) := mo_rep n dr.sub m
mutual
def noM : D → Bool
  | .v _ => true
  | .lst _ => false
  | .tup ds => noMs ds
  | .ins _ _ ds => noMs ds
  | .dct _ _ => false
  | .dcT _ _ => false
def noMs : List D → Bool
  | [] => true
  | d :: ds => noM d && noMs ds
end
def isMo : Option HO → Prop
  | some (.lst _) => True
  | some (.dK _) => True
  | some (.dT _) => True
  | _ => False
theorem MutO.isMo (m : MutO ms ps H0 H L d) : isMo (H L) := by
  have h := m.val
  cases d with
  | lst ds =>
    rw [h.choose_spec.1]
    trivial
  | dct ks ds =>
    rw [h.choose_spec.1]
    trivial
  | dcT ks ds =>
    rw [h.choose_spec.1]
    trivial
  | v _ => exact h.elim
  | tup _ => exact h.elim
  | ins _ _ _ => exact h.elim
mutual
theorem rep_liftO (dr : Drop ms L ms') (hL : Rx.isMo (H L)) : ∀ (d : D) (u : V), noM d = true → rep ms' H d u → rep ms H d u
  | .v x, u, _, h => by
    simp only [rep] at h ⊢
    exact h
  | .lst ds, u, n, h => by
    simp only [noM] at n
    cases n
  | .dct _ ds, u, n, h => by
    simp only [noM] at n
    cases n
  | .dcT _ ds, u, n, h => by
    simp only [noM] at n
    cases n
  | .tup ds, u, n, h => by
    simp only [noM] at n
    simp only [rep] at h ⊢
    obtain ⟨p, us, e, np, hp, hl⟩ := h
    refine ⟨p, us, e, fun z => ?_, hp, repL_liftO dr hL ds us n hl⟩
    rcases dr.ex p z with z | z
    · exact np z
    · rw [← z, hp] at hL
      exact hL
  | .ins C ns ds, u, n, h => by
    simp only [noM] at n
    simp only [rep] at h ⊢
    obtain ⟨p, dx, us, e, np, hp, hn, hl⟩ := h
    refine ⟨p, dx, us, e, fun z => ?_, hp, hn, repL_liftO dr hL ds us n hl⟩
    rcases dr.ex p z with z | z
    · exact np z
    · rw [← z, hp] at hL
      exact hL
theorem repL_liftO (dr : Drop ms L ms') (hL : Rx.isMo (H L)) : ∀ (ds : List D) (us : List V), noMs ds = true → repL ms' H ds us → repL ms H ds us
  | [], us, _, h => by
    simp only [repL] at h ⊢
    exact h
  | d :: ds, us, n, h => by
    simp only [noMs, Bool.and_eq_true] at n
    simp only [repL] at h ⊢
    obtain ⟨u, ws, e, h1, h2⟩ := h
    exact ⟨u, ws, e, rep_liftO dr hL d u n.1 h1, repL_liftO dr hL ds ws n.2 h2⟩
end
theorem mo_ixN {α : Type} {e : α → D} {xs : List α} {i : Int} {y : α} {Q : VK} (m : MutO ms ps H0 H L (.lst (xs.map e))) (hi : atI xs i = some y) (k : ∀ v, rep ms H (e y) v → Q v H) : rIxL K (.ref L) (.int i) H Q := by
  obtain ⟨vs, hp, hr⟩ := m.val
  have hl := repL_len hr
  rw [List.length_map] at hl
  unfold atI at hi
  cases hx : ixN xs.length i with
  | none =>
    rw [hx] at hi
    cases hi
  | some j =>
    rw [hx] at hi
    have hi' : xs[j]? = some y := hi
    obtain ⟨v, hv, rv⟩ := repL_get (d := e y) hr (by rw [List.getElem?_map, hi']; rfl)
    refine ⟨L, vs, i, v, rfl, rfl, .inl (.inl hp), ?_, k v rv⟩
    unfold atI
    rw [← hl, hx]
    exact hv
theorem mo_len {α : Type} {e : α → D} {xs : List α} {P : Nat → Prop} (m : MutO ms ps H0 H L (.lst (xs.map e))) (k : P xs.length) : ∃ y n, [V.ref L] = [y] ∧ LenV K y H n ∧ P n := by
  obtain ⟨vs, hp, hr⟩ := m.val
  have hl := repL_len hr
  rw [List.length_map] at hl
  exact ⟨_, xs.length, rfl, .inl ⟨vs, .inl (.inl hp), hl⟩, k⟩
end
end Rx
namespace Rx
open PySem PySem.Spec PyProof.Rows L2
section
variable {K : PySem.W.Frag} {ms ms' ps : List Addr} {H0 H H' H1 : Hp} {L L' : Addr} {d d' : D} {ds : List D} {u x : V} {vs : List V}
theorem mo_extU {α : Type} {e : α → D} {ys : List α} {P : Addr → List V → List V → Prop} (m : MutO ms ps H0 H L (.lst ds)) (h : rep ms H (.lst (ys.map e)) x) (hl : ds.length + ys.length ≤ 16777216) (k : ∀ vs us, repL ms H ds vs → repL ms H (ys.map e) us → P L vs us) :
    ∃ (l b : Addr) (xs zs : List V), V.ref L = .ref l ∧ [x] = [.ref b] ∧ H l = some (.lst xs) ∧ H b = some (.lst zs) ∧ xs.length + zs.length ≤ sizeLine ∧ P l xs zs := by
  obtain ⟨vs, h1, h2⟩ := m.val
  simp only [rep] at h
  obtain ⟨p, us, rfl, _, hp, hr⟩ := h
  have a := repL_len h2
  have b := repL_len hr
  rw [List.length_map] at b
  refine ⟨L, p, vs, us, rfl, rfl, h1, hp, ?_, k vs us h2 hr⟩
  rw [sizeLine_eq]
  omega
theorem repL_erase {α : Type} {e : α → D} : ∀ {xs : List α} {vs : List V} (k : Nat), repL ms H (xs.map e) vs → repL ms H ((xs.eraseIdx k).map e) (vs.eraseIdx k)
  | [], vs, k, h => by
    have ev : vs = [] := by
      simp only [List.map_nil, repL] at h
      exact h
    subst ev
    simpa using h
  | x :: xs, vs, 0, h => by
    simp only [List.map_cons, repL] at h
    obtain ⟨u, us, rfl, _, h2⟩ := h
    exact h2
  | x :: xs, vs, k + 1, h => by
    simp only [List.map_cons, repL] at h
    obtain ⟨u, us, rfl, h1, h2⟩ := h
    exact repL_cons h1 (repL_erase k h2)
theorem mo_popU {α : Type} {e : α → D} {xs : List α} {i : Int} {y : α} {P : Addr → List V → Nat → V → Prop} (m : MutO ms ps H0 H L (.lst (xs.map e))) (h0 : 0 ≤ i) (hi : xs[i.toNat]? = some y) (hb : i < 2 ^ 63) (k : ∀ vs v, repL ms H (xs.map e) vs → rep ms H (e y) v → P L vs i.toNat v) :
    ∃ (l : Addr) (xs : List V) (i' : Int) (k : Nat) (y : V), V.ref L = .ref l ∧ [V.int i] = [.int i'] ∧ H l = some (.lst xs) ∧ -(2 ^ 63) ≤ i' ∧ i' < 2 ^ 63 ∧ seqIndex? i' xs.length = some k ∧ xs[k]? = some y ∧ P l xs k y := by
  obtain ⟨vs, h1, h2⟩ := m.val
  have hl := repL_len h2
  rw [List.length_map] at hl
  obtain ⟨v, hv, rv⟩ := repL_get (d := e y) h2 (by rw [List.getElem?_map, hi]; rfl)
  have lt := (List.getElem?_eq_some_iff.mp hi).1
  refine ⟨L, vs, i, i.toNat, v, rfl, rfl, h1, by omega, hb, ?_, hv, k vs v h2 rv⟩
  unfold seqIndex?
  first
    | (simp only []; split <;> first | rfl | (exfalso; omega))
    | (rw [if_neg (by omega), if_pos (by omega)])
    | (simp; omega)
end
/-! a comprehension that changes things: its state is carried -/
def mapS {α β S : Type} (body : α → S → (β → S → Prop) → Prop) : List α → List β → S → (List β → S → Prop) → Prop
  | [], acc, s, k => k acc s
  | x :: xs, acc, s, k => body x s fun y s' => mapS body xs (acc ++ [y]) s' k
section
variable {α β S : Type} {K : PySem.W.Frag} {H1 H2 : Hp} {g : TG} {tt : TT} {te : TE} {vl : List Nat} {σ : L2.St} {Qd : Hp → Prop} {L : Addr}
theorem lc_rangeS {lo hi : Int} {N : Nat} {body : Int → S → (β → S → Prop) → Prop} {KM : List β → S → Prop} (SI : Nat → List β → S → Hp → Prop) (s0 : S) (hN : N = (hi - lo).toNat) (hM : (rangeI lo hi).length < 100000 ∧ mapS body (rangeI lo hi) [] s0 KM) (h0 : SI 0 [] s0 (upd H1 L (.lst [])))
    (hs : ∀ (x : Int) (n : Nat) (ys : List β) (s : S) (k : β → S → Prop) (H : Hp), n < 100000 → SI n ys s H → body x s k → ∀ Nx : Hp → Prop, (∀ y s' H', k y s' → SI (n + 1) (ys ++ [y]) s' H' → Nx H') → Turn g tt te vl σ L (.int x) H Nx)
    (hd : ∀ n ys s H, KM ys s → SI n ys s H → Qd H) :
    ∃ W : Nat → Nat → Hp → Prop, (∃ m, W 0 m (upd H1 L (.lst []))) ∧ ∀ i m H, W i m H →
      ((Itr lo N).stop i H ∧ Qd H) ∨ ((Itr lo N).go i H ∧ ∃ Nx : Hp → Prop, (∀ H', Nx H' → ∃ m', m' < m ∧ W (i + 1) m' H') ∧ ∀ x H', (Itr lo N).yld i H x H' → g x (wipe σ vl) H' fun σ2 H2 => wipe σ2 vl = wipe σ vl ∧ tt σ2 H2 fun b H3 =>
        if b = true then te σ2 H3 fun y H4 => ∃ acc, H4 L = some (.lst acc) ∧ acc.length < sizeLine ∧ Nx (upd H4 L (.lst (acc ++ [y]))) else Nx H3) := by
  obtain ⟨hn, hM⟩ := hM
  subst hN
  rw [rangeI_len] at hn
  refine ⟨fun i m H => m = (hi - lo).toNat - i ∧ i ≤ (hi - lo).toNat ∧ ∃ ys s, SI i ys s H ∧ mapS body ((rangeI lo hi).drop i) ys s KM, ⟨_, rfl, Nat.zero_le _, [], s0, h0, hM⟩, ?_⟩
  rintro i m H ⟨rfl, hi', ys, s, T, q⟩
  by_cases hlt : i < (hi - lo).toNat
  · refine .inr ⟨hlt, fun H' => i + 1 ≤ (hi - lo).toNat ∧ ∃ ys s, SI (i + 1) ys s H' ∧ mapS body ((rangeI lo hi).drop (i + 1)) ys s KM, fun H' p' => ⟨_, by omega, rfl, p'⟩, fun x H' y => ?_⟩
    obtain ⟨e, y⟩ := y
    subst e y
    rw [drop_cons' (rangeI_get hlt)] at q
    exact hs _ i ys s _ H' (by omega) T q _ fun y s' H' k T' => ⟨hlt, _, _, T', k⟩
  · have e : i = (hi - lo).toNat := by omega
    refine .inl ⟨by rw [e]; exact Nat.le_refl _, ?_⟩
    rw [List.drop_of_length_le (by rw [rangeI_len]; omega)] at q
    exact hd _ ys s H q T
end
end Rx
namespace Rx
open PySem PySem.Spec PyProof.Rows L2
section
variable {ms : List Addr} {H : Hp} {x y : V}
theorem rep_catU {α : Type} {xs ys : List α} {e : α → D} {P : List V → List V → Prop} (h1 : rep ms H (.lst (xs.map e)) x) (h2 : rep ms H (.lst (ys.map e)) y) (hz : xs.length + ys.length ≤ sizeLine)
    (k : ∀ vs us, repL ms H (xs.map e) vs → repL ms H (ys.map e) us → P vs us) : ∃ p q vs us, x = .ref p ∧ y = .ref q ∧ H p = some (.lst vs) ∧ H q = some (.lst us) ∧ vs.length + us.length ≤ sizeLine ∧ P vs us := by
  simp only [rep] at h1 h2
  obtain ⟨p, vs, rfl, np, hp, r1⟩ := h1
  obtain ⟨q, us, rfl, nq, hq, r2⟩ := h2
  have l1 := repL_len r1
  have l2 := repL_len r2
  rw [List.length_map] at l1 l2
  exact ⟨p, q, vs, us, rfl, rfl, hp, hq, by rw [← l1, ← l2]; exact hz, k vs us r1 r2⟩
end
end Rx
namespace Rx
open PySem PySem.Spec PyProof.Rows L2
section
variable {K : PySem.W.Frag} {ms : List Addr} {H : Hp} {x y : V} {ds : List D} {vs : List V}
/-- what a list holds -/
theorem rep_lsU {P : List V → Prop} (h : rep ms H (.lst ds) x) (k : ∀ vs, repL ms H ds vs → P vs) : ∃ a xs, x = .ref a ∧ SqL K H a xs ∧ P xs := by
  simp only [rep] at h
  obtain ⟨p, vs, rfl, np, hp, hr⟩ := h
  exact ⟨p, vs, rfl, .inl (.inl hp), k vs hr⟩
theorem rep_tpU {P : List V → Prop} (h : rep ms H (.tup ds) x) (k : ∀ vs, repL ms H ds vs → P vs) : ∃ a xs, x = .ref a ∧ SqT K H a xs ∧ P xs := by
  simp only [rep] at h
  obtain ⟨p, vs, rfl, np, hp, hr⟩ := h
  exact ⟨p, vs, rfl, .inl (.inl hp), k vs hr⟩
theorem rep_iterT {ds : List D} {P : Addr → Prop} (h : rep ms H (.tup ds) x) (k : ∀ a xs, x = .ref a → a ∉ ms → H a = some (.tup xs) → repL ms H ds xs → P a) : ∃ a, x = .ref a ∧ (∃ xs, SqT K H a xs) ∧ P a := by
  simp only [rep] at h
  obtain ⟨p, vs, e, n, hp, hr⟩ := h
  exact ⟨p, e, ⟨vs, .inl (.inl hp)⟩, k p vs e n hp hr⟩
theorem repL_rev : ∀ {ds : List D} {vs : List V}, repL ms H ds vs → repL ms H ds.reverse vs.reverse
  | [], vs, h => by
    have e := repL_empty h
    subst e
    exact repL_nil
  | d :: ds, vs, h => by
    obtain ⟨u, us, rfl, h1, h2⟩ := repL_uncons h
    rw [List.reverse_cons, List.reverse_cons]
    exact repL_app (repL_rev h2) (repL_one h1)
theorem repL_revM {α : Type} {e : α → D} {xs : List α} (h : repL ms H (xs.map e) vs) : repL ms H (xs.reverse.map e) vs.reverse := by
  rw [List.map_reverse]
  exact repL_rev h
theorem repL_take : ∀ (n : Nat) {ds : List D} {vs : List V}, repL ms H ds vs → repL ms H (ds.take n) (vs.take n)
  | 0, _, _, _ => by
    rw [List.take_zero, List.take_zero]
    exact repL_nil
  | n + 1, [], vs, h => by
    have e := repL_empty h
    subst e
    exact repL_nil
  | n + 1, d :: ds, vs, h => by
    obtain ⟨u, us, rfl, h1, h2⟩ := repL_uncons h
    exact repL_cons h1 (repL_take n h2)
theorem repL_drop : ∀ (n : Nat) {ds : List D} {vs : List V}, repL ms H ds vs → repL ms H (ds.drop n) (vs.drop n)
  | 0, _, _, h => h
  | n + 1, [], vs, h => by
    have e := repL_empty h
    subst e
    exact repL_nil
  | n + 1, d :: ds, vs, h => by
    obtain ⟨u, us, rfl, h1, h2⟩ := repL_uncons h
    exact repL_drop n h2
/-- a slice -/
def cutM {α : Type} (xs : List α) (lo hi : Option Int) : List α := (xs.drop (HT.sIx xs.length 0 lo)).take (HT.sIx xs.length xs.length hi - HT.sIx xs.length 0 lo)
theorem repL_cut {α : Type} {e : α → D} {xs : List α} {lo hi : Option Int} (h : repL ms H (xs.map e) vs) : repL ms H ((cutM xs lo hi).map e) (cutV vs lo hi) := by
  have hl := repL_len h
  rw [List.length_map] at hl
  unfold cutM cutV
  rw [List.map_take, List.map_drop, hl]
  exact repL_take _ (repL_drop _ h)
end
/-! walks over tuples -/
section
variable {α β S : Type} {K : PySem.W.Frag} {H1 : Hp} {g : TG} {tt : TT} {te : TE} {vl : List Nat} {σ : L2.St} {Qd : Hp → Prop} {L : Addr}
theorem lc_tupG {items : List α} {e : α → D} {ms : List Addr} {a : Addr} {xs : List V} {body : α → (β → Prop) → Prop} {KM : List β → Prop} (SI : Nat → List β → Hp → Prop) (an : a ∉ ms) (ha : H1 a = some (.tup xs)) (hx : repL ms H1 (items.map e) xs) (nl : H1 L = none)
    (kp : ∀ n ys H, SI n ys H → Keep (L :: ms) H1 H) (hM : items.length < 100000 ∧ mapC body items [] KM) (h0 : SI 0 [] (upd H1 L (.lst [])))
    (hs : ∀ (x : α) (u : V) (n : Nat) (ys : List β) (k : β → Prop) (H : Hp), n < 100000 → SI n ys H → rep (L :: ms) H (e x) u → body x k → ∀ Nx : Hp → Prop, (∀ y H', k y → SI (n + 1) (ys ++ [y]) H' → Nx H') → Turn g tt te vl σ L u H Nx)
    (hd : ∀ n ys H, KM ys → SI n ys H → Qd H) :
    ∃ W : Nat → Nat → Hp → Prop, (∃ m, W 0 m (upd H1 L (.lst []))) ∧ ∀ i m H, W i m H →
      ((Itt K a).stop i H ∧ Qd H) ∨ ((Itt K a).go i H ∧ ∃ Nx : Hp → Prop, (∀ H', Nx H' → ∃ m', m' < m ∧ W (i + 1) m' H') ∧ ∀ x H', (Itt K a).yld i H x H' → g x (wipe σ vl) H' fun σ2 H2 => wipe σ2 vl = wipe σ vl ∧ tt σ2 H2 fun b H3 =>
        if b = true then te σ2 H3 fun y H4 => ∃ acc, H4 L = some (.lst acc) ∧ acc.length < sizeLine ∧ Nx (upd H4 L (.lst (acc ++ [y]))) else Nx H3) := by
  obtain ⟨hn, hM⟩ := hM
  have hl : items.length = xs.length := by
    have := repL_len hx
    rwa [List.length_map] at this
  have aM : a ∉ L :: ms := fun z => by
    rcases List.mem_cons.mp z with z | z
    · exact ne_of_none ha nl z
    · exact an z
  have hx1 : repL (L :: ms) H1 (items.map e) xs := repL_new nl hx
  refine ⟨fun i m H => m = xs.length - i ∧ i ≤ xs.length ∧ ∃ ys, SI i ys H ∧ mapC body (items.drop i) ys KM, ⟨_, rfl, Nat.zero_le _, [], h0, hM⟩, ?_⟩
  rintro i m H ⟨rfl, hi', ys, T, q⟩
  have hA : H a = some (.tup xs) := kp i ys H T a _ aM ha
  by_cases hlt : i < xs.length
  · refine .inr ⟨⟨xs, xs[i], .inl (.inl hA), by simp [hlt]⟩, fun H' => i + 1 ≤ xs.length ∧ ∃ ys, SI (i + 1) ys H' ∧ mapC body (items.drop (i + 1)) ys KM, fun H' p' => ⟨_, by omega, rfl, p'⟩, fun x H' y => ?_⟩
    obtain ⟨e1, y⟩ := y
    subst e1
    have hxi := y xs (.inl (.inl hA))
    have hit : items[i]? = some (items[i]'(by omega)) := List.getElem?_eq_getElem (by omega)
    rw [drop_cons' hit] at q
    obtain ⟨v, hv, rv⟩ := repL_get (repL_keep (kp i ys H' T) hx1) (j := i) (d := e (items[i]'(by omega))) (by rw [List.getElem?_map, hit]; rfl)
    rw [hxi] at hv
    have ev : x = v := Option.some.inj hv
    subst ev
    exact hs _ x i ys _ H' (by omega) T rv q _ fun y H'' k T' => ⟨hlt, _, T', k⟩
  · refine .inl ⟨⟨xs, .inl (.inl hA), by omega⟩, ?_⟩
    rw [List.drop_of_length_le (by omega)] at q
    exact hd _ ys H q T
end
end Rx
namespace Rx
open PySem PySem.Spec PyProof.Rows L2
/-! the same rules, their readings without the context -/
section
variable {X : Cx} {K : PySem.W.Frag}
theorem call_lenK (hK : X.K = K) : CallR X (.builtin "len") (fun xs H Q => ∃ x n, xs = [x] ∧ LenV K x H n ∧ Q (.int n) H) := by
  subst hK
  exact call_len
theorem call_isiK (hK : X.K = K) : CallR X (.builtin "isinstance") (rIsi K) := by
  subst hK
  exact call_isi
theorem sl_listK (hK : X.K = K) : SlR X (rSlL K) := by
  subst hK
  exact sl_list
theorem call_list_ofK (hK : X.K = K) : CallR X (.type "list") (fun xs H Q => ∃ p ys, xs = [.ref p] ∧ (SqL K H p ys ∨ SqT K H p ys) ∧ ∀ l, H l = none → Q (.ref l) (upd H l (.lst ys))) := by
  subst hK
  exact call_list_of
theorem cr_maxK (hK : X.K = K) (hc : X.calm = true) : CallR X (.builtin "max") (rMax K) := by
  subst hK
  exact cr_max hc
theorem cr_minK (hK : X.K = K) (hc : X.calm = true) : CallR X (.builtin "min") (rMin K) := by
  subst hK
  exact cr_min hc
theorem cr_anyK (hK : X.K = K) (hc : X.calm = true) : CallR X (.builtin "any") (rAny K) := by
  subst hK
  exact cr_any hc
theorem cr_allK (hK : X.K = K) (hc : X.calm = true) : CallR X (.builtin "all") (rAll K) := by
  subst hK
  exact cr_all hc
theorem op_eqDK (hK : X.K = K) (hu : X.A.units + 64 < cLine) : OpR X (compareOp .Eq) (rEqD K) := by
  subst hK
  exact op_eqD hu
theorem op_neDK (hK : X.K = K) (hu : X.A.units + 64 < cLine) : OpR X (compareOp .NotEq) (rNeD K) := by
  subst hK
  exact op_neD hu
theorem call_reprAK {k : Nat} (hK : X.K = K) (gu : X.A.guards = some []) (hr : Room k X.A) : CallR X (.builtin "repr") (rReprA K) := by
  subst hK
  exact call_reprA gu hr
theorem mt_lcountSK (hK : X.K = K) : MtR X "list.count" (rCntS K) := by
  subst hK
  exact mt_lcountS
end
end Rx
namespace Rx
open PySem PySem.Spec PyProof.Rows L2
section
variable {X : Cx} {K : PySem.W.Frag} {T name id : String} {o e : Expr} {es : List Expr} {r : V → List V → Hp → VK → Prop} {to : TE} {t : TA} {apos cpos : Pos}
theorem pe_bmK (hK : X.K = K) (pa : PlainAttrs T) (slot : Slot T name id) (hty : typeOf (.builtin id) = pure (.type "method_descriptor")) (hm : MtR X id r) (ho : PE X o to) (ha : PA X (e :: es) t)
    (hbase : attributeBase o name X.env (eval o X.env) = eval o X.env := by rfl)
    (hfew : ((backTo cpos (starEach (e :: es) X.env)).all (fun x => !x.1) && (backToKw cpos (keywordEach [] X.env)).all (fun x => x.1.isSome)
      && decide ((e :: es).length + ([] : List Keyword).length + (if ([] : List Keyword).isEmpty then 0 else 1) < 30)) = true := by rfl)
    (hline : (apos.endLine == cpos.line) = true := by rfl) (hs : starEach (e :: es) X.env = (false, eval e X.env) :: starEach es X.env := by rfl) (hplain : (backTo cpos (starEach es X.env)).any (·.1) = false := by rfl) :
    PE X (.Call (.Attribute o name apos) (e :: es) [] cpos) (tBM K T r to t) := by
  subst hK
  exact pe_bm pa slot hty hm ho ha hbase hfew hline hs hplain
end
end Rx
namespace Rx
open PySem PySem.Spec PyProof.Rows L2
section
variable {M : Model} {s : Shared} {K : PySem.W.Frag} {C : Addr}
theorem looksT {v : Value} {T : String} (h : s.TypeIs v T) : PySem.W.Looks M s.heap (typeOf v) (.type T) := fun A Q E s' k q => wpAny_typeOf (by
  cases v with
  | ref a =>
    obtain ⟨o, e, c⟩ := h
    exact ⟨o, k _ _ e, c⟩
  | _ => exact h) q
theorem sub_non : PySem.W.subIn K (.type "NoneType") (.ref C) = some false := by
  show ((fastBuiltinMro "NoneType").map _) = _
  rw [show fastBuiltinMro "NoneType" = some [.type "NoneType", .type "object"] by decide +kernel]
  simp
theorem sub_bool : PySem.W.subIn K (.type "bool") (.ref C) = some false := by
  show ((fastBuiltinMro "bool").map _) = _
  rw [show fastBuiltinMro "bool" = some [.type "bool", .type "int", .type "object"] by decide +kernel]
  simp
theorem sub_int : PySem.W.subIn K (.type "int") (.ref C) = some false := by
  show ((fastBuiltinMro "int").map _) = _
  rw [show fastBuiltinMro "int" = some [.type "int", .type "object"] by decide +kernel]
  simp
theorem sub_str : PySem.W.subIn K (.type "str") (.ref C) = some false := by
  show ((fastBuiltinMro "str").map _) = _
  rw [show fastBuiltinMro "str" = some [.type "str", .type "object"] by decide +kernel]
  simp
theorem sub_list : PySem.W.subIn K (.type "list") (.ref C) = some false := by
  show ((fastBuiltinMro "list").map _) = _
  rw [show fastBuiltinMro "list" = some [.type "list", .type "object"] by decide +kernel]
  simp
theorem sub_tuple : PySem.W.subIn K (.type "tuple") (.ref C) = some false := by
  show ((fastBuiltinMro "tuple").map _) = _
  rw [show fastBuiltinMro "tuple" = some [.type "tuple", .type "object"] by decide +kernel]
  simp
theorem sub_dict : PySem.W.subIn K (.type "dict") (.ref C) = some false := by
  show ((fastBuiltinMro "dict").map _) = _
  rw [show fastBuiltinMro "dict" = some [.type "dict", .type "object"] by decide +kernel]
  simp
theorem sub_ty {H : Hp} {x : V} {T : String} (t : TyB K H x T) (nb : ∀ b, x ≠ .byt b) : PySem.W.subIn K (.type T) (.ref C) = some false := by
  cases t with
  | non => exact sub_non
  | bl b => exact sub_bool
  | int i => exact sub_int
  | str z => exact sub_str
  | byt b => exact absurd rfl (nb b)
  | lst h => exact sub_list
  | tup h => exact sub_tuple
  | dK h => exact sub_dict
end
section
variable {M : Model} {prog : Program} {w : World} {A : Around} {E : Value → Shared → Prop} {s : Shared} {K : PySem.W.Frag} {x C : Addr} {uy : Value} {ox : Obj} {od : Option Obj}
theorem entry_objNeA {Q : Fin → Shared → Prop} (hu : A.units < cLine) (hcall : wpAny M A (callSpecialIfBound? (.ref x) (Str.ofString "__eq__") [uy]) (fun r s' => ∃ b, r = some (.bool b) ∧ Q (.done (.ret (.bool (!b)))) s') E s) :
    wpAny M A (Builtin.«object.__ne__» ⟨[.ref x, uy], []⟩) Q E s := by
  unfold Builtin.«object.__ne__»
  repeat (first
    | with_reducible refine wpAny_cRoomFor hu ?_
    | (refine wpAny_bind (m := callSpecialIfBound? (.ref x) (Str.ofString "__eq__") [uy])
        (wpAny_mono hcall (fun r s' hr => by
          obtain ⟨b, rfl, hq⟩ := hr
          repeat (first | exact hq | exact wpAny_pure hq | exact wpAny_truthy_bool hq | (refine wpAny_bind (m := truthy (.bool _)) (wpAny_truthy_bool ?_)) | wp_step)) fun _ _ e => e))
    | wp_step)
theorem call_objNeA {Q : Value → Shared → Prop} (X : K.In s.heap) (I : PySem.W.InstAt s.heap x ox C od) (hm : PySem.W.mroIn K C (.type "object") = some true) (hu : A.in1.units < cLine)
    (hcall : wpAny (model prog w) A.in1 (callSpecialIfBound? (.ref x) (Str.ofString "__eq__") [uy]) (fun r s' => ∃ b, r = some (.bool b) ∧ Q (.bool (!b)) s') E s) :
    wpAny (model prog w) A (call (.builtin "object.__ne__") [.ref x, uy]) Q E s := by
  refine wpAny_call (codeAny_call_builtin F.cmp_object.ne.plain F.cmpEntry_ne (PySem.W.check_slot F.cmpKind_ne F.cmpSplit_ne (I.type.andThen (PySem.W.looks_mroIn X hm)) (F.cmpArgs_ne _ _) (entry_objNeA hu (wpAny_mono hcall (fun r s' hr => ?_) fun _ _ e => e))))
  obtain ⟨b, rfl, hq⟩ := hr
  first | exact ⟨b, rfl, hq⟩ | exact ⟨b, rfl, wpAny_pure hq⟩
end
/-- not an instance -/
def noI : D → Bool
  | .v .non => true
  | .v (.bl _) => true
  | .v (.int _) => true
  | .v (.str _) => true
  | .v _ => false
  | .ins _ _ _ => false
  | .dcT _ _ => false
  | _ => true
theorem rep_TyB {K : PySem.W.Frag} {ms : List Addr} {H : Hp} {d : D} {u : V} (h : rep ms H d u) (n : noI d = true) : ∃ T, TyB K H u T ∧ (∀ b, u ≠ .byt b) ∧ TyX K H u (.type T) := by
  cases d with
  | v x =>
    obtain rfl := of_v h
    cases u <;> simp only [noI] at n
    · exact ⟨_, .non, (fun _ z => nomatch z), .base .non⟩
    · exact ⟨_, .bl _, (fun _ z => nomatch z), .base (.bl _)⟩
    · exact ⟨_, .int _, (fun _ z => nomatch z), .base (.int _)⟩
    · exact ⟨_, .str _, (fun _ z => nomatch z), .base (.str _)⟩
    all_goals cases n
  | lst ds =>
    simp only [rep] at h
    obtain ⟨p, vs, rfl, _, hp, _⟩ := h
    exact ⟨_, .lst (.inl (.inl hp)), (fun _ z => nomatch z), .base (.lst hp)⟩
  | tup ds =>
    simp only [rep] at h
    obtain ⟨p, vs, rfl, _, hp, _⟩ := h
    exact ⟨_, .tup (.inl (.inl hp)), (fun _ z => nomatch z), .base (.tup hp)⟩
  | dct ks ds =>
    simp only [rep] at h
    obtain ⟨p, vs, rfl, _, hp, _⟩ := h
    exact ⟨_, .dK hp, (fun _ z => nomatch z), .base (.dK hp)⟩
  | dcT _ _ => cases n
  | ins _ _ _ => cases n
/-- own == with any value that is no instance -/
def rOwnEqA (K : PySem.W.Frag) (C : Addr) (sp : Sp) (E : XK) : R2 := fun x y H Q => ∃ a dx fs T, x = .ref a ∧ H a = some (.ins C dx fs) ∧ TyB K H y T ∧ (∀ b, y ≠ .byt b) ∧ sp [x, y] H (fun v H' => ∃ r : Bool, v = .bl r ∧ Q v H') E
def rOwnNeA (K : PySem.W.Frag) (C : Addr) (sp : Sp) (E : XK) : R2 := fun x y H Q => ∃ a dx fs T, x = .ref a ∧ H a = some (.ins C dx fs) ∧ TyB K H y T ∧ (∀ b, y ≠ .byt b) ∧ sp [x, y] H (fun v H' => ∃ r : Bool, v = .bl r ∧ Q (.bl (!r)) H') E
theorem op_eqOwnA {X : Cx} {K : PySem.W.Frag} (hK : X.K = K) {n : Nat} {CX : CXT} {C f : Addr} {fd : FuncData} {ps : List Str} {sp : Sp} {E : XK} (F : FnOk X.prog X.w X.K X.mg X.base CX n f fd ps sp) (hr : Room n X.A)
    (o : OwnEq X.K C f) (hb : Binds X.K fd ps []) (hx : Passes CX X E) : OpR X (compareOp .Eq) (rOwnEqA K C sp E) := by
  subst hK
  intro pins s σ H x y v u Q I rx ry d
  show wpAny (model X.prog X.w) X.A (richCompare .Eq v u) (EP X pins σ Q) X.xe s
  obtain ⟨a, dx, fs, T, rfl, ha, ty, nb, hsp⟩ := d
  cases rx
  obtain ⟨mA, J, _⟩ := ins_get I.hok ha
  obtain ⟨od, J, _⟩ := J.look
  obtain ⟨m, hF⟩ := I.fr
  refine PySem.W.cmp_K (op := .Eq) (tb := .type T) hr.units0 hF I.ok.mod.kin J (looksT (ty.is I ry)) (by simp [PySem.W.notFirst, sub_ty ty nb]) o.hs o.hf ?_
  have hl := F.len _ _ _ _ hsp
  have r2 : Vals [V.ref a, y] [Value.ref a, u] := .cons rfl (.cons ry .nil)
  refine wpAny_call (codeAny_mono (F.run X.A X.stack s H ⟨[.ref a, u], []⟩ [.ref a, u] [.ref a, y] _ E hr I.env0 (by
    have := hb s [.ref a, u] I.kIn (by simpa using hl)
    simpa using this) r2 hsp) fun r s' hq => ?_)
  cases r with
  | error e => exact hx pins σ H s e s' I hq
  | ok fl =>
    cases fl with
    | ret w =>
      obtain ⟨z, H', I', rz, ⟨r, ez, q⟩⟩ := I.after hq
      subst ez
      cases (show w = Value.bool r from rz)
      exact ⟨.bl r, H', I', rfl, q⟩
    | next => exact False.elim hq
    | brk => exact False.elim hq
    | cont => exact False.elim hq
theorem op_neOwnA {X : Cx} {K : PySem.W.Frag} (hK : X.K = K) {n : Nat} {CX : CXT} {C f : Addr} {fd : FuncData} {ps : List Str} {sp : Sp} {E : XK} (F : FnOk X.prog X.w X.K X.mg X.base CX n f fd ps sp) (hr : Room (n + 1) X.A)
    (o : OwnEq X.K C f) (o' : OwnNe X.K C) (hb : Binds X.K fd ps []) (hx : Passes CX X E) : OpR X (compareOp .NotEq) (rOwnNeA K C sp E) := by
  subst hK
  intro pins s σ H x y v u Q I rx ry d
  show wpAny (model X.prog X.w) X.A (richCompare .NotEq v u) (EP X pins σ Q) X.xe s
  obtain ⟨a, dx, fs, T, rfl, ha, ty, nb, hsp⟩ := d
  cases rx
  obtain ⟨mA, J, _⟩ := ins_get I.hok ha
  obtain ⟨od, J, _⟩ := J.look
  have J' := looksT (M := model X.prog X.w) (ty.is I ry)
  have hl := F.len _ _ _ _ hsp
  have r2 : Vals [V.ref a, y] [Value.ref a, u] := .cons rfl (.cons ry .nil)
  have one : wpAny (model X.prog X.w) X.A (tryCompare (.ref a) (cmpInfo .NotEq).2.1 u) (fun r s' => ∃ v, r = some v ∧ EP X pins σ Q v s') X.xe s := by
    unfold tryCompare
    refine wpAny_bind (ifBound_objNe I.kIn J o'.hne (call_objNeA I.kIn J o'.hm hr.in1.units0 (PySem.W.ifBound_K I.kIn J o.hs o.hf ?_)))
    refine wpAny_call (codeAny_mono (F.run X.A.in1 X.stack s H ⟨[.ref a, u], []⟩ [.ref a, u] [.ref a, y] _ E hr.in1 I.env0.in1 (by
      have := hb s [.ref a, u] I.kIn (by simpa using hl)
      simpa using this) r2 hsp) fun r s' hq => ?_)
    cases r with
    | error e => exact hx pins σ H s e s' I hq
    | ok fl =>
      cases fl with
      | ret w =>
        obtain ⟨z, H', I', rz, ⟨r, ez, q⟩⟩ := I.after hq
        subst ez
        cases (show w = Value.bool r from rz)
        exact ⟨r, rfl, wpAny_pure ⟨_, rfl, .bl (!r), H', I', rfl, q⟩⟩
      | next => exact False.elim hq
      | brk => exact False.elim hq
      | cont => exact False.elim hq
  unfold richCompare
  simp only [oneThing_ref]
  refine wpAny_holding (wpAny_bind (wpAny_cRoomFor hr.units0 ?_))
  refine wpAny_bind (J.type.here (wpAny_bind (J'.here ?_)))
  rw [show (Value.ref C != Value.type T) = true from by simp]
  refine wpAny_bind ((PySem.W.looks_subIn I.kIn (sub_ty ty nb)).here ?_)
  simp only [Bool.false_eq_true, if_false]
  refine wpAny_bind (wpAny_mono one (fun r s' z => ?_) fun _ _ e => e)
  obtain ⟨v, rfl, hq⟩ := z
  exact wpAny_pure hq
section
variable {K : PySem.W.Frag} {ms : List Addr} {H : Hp} {x y : V} {d : D}
theorem rep_eqOwnA {C : Addr} {ns : List Str} {ds : List D} {sp : Sp} {E : XK} {Q : VK} (h1 : rep ms H (.ins C ns ds) x) (h2 : rep ms H d y) (n : noI d = true) (k : sp [x, y] H (fun v H' => ∃ r : Bool, v = .bl r ∧ Q v H') E) : rOwnEqA K C sp E x y H Q := by
  obtain ⟨p, dx, fs, e, hp⟩ := rep_ins h1
  obtain ⟨T, ty, nb, _⟩ := rep_TyB (K := K) h2 n
  subst e
  exact ⟨p, dx, fs, T, rfl, hp, ty, nb, k⟩
theorem rep_neOwnA {C : Addr} {ns : List Str} {ds : List D} {sp : Sp} {E : XK} {Q : VK} (h1 : rep ms H (.ins C ns ds) x) (h2 : rep ms H d y) (n : noI d = true) (k : sp [x, y] H (fun v H' => ∃ r : Bool, v = .bl r ∧ Q (.bl (!r)) H') E) : rOwnNeA K C sp E x y H Q := by
  obtain ⟨p, dx, fs, e, hp⟩ := rep_ins h1
  obtain ⟨T, ty, nb, _⟩ := rep_TyB (K := K) h2 n
  subst e
  exact ⟨p, dx, fs, T, rfl, hp, ty, nb, k⟩
/-- a class of the text's own, for isinstance that says no -/
structure IsN (K : PySem.W.Frag) (C : Addr) : Prop where
  ic : PySem.W.isClsIn K C = true
  ty : PySem.W.typeIn K (.ref C) = some (.type "type")
theorem rep_isN2 {C : Addr} {P : Bool → Prop} (h : rep ms H d x) (n : noI d = true) (c : IsN K C) (k : P false) :
    ∃ (x' c : V) (t u : Value) (b : Bool), [x, .ref C] = [x', c] ∧ ClsV c u ∧ TyX K H x' t ∧ PySem.W.kitOne K t u = some b ∧ P b := by
  obtain ⟨T, ty, nb, tx⟩ := rep_TyB (K := K) h n
  refine ⟨x, _, .type T, .ref C, false, rfl, .own C, tx, ?_, k⟩
  · unfold PySem.W.kitOne
    rw [if_neg (by simp)]
    show (if ((PySem.W.clsIn K C).isSome && PySem.W.typeIn K (.ref C) == some (.type "type")) = true then PySem.W.subIn K (.type T) (.ref C) else none) = some false
    rw [sub_ty ty nb]
    have h1 := c.ic
    unfold PySem.W.isClsIn at h1
    rw [h1, c.ty]
    simp
end
end Rx
namespace Rx
open PySem PySem.Spec PyProof.Rows L2
theorem pe_never {X : Cx} {e : Expr} : PE X e (fun _ _ _ => False) := ⟨fun _ _ _ _ _ _ h => h.elim⟩
section
variable {ms ps : List Addr} {cs : List (Addr × List V)} {H0 H H' : Hp} {u : V}
theorem rep_dynL {α : Type} {e : α → D} {xs : List α} (h : rep ms H (.lst (xs.map e)) u) : rep ms H (.lst ((xs.map e).map fun y : D => y)) u := by
  rw [List.map_id']
  exact h
theorem rep_dct0 {p : Addr} (w : Wd ms ps cs H0 H) (np : H p = none) (hp : H' p = some (.dK [])) : rep ms H' (.dct [] []) (.ref p) := by
  simp only [rep]
  exact ⟨p, [], rfl, fun z => w.tr p z np, hp, rfl, repL_nil⟩
end
end Rx
namespace Rx
open PySem PySem.Spec PyProof.Rows L2
section
variable {κ : Type} [DecidableEq κ]
theorem any_zip {k : κ} : ∀ {ks : List κ} {vs : List V}, ks.length = vs.length → ((ks.zip vs).any fun kv => decide (kv.1 = k)) = decide (k ∈ ks)
  | [], [], _ => by simp
  | k0 :: ks, v :: vs, h => by
    have ih := any_zip (k := k) (ks := ks) (vs := vs) (by simpa using h)
    rw [List.zip_cons_cons, List.any_cons, ih]
    by_cases e : k0 = k
    · subst e
      simp
    · have e' : k ≠ k0 := fun z => e z.symm
      simp [e, e']
  | [], _ :: _, h => by simp at h
  | _ :: _, [], h => by simp at h
theorem putK_new {k : κ} {v : V} {ks : List κ} {vs : List V} (h : ks.length = vs.length) (n : k ∉ ks) : putK (ks.zip vs) k v = (ks ++ [k]).zip (vs ++ [v]) := by
  unfold putK
  rw [any_zip h, if_neg (by simpa using n), List.zip_append h]
  rfl
theorem putK_old {k : κ} {v : V} : ∀ {ks : List κ} {vs : List V} {j : Nat}, ks.length = vs.length → ks.Nodup → ks[j]? = some k → putK (ks.zip vs) k v = ks.zip (vs.set j v) := by
  intro ks vs j h nd hj
  have hk : k ∈ ks := List.mem_of_getElem? hj
  unfold putK
  rw [any_zip h, if_pos (by simpa using hk)]
  induction ks generalizing vs j with
  | nil => simp at hj
  | cons k0 ks ih =>
    cases vs with
    | nil => simp at h
    | cons v0 vs =>
      have nd' := List.nodup_cons.mp nd
      cases j with
      | zero =>
        have e : k0 = k := Option.some.inj hj
        subst e
        rw [List.zip_cons_cons, List.map_cons, if_pos rfl, List.set_cons_zero, List.zip_cons_cons]
        congr 1
        conv => rhs; rw [← List.map_id (ks.zip vs)]
        refine List.map_congr_left fun q hq => ?_
        rw [if_neg]
        · rfl
        · intro z
          exact nd'.1 (by rw [← z]; exact (List.of_mem_zip (show (q.1, q.2) ∈ ks.zip vs from hq)).1)
      | succ j =>
        have hj' : ks[j]? = some k := by simpa using hj
        have ne : ¬ k0 = k := fun z => nd'.1 (by rw [z]; exact List.mem_of_getElem? hj')
        rw [List.zip_cons_cons, List.map_cons, if_neg ne, List.set_cons_succ, List.zip_cons_cons]
        congr 1
        exact ih (by simpa using h) nd'.2 hj' (List.mem_of_getElem? hj')
theorem valV_zip {k : κ} : ∀ {ks : List κ} {vs : List V} {j : Nat}, ks.Nodup → ks[j]? = some k → ks.length = vs.length → valV (ks.zip vs) k = vs[j]?
  | [], _, _, _, hj, _ => by simp at hj
  | k0 :: ks, [], _, _, _, h => by simp at h
  | k0 :: ks, v :: vs, 0, _, hj, _ => by
    have e : k0 = k := Option.some.inj hj
    subst e
    simp [valV]
  | k0 :: ks, v :: vs, j + 1, nd, hj, h => by
    have nd' := List.nodup_cons.mp nd
    have hj' : ks[j]? = some k := by simpa using hj
    have ne : ¬ k0 = k := fun z => nd'.1 (by rw [z]; exact List.mem_of_getElem? hj')
    rw [List.zip_cons_cons, valV_neg (p := (k0, v)) ne, valV_zip nd'.2 hj' (by simpa using h)]
    rfl
end
theorem mergeK_nodup : ∀ {more : List (Key × V)} {acc : List (Key × V)}, ((acc ++ more).map (·.1)).Nodup → mergeK acc more = acc ++ more
  | [], acc, _ => by simp [mergeK]
  | q :: more, acc, h => by
    have n : q.1 ∉ acc.map (·.1) := by
      rw [List.map_append, List.nodup_append] at h
      exact fun z => h.2.2 q.1 z q.1 (by simp) rfl
    have e : putK acc q.1 q.2 = acc ++ [q] := by
      unfold putK
      rw [if_neg]
      intro z
      obtain ⟨w, hw, ew⟩ := List.any_eq_true.mp z
      exact n (List.mem_map.mpr ⟨w, hw, of_decide_eq_true ew⟩)
    show mergeK (putK acc q.1 q.2) more = _
    rw [e, mergeK_nodup (by rw [List.append_assoc]; exact h), List.append_assoc]
    rfl
section
variable {K : PySem.W.Frag} {ms ps : List Addr} {H0 H H' H1 : Hp} {L : Addr} {d : D} {ds : List D} {u x y : V} {vs : List V} {ks : List Key} {k : Key}
theorem map_fst_zip' : ∀ {ks : List Key} {vs : List V}, ks.length = vs.length → (ks.zip vs).map (·.1) = ks
  | [], [], _ => rfl
  | k :: ks, v :: vs, h => by
    rw [List.zip_cons_cons, List.map_cons, map_fst_zip' (by simpa using h)]
  | [], _ :: _, h => by simp at h
  | _ :: _, [], h => by simp at h
theorem merge_zip (h : ks.length = vs.length) (nd : ks.Nodup) : mergeK [] (ks.zip vs) = ks.zip vs := by
  rw [mergeK_nodup (by rw [List.nil_append, map_fst_zip' h]; exact nd), List.nil_append]
/-- what a dict of one's own holds, as it is made -/
theorem mo_nilD (w : Wd ms ps [] H0 H) (nl : H L = none) : MutO (L :: ms) ps H0 (upd H L (.dK [])) L (.dct [] []) :=
  mo_newD (ks := []) (vs := []) (ds := []) w nl rfl repL_nil
theorem mo_dK0 (m : MutO ms ps H0 H L (.dct [] [])) : H L = some (.dK []) := by
  obtain ⟨vs, h1, h2, _⟩ := m.val
  rw [h1]
  simp
theorem mo_setD (m : MutO ms ps H0 H L d) (hl : ks.length = vs.length) (r : repL ms H ds vs) : MutO ms ps H0 (upd H L (.dK (ks.zip vs))) L (.dct ks ds) :=
  ⟨m.im, m.hp, m.h0, vs, upd_same, hl, repL_put m.im r⟩
/-- d[k] = v, a new key -/
theorem mo_putU {v : V} {Q : Hp → Prop} (m : MutO ms ps H0 H L (.dct ks ds)) (n : k ∉ ks) (hk : ks.length < 16777216)
    (q : ∀ vs, ks.length = vs.length → repL ms H ds vs → Q (upd H L (.dK ((ks ++ [k]).zip (vs ++ [v]))))) : rSetD (.ref L) (kV k) v H Q := by
  obtain ⟨vs, h1, h2, h3⟩ := m.val
  refine ⟨L, _, rfl, DPut.k h1 ?_, ?_⟩
  · rw [List.length_zip, ← h2, sizeLine_eq, Nat.min_self]
    exact hk
  · rw [putK_new h2 n]
    exact q vs h2 h3
/-- d[k] = v, a key that is there -/
theorem mo_putO {v : V} {Q : Hp → Prop} (j : Nat) (m : MutO ms ps H0 H L (.dct ks ds)) (nd : ks.Nodup) (hj : ks[j]? = some k) (hk : ks.length < 16777216)
    (q : ∀ vs, ks.length = (vs.set j v).length → repL ms H ds vs → Q (upd H L (.dK (ks.zip (vs.set j v))))) : rSetD (.ref L) (kV k) v H Q := by
  obtain ⟨vs, h1, h2, h3⟩ := m.val
  refine ⟨L, _, rfl, DPut.k h1 ?_, ?_⟩
  · rw [List.length_zip, ← h2, sizeLine_eq, Nat.min_self]
    exact hk
  · rw [putK_old h2 nd hj]
    exact q vs (by rw [List.length_set]; exact h2) h3
theorem repL_setD {v : V} {e : D} : ∀ {ds : List D} {vs : List V} (j : Nat), repL ms H ds vs → rep ms H e v → repL ms H (ds.set j e) (vs.set j v)
  | [], vs, j, h, r => by
    have ev := repL_empty h
    subst ev
    simpa using h
  | d :: ds, vs, 0, h, r => by
    obtain ⟨u, us, rfl, h1, h2⟩ := repL_uncons h
    exact repL_cons r h2
  | d :: ds, vs, j + 1, h, r => by
    obtain ⟨u, us, rfl, h1, h2⟩ := repL_uncons h
    exact repL_cons h1 (repL_setD j h2 r)
theorem dgetL (h1 : H L = some (.dK (ks.zip vs))) (nd : ks.Nodup) (hl : ks.length = vs.length) {j : Nat} (hj : ks[j]? = some k) {v : V} (hv : vs[j]? = some v) : DGet H L (kV k) (some v) := by
  have := DGet.k (k := k) h1
  rw [valV_zip nd hj hl, hv] at this
  exact this
/-- d[k], k a written key -/
theorem rep_dget {Q : VK} (j : Nat) (h : rep ms H (.dct ks ds) x) (nd : ks.Nodup) (hj : ks[j]? = some k) (hd : ds[j]? = some d) (q : ∀ v, rep ms H d v → Q v H) :
    ∃ a v, x = .ref a ∧ DGet H a (kV k) (some v) ∧ Q v H := by
  simp only [rep] at h
  obtain ⟨p, vs, rfl, _, hp, hl, hr⟩ := h
  obtain ⟨v, hv, rv⟩ := repL_get hr hd
  exact ⟨p, v, rfl, dgetL hp nd hl hj hv, q v rv⟩
theorem mo_dget {Q : VK} (j : Nat) (m : MutO ms ps H0 H L (.dct ks ds)) (nd : ks.Nodup) (hj : ks[j]? = some k) (hd : ds[j]? = some d) (q : ∀ v, rep ms H d v → Q v H) :
    ∃ a v, V.ref L = .ref a ∧ DGet H a (kV k) (some v) ∧ Q v H := by
  obtain ⟨vs, hp, hl, hr⟩ := m.val
  obtain ⟨v, hv, rv⟩ := repL_get hr hd
  exact ⟨L, v, rfl, dgetL hp nd hl hj hv, q v rv⟩
/-- d[k], any key: what is found -/
def getM {α : Type} (ks : List Key) (xs : List α) (k : Key) : Option α := ((ks.zip xs).find? fun q => decide (q.1 = k)).map (·.2)
theorem getM_at {α : Type} {y : α} : ∀ {ks : List Key} {xs : List α}, getM ks xs k = some y → ∃ j : Nat, ks[j]? = some k ∧ xs[j]? = some y
  | [], _, h => by simp [getM] at h
  | _ :: _, [], h => by simp [getM] at h
  | k0 :: ks, x :: xs, h => by
    by_cases e : k0 = k
    · subst e
      simp [getM] at h
      exact ⟨0, rfl, by rw [h]; rfl⟩
    · have h' : getM ks xs k = some y := by
        unfold getM at h ⊢
        rw [List.zip_cons_cons, List.find?_cons_of_neg (by simpa using e)] at h
        exact h
      obtain ⟨j, h1, h2⟩ := getM_at h'
      exact ⟨j + 1, by simpa using h1, by simpa using h2⟩
theorem rep_dgetM {α : Type} {e : α → D} {xs : List α} {y : α} {Q : VK} (h : rep ms H (.dct ks (xs.map e)) x) (nd : ks.Nodup) (hy : getM ks xs k = some y) (q : ∀ v, rep ms H (e y) v → Q v H) :
    ∃ a v, x = .ref a ∧ DGet H a (kV k) (some v) ∧ Q v H := by
  obtain ⟨j, h1, h2⟩ := getM_at hy
  exact rep_dget j h nd h1 (by rw [List.getElem?_map, h2]; rfl) q
/-- dict(list(d.items())) -/
theorem rep_items {Q : VK} (w : Wd ms ps [] H0 H) (h : rep ms H (.dct ks ds) x)
    (q : ∀ (H' : Hp) (p : Addr), Ret [] H H' → (∀ (r : List V → Hp → Prop), (∀ vs, ks.length = vs.length → repL ms H' ds vs → (∃ ps, SqL K H' p (ps.map V.ref) ∧ Paired (fun p kv => SqT K H' p [kV kv.1, kv.2]) ps (ks.zip vs)) → r vs H') → ∃ vs, ks.length = vs.length ∧ repL ms H' ds vs ∧ r vs H') → Q (.ref p) H') :
    ∃ (d : Addr) (kvs : List (Key × V)), x = .ref d ∧ H d = some (.dK kvs) ∧ ∀ (H' : Hp) (p : Addr) (ts : List Addr), (∀ b o, H b = some o → H' b = some o) → H p = none → (∀ t ∈ ts, H t = none) → p ∉ ts → H' p = some (.lst (ts.map V.ref)) → Paired (fun (t : Addr) (q : Key × V) => H' t = some (.tup [kV q.1, q.2])) ts kvs → Q (.ref p) H' := by
  simp only [rep] at h
  obtain ⟨d, vs, rfl, _, hp, hl, hr⟩ := h
  refine ⟨d, _, rfl, hp, fun H' p ts keep np nts pt hl' hpd => ?_⟩
  have e : Ret [] H H' := ⟨fun a o _ z => keep a o z, fun _ z => absurd z List.not_mem_nil, fun a z => by
    cases c : H a with
    | none => exact absurd c z
    | some o => rw [keep a o c]; exact fun z => nomatch z⟩
  refine q H' p e fun r hr' => ⟨vs, hl, repL_ext e hr, hr' vs hl (repL_ext e hr) ⟨ts, .inl (.inl hl'), ?_⟩⟩
  clear hr' hl' q hp
  generalize ks.zip vs = kvs at hpd
  induction hpd with
  | nil => exact .nil
  | cons a _ ih => exact .cons (.inl (.inl a)) (ih (fun t z => nts t (List.mem_cons_of_mem _ z)) fun z => pt (List.mem_cons_of_mem _ z))
end
end Rx
namespace Rx
open PySem PySem.Spec PyProof.Rows L2
section
variable {X : Cx} {K : PySem.W.Frag}
theorem call_dictPK (hK : X.K = K) (hcalm : X.calm = true) : CallR X (.type "dict") (fun xs H Q => ∃ (a : Addr) (ps : List Addr) (kvs : List (Key × V)), xs = [.ref a] ∧ SqL K H a (ps.map V.ref) ∧ Paired (fun p kv => SqT K H p [kV kv.1, kv.2]) ps kvs ∧
    ∀ p, H p = none → Q (.ref p) (upd H p (.dK (mergeK [] kvs)))) := by
  subst hK
  exact call_dictP hcalm
end
end Rx
namespace Rx
theorem nin_of {α : Type} {ks : List α} {k : α} (h : (ks ++ [k]).Nodup) : k ∉ ks := fun z => by
  rw [List.nodup_append] at h
  exact h.2.2 k z k (by simp) rfl
end Rx
namespace Rx
open PySem PySem.Spec PyProof.Rows L2
/-! a new instance, while its __init__ runs -/
section
variable {ms ps : List Addr} {H0 H H' He : Hp} {p L C dx : Addr} {d : D} {u : V} {fs : List (Str × V)} {o : HO}
structure KpI (p : Addr) (He H : Hp) : Prop where
  kp : ∀ a o, a ≠ p → He a = some o → H a = some o
  gr : ∀ a, He a ≠ none → H a ≠ none
theorem ki_refl : KpI p H H := ⟨fun _ _ _ h => h, fun _ h => h⟩
theorem ki_wd (k : KpI p He H0) (w : Wd ms [] [] H0 H) : KpI p He H := ⟨fun a o n h => w.kp a o (by simp) (k.kp a o n h), fun a h => w.grow a (k.gr a h)⟩
theorem ki_put (k : KpI p He H0) (w : Wd ms [] [] H0 H) : KpI p He (upd H p o) := ⟨fun a o' n h => by
  rw [upd_ne n]
  exact (ki_wd k w).kp a o' n h, fun a h => by
  by_cases e : a = p
  · rw [e, upd_same]
    exact fun z => nomatch z
  · rw [upd_ne e]
    exact (ki_wd k w).gr a h⟩
theorem wd_at (w : Wd ms [] [] H0 H) : Wd ms [] [] (upd H p o) (upd H p o) := ⟨fun _ _ _ h => h, fun _ h => h, fun m h => by
  by_cases e : m = p
  · rw [e, upd_same]
    exact fun z => nomatch z
  · rw [upd_ne e]
    exact w.tr m h, fun _ h => absurd h List.not_mem_nil, fun _ h => absurd h List.not_mem_nil, fun _ h => absurd h List.not_mem_nil⟩
theorem at_put (hp : H p = some (.ins C dx fs)) (m : MutO ms ps H0 H L d) : upd H L o p = some (.ins C dx fs) := by
  rw [upd_ne (fun z => ?_)]
  · exact hp
  · have h := m.isMo
    rw [← z, hp] at h
    exact h
theorem putF_zip {f : Str} {v : V} : ∀ {ns : List Str} {us : List V}, ns.length = us.length → f ∉ ns → putF f v (ns.zip us) = (ns ++ [f]).zip (us ++ [v])
  | [], [], _, _ => by simp [putF]
  | [], _ :: _, h, _ => by simp at h
  | _ :: _, [], h, _ => by simp at h
  | n :: ns, u :: us, h, nn => by
    have e : ¬ n = f := fun z => nn (by rw [z]; exact List.mem_cons_self)
    have ih := putF_zip (f := f) (v := v) (ns := ns) (us := us) (by simpa using h) fun z => nn (List.mem_cons_of_mem _ z)
    simp only [List.zip_cons_cons, List.cons_append]
    unfold putF
    rw [if_neg e, ih]
theorem mem_new (nl : H p = none) (h : rep ms H d u) (ndx : H dx = none) {o1 o2 : HO} : rep (p :: ms) (upd (upd H dx o1) p o2) d u :=
  rep_map (fun a o n hp => ⟨fun z => by
    rcases List.mem_cons.mp z with z | z
    · exact ne_of_none hp nl z
    · exact n z, by rw [upd_ne (ne_of_none hp nl), upd_ne (ne_of_none hp ndx)]; exact hp⟩) d u h
theorem wd_new (w : Wd ms ps cs H0 H) (nl : H p = none) (ndx : H dx = none) {o1 o2 : HO} : Wd (p :: ms) [] [] (upd (upd H dx o1) p o2) (upd (upd H dx o1) p o2) := ⟨fun _ _ _ h => h, fun _ h => h, fun m h => by
  by_cases e : m = p
  · rw [e, upd_same]
    exact fun z => nomatch z
  · rw [upd_ne e]
    by_cases e2 : m = dx
    · rw [e2, upd_same]
      exact fun z => nomatch z
    · rw [upd_ne e2]
      exact w.tr m ((List.mem_cons.mp h).elim (fun z => absurd z e) id), fun _ h => absurd h List.not_mem_nil, fun _ h => absurd h List.not_mem_nil, fun _ h => absurd h List.not_mem_nil⟩
theorem ext_new (k : KpI p (upd (upd H dx o1) p o2) H') (nl : H p = none) (ndx : H dx = none) : Ret [] H H' := ⟨fun a o _ h => k.kp a o (ne_of_none h nl) (by rw [upd_ne (ne_of_none h nl), upd_ne (ne_of_none h ndx)]; exact h), fun _ z => absurd z List.not_mem_nil, fun a h => k.gr a (by
  by_cases e : a = p
  · rw [e, upd_same]
    exact fun z => nomatch z
  · rw [upd_ne e]
    by_cases e2 : a = dx
    · rw [e2, upd_same]
      exact fun z => nomatch z
    · rw [upd_ne e2]
      exact h)⟩
theorem rep_insW (w : Wd ms ps cs H0 H) (np : H p = none) {ns : List Str} {us : List V} {ds : List D} (hp : H' p = some (.ins C dx (ns.zip us))) (hl : ns.length = us.length) (hr : repL (p :: ms) H' ds us) : rep ms H' (.ins C ns ds) (.ref p) := by
  simp only [rep]
  exact ⟨p, dx, us, rfl, fun z => w.tr p z np, hp, hl, repL_weak hr⟩
end
end Rx
namespace Rx
open PySem PySem.Spec PyProof.Rows L2
section
variable {K : PySem.W.Frag} {x qual : Str} {params : Arguments} {body : List Stmt} {scope : Scope} {dvs : List V} {f : Addr} {fd : FuncData} {ps : List Str}
/-- a def with defaults, called with all its arguments -/
theorem FunD_b0 (F : FunD K x qual params body scope dvs [] f fd) (hd : dvs ≠ [])
    (h : ∀ (T : Addr) (kV doc pm : Value) (an : Option Addr) (cdv ct : Value) (us its : List Value), us.length = ps.length → its.length = dvs.length →
      ∃ k, bindArgs (PySem.W.fnOf x qual params body scope (.ref T) kV doc pm an cdv ct) ⟨us, []⟩ = seqItems? (.ref T) >>= k ∧ k (some its.toArray) = pure (ps.zip us)) : Binds K fd ps [] := by
  obtain ⟨ds, rd, hb⟩ := F.binds1 (ps := ps) ps.length dvs.length hd (by omega) fun T kV doc pm an cdv ct us its h1 h2 => by
    obtain ⟨k, e1, e2⟩ := h T kV doc pm an cdv ct us its h1 h2
    refine ⟨k, e1, ?_⟩
    rw [e2, List.drop_of_length_le (by omega), List.append_nil]
  rw [List.drop_length] at rd
  cases rd
  exact hb
end
end Rx
namespace Rx
open PySem PySem.Spec PyProof.Rows L2
/-! x in a written dict, x there -/
def rInW (K : PySem.W.Frag) (w : World) (d : Addr) (b : Bool) : R2 := fun x y H Q => ∃ (z c : Str), x = .str z ∧ y = .ref d ∧ KDct K w d z (.str c) ∧ Q (.bl b) H
section
variable {X : Cx} {K : PySem.W.Frag} {w : World} {d : Addr}
theorem op_inW (hK : X.K = K) (hw : X.w = w) (low : (d == sysModules) = false) : OpR X (compareOp .In) (rInW K w d true) := by
  subst hK hw
  intro pins s σ H x y v u Q I rx ry h
  obtain ⟨z, c, rfl, rfl, ⟨es, n, u0, at_, lit, ns, ru⟩, q⟩ := h
  exact op_in_kd ⟨at_, lit, low⟩ pins s σ H _ _ v u Q I rx ry ⟨z, some u0, rfl, rfl, ns, q⟩
theorem op_ninW (hK : X.K = K) (hw : X.w = w) (low : (d == sysModules) = false) : OpR X (compareOp .NotIn) (rInW K w d false) := by
  subst hK hw
  intro pins s σ H x y v u Q I rx ry h
  obtain ⟨z, c, rfl, rfl, ⟨es, n, u0, at_, lit, ns, ru⟩, q⟩ := h
  exact op_notIn_kd ⟨at_, lit, low⟩ pins s σ H _ _ v u Q I rx ry ⟨z, some u0, rfl, rfl, ns, q⟩
theorem rep_inW {l : List (Str × Str)} {z c : Str} {b : Bool} {H : Hp} {σ : L2.St} {Q : VK} (t : ∀ z c : Str, l.lookup z = some c → KDct K w d z (.str c)) (h : l.lookup z = some c) (q : Q (.bl b) H) : tC (V.ref d) σ H fun y H2 => rInW K w d b (.str z) y H2 Q := ⟨z, c, rfl, rfl, t z c h, q⟩
end
end Rx
namespace Rx
open PySem PySem.Spec PyProof.Rows L2
/-! ranges with a step -/
def rangeS (lo hi c : Int) : List Int := (List.range (if lo < hi then (hi - lo - 1) / c + 1 else 0).toNat).map fun i => lo + ((i : Nat) : Int) * c
def RgB (lo hi : Int) : Prop := -(2 ^ 60) ≤ lo ∧ lo < 2 ^ 60 ∧ -(2 ^ 60) ≤ hi ∧ hi < 2 ^ 60
theorem rangeS_len {lo hi c : Int} : (rangeS lo hi c).length = (if lo < hi then (hi - lo - 1) / c + 1 else 0).toNat := by simp [rangeS]
theorem rangeS_get {lo hi c : Int} {i : Nat} (h : i < (rangeS lo hi c).length) : (rangeS lo hi c)[i]? = some (lo + (i : Int) * c) := by
  rw [rangeS_len] at h
  simp [rangeS, List.getElem?_map, List.getElem?_range h]
theorem rgS_size {lo hi c : Int} (hc : 0 < c) : Builtin.Range.rangeSize lo hi c = ((rangeS lo hi c).length : Int) := by
  rw [rangeS_len]
  unfold Builtin.Range.rangeSize
  rw [if_pos hc]
  split
  · have := Int.ediv_nonneg (a := hi - lo - 1) (b := c) (by omega) (by omega)
    omega
  · rfl
theorem rgS_small {lo hi c : Int} (hc : 0 < c) (hc2 : c < 2 ^ 30) (hb : RgB lo hi) : Builtin.Range.small lo hi c = true := by
  obtain ⟨h1, h2, h3, h4⟩ := hb
  have e : Builtin.Range.rangeSize lo hi c ≤ 2 ^ 61 ∧ 0 ≤ Builtin.Range.rangeSize lo hi c := by
    unfold Builtin.Range.rangeSize
    rw [if_pos hc]
    split
    · have a := Int.ediv_nonneg (a := hi - lo - 1) (b := c) (by omega) (by omega)
      have b := Int.ediv_le_self (a := hi - lo - 1) c (by omega)
      omega
    · omega
  unfold Builtin.Range.small
  have f : ∀ z : Int, -(2 ^ 62) ≤ z → z < 2 ^ 62 → Builtin.Range.rangeFitsLong z = true := by
    intro z a b
    unfold Builtin.Range.rangeFitsLong
    simp only [Bool.and_eq_true, decide_eq_true_eq]
    omega
  rw [f lo (by omega) (by omega), f hi (by omega) (by omega), f c (by omega) (by omega), f _ (by omega) (by omega), if_pos hc, f (hi + (c - 1)) (by omega) (by omega)]
  simp
theorem rgC_of {lo hi c : Int} (hc : 0 < c) (hc2 : c < 2 ^ 30) (hb : RgB lo hi) : RgC lo hi c (rangeS lo hi c).length :=
  ⟨by omega, by omega, rgS_small hc hc2 hb, rgS_size hc⟩
section
variable {α β : Type} {K : PySem.W.Frag} {H1 H2 : Hp} {g : TG} {tt : TT} {te : TE} {vl : List Nat} {σ : L2.St} {Qd : Hp → Prop} {L : Addr}
theorem lc_rangeTG {lo hi c : Int} {body : Int → (β → Prop) → Prop} {KM : List β → Prop} (SI : Nat → List β → Hp → Prop) (hM : (rangeS lo hi c).length < 100000 ∧ mapC body (rangeS lo hi c) [] KM) (h0 : SI 0 [] (upd H1 L (.lst [])))
    (hs : ∀ (x : Int) (n : Nat) (ys : List β) (k : β → Prop) (H : Hp), n < 100000 → SI n ys H → body x k → ∀ Nx : Hp → Prop, (∀ y H', k y → SI (n + 1) (ys ++ [y]) H' → Nx H') → Turn g tt te vl σ L (.int x) H Nx)
    (hd : ∀ n ys H, KM ys → SI n ys H → Qd H) :
    ∃ W : Nat → Nat → Hp → Prop, (∃ m, W 0 m (upd H1 L (.lst []))) ∧ ∀ i m H, W i m H →
      ((Itc lo c (rangeS lo hi c).length).stop i H ∧ Qd H) ∨ ((Itc lo c (rangeS lo hi c).length).go i H ∧ ∃ Nx : Hp → Prop, (∀ H', Nx H' → ∃ m', m' < m ∧ W (i + 1) m' H') ∧ ∀ x H', (Itc lo c (rangeS lo hi c).length).yld i H x H' → g x (wipe σ vl) H' fun σ2 H2 => wipe σ2 vl = wipe σ vl ∧ tt σ2 H2 fun b H3 =>
        if b = true then te σ2 H3 fun y H4 => ∃ acc, H4 L = some (.lst acc) ∧ acc.length < sizeLine ∧ Nx (upd H4 L (.lst (acc ++ [y]))) else Nx H3) := by
  obtain ⟨hn, hM⟩ := hM
  refine ⟨fun i m H => m = (rangeS lo hi c).length - i ∧ i ≤ (rangeS lo hi c).length ∧ ∃ ys, SI i ys H ∧ mapC body ((rangeS lo hi c).drop i) ys KM, ⟨_, rfl, Nat.zero_le _, [], h0, hM⟩, ?_⟩
  rintro i m H ⟨rfl, hi', ys, T, q⟩
  by_cases hlt : i < (rangeS lo hi c).length
  · refine .inr ⟨hlt, fun H' => i + 1 ≤ (rangeS lo hi c).length ∧ ∃ ys, SI (i + 1) ys H' ∧ mapC body ((rangeS lo hi c).drop (i + 1)) ys KM, fun H' p' => ⟨_, by omega, rfl, p'⟩, fun x H' y => ?_⟩
    obtain ⟨e, y⟩ := y
    subst e y
    rw [drop_cons' (rangeS_get hlt)] at q
    exact hs _ i ys _ H' (by omega) T q _ fun y H' k T' => ⟨hlt, _, T', k⟩
  · have e : i = (rangeS lo hi c).length := by omega
    refine .inl ⟨by rw [e]; exact Nat.le_refl _, ?_⟩
    rw [List.drop_of_length_le (by omega)] at q
    exact hd _ ys H q T
theorem lf_rangeTG {lo hi c : Int} {body : Int → (Option β → Prop) → Prop} {KM : List β → Prop} (SI : Nat → List β → Hp → Prop) (hM : (rangeS lo hi c).length < 100000 ∧ filC body (rangeS lo hi c) [] KM) (h0 : SI 0 [] (upd H1 L (.lst [])))
    (hs : ∀ (x : Int) (n : Nat) (ys : List β) (k : Option β → Prop) (H : Hp), n < 100000 → SI n ys H → body x k → ∀ Nx : Hp → Prop, (∀ y H', k (some y) → SI (n + 1) (ys ++ [y]) H' → Nx H') → (∀ H', k none → SI (n + 1) ys H' → Nx H') → Turn g tt te vl σ L (.int x) H Nx)
    (hd : ∀ n ys H, KM ys → SI n ys H → Qd H) :
    ∃ W : Nat → Nat → Hp → Prop, (∃ m, W 0 m (upd H1 L (.lst []))) ∧ ∀ i m H, W i m H →
      ((Itc lo c (rangeS lo hi c).length).stop i H ∧ Qd H) ∨ ((Itc lo c (rangeS lo hi c).length).go i H ∧ ∃ Nx : Hp → Prop, (∀ H', Nx H' → ∃ m', m' < m ∧ W (i + 1) m' H') ∧ ∀ x H', (Itc lo c (rangeS lo hi c).length).yld i H x H' → g x (wipe σ vl) H' fun σ2 H2 => wipe σ2 vl = wipe σ vl ∧ tt σ2 H2 fun b H3 =>
        if b = true then te σ2 H3 fun y H4 => ∃ acc, H4 L = some (.lst acc) ∧ acc.length < sizeLine ∧ Nx (upd H4 L (.lst (acc ++ [y]))) else Nx H3) := by
  obtain ⟨hn, hM⟩ := hM
  refine ⟨fun i m H => m = (rangeS lo hi c).length - i ∧ i ≤ (rangeS lo hi c).length ∧ ∃ ys, SI i ys H ∧ filC body ((rangeS lo hi c).drop i) ys KM, ⟨_, rfl, Nat.zero_le _, [], h0, hM⟩, ?_⟩
  rintro i m H ⟨rfl, hi', ys, T, q⟩
  by_cases hlt : i < (rangeS lo hi c).length
  · refine .inr ⟨hlt, fun H' => i + 1 ≤ (rangeS lo hi c).length ∧ ∃ ys, SI (i + 1) ys H' ∧ filC body ((rangeS lo hi c).drop (i + 1)) ys KM, fun H' p' => ⟨_, by omega, rfl, p'⟩, fun x H' y => ?_⟩
    obtain ⟨e, y⟩ := y
    subst e y
    rw [drop_cons' (rangeS_get hlt)] at q
    exact hs _ i ys _ H' (by omega) T q _ (fun y H' k T' => ⟨hlt, _, T', k⟩) fun H' k T' => ⟨hlt, _, T', k⟩
  · have e : i = (rangeS lo hi c).length := by omega
    refine .inl ⟨by rw [e]; exact Nat.le_refl _, ?_⟩
    rw [List.drop_of_length_le (by omega)] at q
    exact hd _ ys H q T
theorem lc_rangeTS {lo hi c : Int} {body : Int → S → (β → S → Prop) → Prop} {KM : List β → S → Prop} (SI : Nat → List β → S → Hp → Prop) (s0 : S) (hM : (rangeS lo hi c).length < 100000 ∧ mapS body (rangeS lo hi c) [] s0 KM) (h0 : SI 0 [] s0 (upd H1 L (.lst [])))
    (hs : ∀ (x : Int) (n : Nat) (ys : List β) (s : S) (k : β → S → Prop) (H : Hp), n < 100000 → SI n ys s H → body x s k → ∀ Nx : Hp → Prop, (∀ y s' H', k y s' → SI (n + 1) (ys ++ [y]) s' H' → Nx H') → Turn g tt te vl σ L (.int x) H Nx)
    (hd : ∀ n ys s H, KM ys s → SI n ys s H → Qd H) :
    ∃ W : Nat → Nat → Hp → Prop, (∃ m, W 0 m (upd H1 L (.lst []))) ∧ ∀ i m H, W i m H →
      ((Itc lo c (rangeS lo hi c).length).stop i H ∧ Qd H) ∨ ((Itc lo c (rangeS lo hi c).length).go i H ∧ ∃ Nx : Hp → Prop, (∀ H', Nx H' → ∃ m', m' < m ∧ W (i + 1) m' H') ∧ ∀ x H', (Itc lo c (rangeS lo hi c).length).yld i H x H' → g x (wipe σ vl) H' fun σ2 H2 => wipe σ2 vl = wipe σ vl ∧ tt σ2 H2 fun b H3 =>
        if b = true then te σ2 H3 fun y H4 => ∃ acc, H4 L = some (.lst acc) ∧ acc.length < sizeLine ∧ Nx (upd H4 L (.lst (acc ++ [y]))) else Nx H3) := by
  obtain ⟨hn, hM⟩ := hM
  refine ⟨fun i m H => m = (rangeS lo hi c).length - i ∧ i ≤ (rangeS lo hi c).length ∧ ∃ ys s, SI i ys s H ∧ mapS body ((rangeS lo hi c).drop i) ys s KM, ⟨_, rfl, Nat.zero_le _, [], s0, h0, hM⟩, ?_⟩
  rintro i m H ⟨rfl, hi', ys, s, T, q⟩
  by_cases hlt : i < (rangeS lo hi c).length
  · refine .inr ⟨hlt, fun H' => i + 1 ≤ (rangeS lo hi c).length ∧ ∃ ys s, SI (i + 1) ys s H' ∧ mapS body ((rangeS lo hi c).drop (i + 1)) ys s KM, fun H' p' => ⟨_, by omega, rfl, p'⟩, fun x H' y => ?_⟩
    obtain ⟨e, y⟩ := y
    subst e y
    rw [drop_cons' (rangeS_get hlt)] at q
    exact hs _ i ys s _ H' (by omega) T q _ fun y s' H' k T' => ⟨hlt, _, _, T', k⟩
  · have e : i = (rangeS lo hi c).length := by omega
    refine .inl ⟨by rw [e]; exact Nat.le_refl _, ?_⟩
    rw [List.drop_of_length_le (by omega)] at q
    exact hd _ ys s H q T
end
section
variable {α S : Type} {K : PySem.W.Frag} {H1 : Hp} {g : TG} {tb : TS} {D' : Ends} {σ : L2.St}
theorem for_rangeTG {lo hi c : Int} {body : Int → S → (S → Prop) → Prop} {KM : S → Prop} (SI : S → L2.St → Hp → Prop) (s0 : S) (hM : forC body (rangeS lo hi c) s0 KM) (h0 : SI s0 σ H1)
    (hs : ∀ (x : Int) (s : S) (k : S → Prop) (σ : L2.St) (H : Hp), SI s σ H → body x s k → ∀ Nx : L2.St → Hp → Prop, (∀ s' σ' H', k s' → SI s' σ' H' → Nx σ' H') →
      g (.int x) σ H fun σ2 H2 => tb { D' with nx := Nx, ct := Nx, bk := D'.nx } σ2 H2)
    (hd : ∀ s σ H, KM s → SI s σ H → D'.nx σ H) :
    ∃ W : Nat → Nat → L2.St → Hp → Prop, (∃ m, W 0 m σ H1) ∧ ∀ i m σ H, W i m σ H →
      ((Itc lo c (rangeS lo hi c).length).stop i H ∧ D'.nx σ H) ∨ ((Itc lo c (rangeS lo hi c).length).go i H ∧ ∃ Nx : L2.St → Hp → Prop, (∀ σ' H', Nx σ' H' → ∃ m', m' < m ∧ W (i + 1) m' σ' H') ∧ ∀ x H', (Itc lo c (rangeS lo hi c).length).yld i H x H' → g x σ H' fun σ2 H2 => tb { D' with nx := Nx, ct := Nx, bk := D'.nx } σ2 H2) := by
  refine L2.for_rangeC (lo := lo) (c := c) (n := (rangeS lo hi c).length) (D := D') (fun i σ H => ∃ s, SI s σ H ∧ forC body ((rangeS lo hi c).drop i) s KM) ⟨s0, h0, hM⟩ (fun i σ H hi' ⟨s, si, q⟩ => ?_) (fun σ H ⟨s, si, q⟩ => ?_)
  · rw [drop_cons' (rangeS_get hi')] at q
    exact hs _ s _ σ H si q _ fun s' σ' H' hk si2 => ⟨s', si2, hk⟩
  · rw [List.drop_of_length_le (Nat.le_refl _)] at q
    exact hd s σ H q si
end
theorem paired_at {ys : List V} {l : List Value} (hl : ys.length = l.length) (h : ∀ (i : Nat) (v : V) (u : Value), ys[i]? = some v → l[i]? = some u → L2.RelV v u) : Vals ys l := by
  induction ys generalizing l with
  | nil =>
    cases l with
    | nil => exact .nil
    | cons _ _ => cases hl
  | cons y ys ih =>
    cases l with
    | nil => cases hl
    | cons u l => exact .cons (h 0 y u rfl rfl) (ih (Nat.succ.inj hl) fun i v u a b => h (i + 1) v u a b)
section
variable {X : L2.Cx} {a b c e : PySem.Expr} {ta : TA}
/-- list(range(a, b, c)) -/
def tLstRg3 (ta : TA) : TE := fun σ H Q => ta σ H fun vs H1 => ∃ i j c : Int, vs = [.int i, .int j, .int c] ∧ (0 < c ∧ c < 2 ^ 30) ∧ RgB i j ∧ (rangeS i j c).length ≤ 2 ^ 24 ∧ ∀ q, H1 q = none → Q (.ref q) (upd H1 q (.lst ((rangeS i j c).map V.int)))
theorem pe_listRg3 {p pos p' pos' : Pos} (hc : X.calm = true) (hl : Gl X "list") (hlm : X.mg "list" = none) (hg : Gl X "range") (hm : X.mg "range" = none) (ha : PA X [a, b, c] ta)
    (hs : starEach [a, b, c] X.env = [(false, eval a X.env), (false, eval b X.env), (false, eval c X.env)] := by rfl) (hs2 : starEach [b, c] X.env = [(false, eval b X.env), (false, eval c X.env)] := by rfl) :
    PE X (.Call (.Name "list" p) [.Call (.Name "range" p') [a, b, c] [] pos'] [] pos) (tLstRg3 ta) := by
  refine ⟨fun pins s σ H Q I h => ?_⟩
  refine Call_ (ld_blt I hl hlm boot_list (PyProof.Rows.callWith_type1 (e := .Call (.Name "range" p') [a, b, c] [] pos') (rest := []) (PyProof.Rows.args_cons (Call_ (ld_blt I hg hm boot_range (PyProof.Rows.callWith_type1 (thn (ha.run pos' pins s σ H _ I h) fun us s1 ⟨vs, H1, I1, r1, q1⟩ => ?_) (by rw [hs, hs2]) (by rw [hs2]; rfl)))) rfl) rfl rfl))
  obtain ⟨i, j, c, e, ⟨c0, c1⟩, hb, hn, q⟩ := q1
  subst e
  cases r1 with
  | cons r rr =>
  cases rr with
  | cons r' rr =>
  cases rr with
  | cons r'' rr =>
  cases rr
  obtain ⟨t, rfl⟩ := r
  obtain ⟨t', rfl⟩ := r'
  obtain ⟨t'', rfl⟩ := r''
  refine call_range_3 (by omega) (PyProof.Rows.args_nil ?_) (.inl ?_)
  · have I2 : L2.Inv X pins σ H1 { heap := s1.heap.push { cls := .type "range", data := .fields #[.int i t, .int j t', .int c t''] }, gens := s1.gens, drawn := s1.drawn, toks := s1.toks, os := s1.os } := I1.kept fun b o e => Heap.get?_push_of_some _ e
    refine call_list_range (I2.ok.hd hc) (IsRange.new _ i j c t t' t'') (rgS_small c0 c1 hb) (rgS_size c0) hn fun h' tk acc' c' hk hob hit => ?_
    obtain ⟨hi1, hi2⟩ := hit
    refine ⟨.ref _, _, I2.laid (a := _) (o := .lst ((rangeS i j c).map V.int)) (t' := tk) hk (Nat.le_refl _) ?_, rfl, q _ I2.fresh⟩
    refine ⟨by rw [List.length_map, sizeLine_eq]; omega, acc'.toList, c', paired_at (by rw [List.length_map]; exact hi1.symm) fun k v u hv hu => ?_, hob⟩
    rw [List.getElem?_map] at hv
    have lt : k < (rangeS i j c).length := by
      rcases Nat.lt_or_ge k (rangeS i j c).length with h | h
      · exact h
      · rw [List.getElem?_eq_none h] at hv
        cases hv
    rw [rangeS_get lt] at hv
    cases hv
    obtain ⟨tt, e⟩ := hi2 k u (by simpa using hu)
    exact ⟨tt, e⟩
  · unfold Builtin.divisionGoesByPylong
    have e : c.natAbs.log2 < 30 := (Nat.log2_lt (by omega)).mpr (by omega)
    have d : (if (c == 0) = true then 0 else c.natAbs.log2 / 30 + 1) ≤ 1 := by
      split
      · omega
      · omega
    simp only [Bool.and_eq_false_iff, decide_eq_false_iff_not]
    exact .inl (by omega)
end
/-! text[::-1] -/
def revS (z : Str) : Str := ⟨z.cps.reverse⟩
theorem revS_len (z : Str) : (revS z).length = z.length := by
  show (z.cps.reverse).size = z.cps.size
  exact Array.size_reverse
theorem revS_eq (z : Str) (u : Tok) : Txt.sliceBy z none none (-1, u) = revS z := by
  have h := step_rev_list z u
  have e : (Txt.sliceBy z none none (-1, u)).cps = (revS z).cps := by
    apply Array.toList_inj.mp
    rw [h]
    show _ = (z.cps.reverse).toList
    rw [Array.toList_reverse]
    apply List.ext_getElem?
    intro i
    rw [List.getElem?_map]
    by_cases c : i < z.length
    · rw [List.getElem?_range c, List.getElem?_reverse (by exact c)]
      show some (z.cps.getD (z.length - 1 - i) 0) = z.cps.toList[z.length - 1 - i]?
      rw [Array.getD_eq_getD_getElem?, ← Array.getElem?_toList, List.getElem?_eq_getElem (show z.length - 1 - i < z.cps.toList.length from (by have : z.cps.toList.length = z.length := rfl; omega))]
      rfl
    · rw [List.getElem?_eq_none (by simpa using c), List.getElem?_eq_none (by rw [List.length_reverse]; exact Nat.le_of_not_lt c)]
      rfl
  cases hx : Txt.sliceBy z none none (-1, u) with
  | mk c =>
    rw [hx] at e
    show Str.mk c = Str.mk _
    rw [show c = _ from e]
    rfl
section
variable {X : L2.Cx} {e : PySem.Expr} {te : TE}
def tRevS (te : TE) : TE := fun σ H Q => te σ H fun x H1 => ∃ z : Str, x = .str z ∧ z.length ≤ sizeLine ∧ Q (.str (revS z)) H1
theorem pe_revS {e : PySem.Expr} {k : Nat} {p1 p2 p3 pos : Pos} (h : PE X e te)  (hl : ∀ o r : Value, letTemporaryGo e o r = pure () := by intros; rfl) :
    PE X (.Subscript e (.Slice none none (some (.UnaryOp .USub (.Constant (.int 1) k p1) p2)) p3) pos) (tRevS te) := by
  refine ⟨fun pins s σ H Q I q => ?_⟩
  have hn : PE X (.UnaryOp .USub (.Constant (.int 1) k p1) p2) (tC (.int (-1))) := ⟨fun pins s σ H Q I q => (pe_un un_neg pe_int).run pins s σ H Q I ⟨1, rfl, q⟩⟩
  refine wpAny_Subscript_Slice_step (T := "str") (id := "str.__getitem__") (by rfl) (thn (h.run pins s σ H _ I q) fun v s1 ⟨x, H1, I1, r1, q1⟩ => ?_) hl
  obtain ⟨z, e, hz, q1⟩ := q1
  subst e
  obtain ⟨t, rfl⟩ := r1
  refine wpAny_Slice (evalPart_none_step (evalPart_none_step (wpAny_evalPart_some (thn (hn.run pins s1 σ H1 (fun y H2 => y = .int (-1) ∧ H2 = H1) I1 ⟨rfl, rfl⟩) fun v s2 ⟨y, H2, I2, r2, q2⟩ => ?_))))
  obtain ⟨e1, e2⟩ := q2
  subst e1 e2
  obtain ⟨t2, rfl⟩ := r2
  refine ⟨rfl, wpAny_getItem_str_slice (l := none) (u := none) (st := some (-1, t2)) ⟨_, Heap.get?_push_size _ rfl, rfl, rfl⟩ (by rfl) ?_⟩
  have e : sliceMade z t none none (some (-1, t2)) = .str (revS z) := by
    rw [← revS_eq z t2]
    rfl
  rw [e]
  unfold Made.post
  exact ⟨by rw [revS_len]; exact hz, .str (revS z), _, I2.kept fun b o e => Heap.get?_push_of_some _ e, ⟨_, rfl⟩, q1⟩
end
theorem repL_intsM {ms : List Addr} {H : Hp} {xs : List Int} : repL ms H (xs.map fun y_ : Int => D.v (V.int y_)) (xs.map V.int) := by
  have e1 : xs.map (fun y_ : Int => D.v (V.int y_)) = (xs.map V.int).map D.v := by
    rw [List.map_map]
    rfl
  rw [e1]
  exact repL_flat.mpr rfl
/-! results that may be None, of plain values -/
def optV {α : Type} (f : α → V) : Option α → V
  | none => .non
  | some y => f y
theorem rep_oV {α : Type} {f : α → V} {ms : List Addr} {H : Hp} {m : Option α} : rep ms H (encO (fun y_ : α => D.v (f y_)) m) (optV f m) := by
  cases m <;> exact rep_v
theorem rep_optV {α : Type} {f : α → V} {ms : List Addr} {H : Hp} {m : Option α} {u : V} (h : rep ms H (encO (fun y_ : α => D.v (f y_)) m) u) : u = optV f m := by
  cases m <;> exact of_v h
theorem optV_isN {α : Type} {f : α → V} {m : Option α} (he : ∀ y, f y ≠ .non) : decide (optV f m = .non) = m.isNone := by
  cases m with
  | none => rfl
  | some y => exact decide_eq_false (he y)
theorem optV_isSome {α : Type} {f : α → V} {m : Option α} (he : ∀ y, f y ≠ .non) : (!decide (optV f m = .non)) = m.isSome := by
  rw [optV_isN he]
  cases m <;> rfl
theorem optV_some {α : Type} {f : α → V} {m : Option α} {y : α} (h : m = some y) : optV f m = f y := by rw [h]; rfl
theorem scal_oo {a b : Option Int} : scal (optV V.int a) (optV V.int b) = true := by
  cases a <;> cases b <;> rfl
theorem scal_oi {a : Option Int} {b : Int} : scal (optV V.int a) (V.int b) = true := by
  cases a <;> rfl
theorem scal_io {a : Int} {b : Option Int} : scal (V.int a) (optV V.int b) = true := by
  cases b <;> rfl
theorem scal_on {a : Option Int} : scal (optV V.int a) V.non = true := by
  cases a <;> rfl
/-! x in a list or tuple of plain values -/
section
variable {X : L2.Cx} {K : PySem.W.Frag} {ms : List Addr} {H : Hp} {u x : V}
theorem op_inSK (hK : X.K = K) : OpR X (compareOp .In) (rIn K false) := by
  subst hK
  exact op_in_seq
theorem op_ninSK (hK : X.K = K) : OpR X (compareOp .NotIn) (rIn K true) := by
  subst hK
  exact op_notIn_seq
theorem inQ_all {α : Type} {f : α → V} {xs : List α} (fs : ∀ y, flatV (f y) = true) : (xs.map f).all flatV = true := by
  rw [List.all_map]
  exact List.all_eq_true.mpr fun y _ => fs y
theorem inQ_eq {α : Type} {f : α → V} {xs : List α} {vs : List V} (h : repL ms H (xs.map fun y_ : α => D.v (f y_)) vs) : vs = xs.map f := by
  have e1 : xs.map (fun y_ : α => D.v (f y_)) = (xs.map f).map D.v := by
    rw [List.map_map]
    rfl
  rw [e1] at h
  exact repL_flat.mp h
theorem rep_inL {α : Type} {f : α → V} {xs : List α} {Q : VK} (h : rep ms H (.lst (xs.map fun y_ : α => D.v (f y_))) u) (fx : flatV x = true) (fs : ∀ y, flatV (f y) = true) (k : Q (.bl (inV x (xs.map f))) H) : rIn K false x u H Q := by
  simp only [rep] at h
  obtain ⟨p, vs, e, _, hp, hr⟩ := h
  rw [inQ_eq hr] at hp
  exact ⟨p, _, e, .inl (.inl (.inl hp)), fx, inQ_all fs, k⟩
theorem rep_ninL {α : Type} {f : α → V} {xs : List α} {Q : VK} (h : rep ms H (.lst (xs.map fun y_ : α => D.v (f y_))) u) (fx : flatV x = true) (fs : ∀ y, flatV (f y) = true) (k : Q (.bl (!inV x (xs.map f))) H) : rIn K true x u H Q := by
  simp only [rep] at h
  obtain ⟨p, vs, e, _, hp, hr⟩ := h
  rw [inQ_eq hr] at hp
  exact ⟨p, _, e, .inl (.inl (.inl hp)), fx, inQ_all fs, k⟩
theorem rep_inT {α : Type} {f : α → V} {xs : List α} {Q : VK} (h : rep ms H (.tup (xs.map fun y_ : α => D.v (f y_))) u) (fx : flatV x = true) (fs : ∀ y, flatV (f y) = true) (k : Q (.bl (inV x (xs.map f))) H) : rIn K false x u H Q := by
  simp only [rep] at h
  obtain ⟨p, vs, e, _, hp, hr⟩ := h
  rw [inQ_eq hr] at hp
  exact ⟨p, _, e, .inr (.inl (.inl hp)), fx, inQ_all fs, k⟩
theorem rep_ninT {α : Type} {f : α → V} {xs : List α} {Q : VK} (h : rep ms H (.tup (xs.map fun y_ : α => D.v (f y_))) u) (fx : flatV x = true) (fs : ∀ y, flatV (f y) = true) (k : Q (.bl (!inV x (xs.map f))) H) : rIn K true x u H Q := by
  simp only [rep] at h
  obtain ⟨p, vs, e, _, hp, hr⟩ := h
  rw [inQ_eq hr] at hp
  exact ⟨p, _, e, .inr (.inl (.inl hp)), fx, inQ_all fs, k⟩
theorem inV_int {x : Int} {xs : List Int} : inV (.int x) (xs.map V.int) = true ↔ x ∈ xs := by
  unfold inV
  rw [List.any_map, List.any_eq_true]
  constructor
  · rintro ⟨y, hy, e⟩
    have e' : (y == x) = true := e
    rw [← eq_of_beq e']
    exact hy
  · intro h
    exact ⟨x, h, show (x == x) = true from beq_self_eq_true x⟩
end
section
variable {K : PySem.W.Frag} {ms ps : List Addr} {H0 H H' H1 : Hp} {L : Addr} {d : D} {ds : List D} {u x y : V} {vs : List V} {ks : List Key} {k : Key}
theorem rep_itemsR {Q : VK} (w : Wd ms ps [] H0 H) (h : rep ms H (.dct ks ds) x)
    (q : ∀ (H' : Hp) (p : Addr), Ret [] H H' → (∀ (r : List V → Hp → Prop), (∀ vs, ks.length = vs.length → repL ms H' ds vs → (∃ ps, SqL K H' p (ps.map V.ref) ∧ Paired (fun p kv => SqT K H' p [kV kv.1, kv.2]) ps (ks.zip vs)) → r vs H') → ∃ vs, ks.length = vs.length ∧ repL ms H' ds vs ∧ r vs H') → Q (.ref p) H') : LiI.rItemsL x H Q := rep_items w h q
end
end Rx
namespace Rx
open PySem PySem.Spec PyProof.Rows L2
section
variable {K : PySem.W.Frag} {ms ps : List Addr} {H0 H : Hp} {x : V}
theorem rep_gunl {ds : List D} {n : Nat} {Q : L2.St → Hp → Prop} {t : TGs} {σ : L2.St} (h : rep ms H (.lst ds) x) (hn : ds.length = n) (k : ∀ vs, repL ms H ds vs → t vs σ H Q) : ∃ a xs, x = .ref a ∧ SqL K H a xs ∧ xs.length = n ∧ t xs σ H Q := by
  simp only [rep] at h
  obtain ⟨p, vs, e, _, hp, hr⟩ := h
  exact ⟨p, vs, e, .inl (.inl hp), by rw [← repL_len hr]; exact hn, k vs hr⟩
theorem rep_iterE {ds : List D} {P : Addr → Prop} (h : rep ms H (.lst ds) x) (k : ∀ a xs, x = .ref a → a ∉ ms → H a = some (.lst xs) → repL ms H ds xs → P a) : ∃ (a : Addr) (xs : List V), [x] = [.ref a] ∧ SqL K H a xs ∧ P a := by
  simp only [rep] at h
  obtain ⟨p, vs, e, n, hp, hr⟩ := h
  exact ⟨p, vs, by rw [e], .inl (.inl hp), k p vs e n hp hr⟩
end
section
variable {α S : Type} {K : PySem.W.Frag} {H1 : Hp} {g : TG} {tb : TS} {D' : Ends} {σ : L2.St}
/-- a pair that is new at T -/
theorem rep_pair {ms : List Addr} {H H2 : Hp} {T : Addr} {d1 d2 : D} {v1 v2 : V} (tr : ∀ m ∈ ms, H m ≠ none) (nT : H T = none) (e : H2 = upd H T (.tup [v1, v2])) (h1 : rep ms H d1 v1) (h2 : rep ms H d2 v2) : rep ms H2 (.tup [d1, d2]) (.ref T) := by
  subst e
  simp only [rep]
  refine ⟨T, [v1, v2], rfl, fun z => tr T z nT, upd_same, ?_⟩
  exact repL_ext (Ext.new nT) (repL_cons h1 (repL_cons h2 repL_nil))
theorem for_enumG {items : List α} {e : α → D} {ms : List Addr} {a : Addr} {xs : List V} {body : (Int × α) → S → (S → Prop) → Prop} {KM : S → Prop} (SI : S → L2.St → Hp → Prop) (s0 : S) (an : a ∉ ms) (ha : H1 a = some (.lst xs)) (hx : repL ms H1 (items.map e) xs)
    (kp : ∀ s σ H, SI s σ H → Keep ms H1 H) (tr : ∀ s σ H, SI s σ H → ∀ m ∈ ms, H m ≠ none) (hM : forC body ((rangeI 0 (items.length : Int)).zip items) s0 KM) (h0 : SI s0 σ H1)
    (hs : ∀ (x : Int × α) (u : V) (s : S) (k : S → Prop) (σ : L2.St) (H H2 : Hp), SI s σ H → Ext H H2 → rep ms H2 (.tup [.v (.int x.1), e x.2]) u → body x s k → ∀ Nx : L2.St → Hp → Prop, (∀ s' σ' H', k s' → SI s' σ' H' → Nx σ' H') →
      g u σ H2 fun σ2 H2 => tb { D' with nx := Nx, ct := Nx, bk := D'.nx } σ2 H2)
    (hd : ∀ s σ H, KM s → SI s σ H → D'.nx σ H) :
    ∃ W : Nat → Nat → L2.St → Hp → Prop, (∃ m, W 0 m σ H1) ∧ ∀ i m σ H, W i m σ H →
      ((Ite K a).stop i H ∧ D'.nx σ H) ∨ ((Ite K a).go i H ∧ ∃ Nx : L2.St → Hp → Prop, (∀ σ' H', Nx σ' H' → ∃ m', m' < m ∧ W (i + 1) m' σ' H') ∧ ∀ x H', (Ite K a).yld i H x H' → g x σ H' fun σ2 H2 => tb { D' with nx := Nx, ct := Nx, bk := D'.nx } σ2 H2) := by
  have hl : items.length = xs.length := by
    have := repL_len hx
    rwa [List.length_map] at this
  have rl : (rangeI 0 (items.length : Int)).length = items.length := by rw [rangeI_len]; omega
  have zl : ((rangeI 0 (items.length : Int)).zip items).length = xs.length := by rw [List.length_zip, rl, hl, Nat.min_self]
  refine for_it (walk_enum (K := K) (a := a) (xs := xs)) (D := D') (fun i σ H => ∃ s, SI s σ H ∧ forC body (((rangeI 0 (items.length : Int)).zip items).drop i) s KM) ⟨s0, h0, hM⟩ (fun i σ H _ ⟨s, si, _⟩ => .inl (.inl (kp s σ H si a _ an ha))) (fun i u σ H H' hi ⟨s, si, q⟩ y => ?_) (fun σ H ⟨s, si, q⟩ => ?_)
  · obtain ⟨T, x1, x2, rfl, nT, eH, e1, e2⟩ := y
    have hit : items[i]? = some (items[i]'(by omega)) := List.getElem?_eq_getElem (by omega)
    have hz : ((rangeI 0 (items.length : Int)).zip items)[i]? = some ((i : Int), items[i]'(by omega)) := by
      rw [List.getElem?_zip_eq_some]
      exact ⟨by rw [rangeI_get (by omega)]; congr 1; omega, hit⟩
    rw [drop_cons' hz] at q
    obtain ⟨v, hv, rv⟩ := repL_get (repL_keep (kp s σ H si) hx) (j := i) (d := e (items[i]'(by omega))) (by rw [List.getElem?_map, hit]; rfl)
    have e2 : xs[i]? = some x2 := e2
    rw [e2] at hv
    have ev : x2 = v := Option.some.inj hv
    subst ev
    have ev1 : V.int (i : Nat) = x1 := Option.some.inj e1
    subst ev1
    have ex : Ext H H' := by rw [eH]; exact Ext.new nT
    exact hs ((i : Int), items[i]'(by omega)) (.ref T) s _ σ H H' si ex (rep_pair (tr s σ H si) nT eH rep_v rv) q _ fun s' σ' H'' hk si2 => ⟨s', si2, hk⟩
  · rw [List.drop_of_length_le (by omega)] at q
    exact hd s σ H q si
end
end Rx
namespace Rx
open PySem PySem.Spec PyProof.Rows L2
/-! dicts with any keys of one kind -/
section
variable {α κ : Type} [DecidableEq κ]
def putD (m : List (κ × α)) (k : κ) (y : α) : List (κ × α) := if (m.any fun q => decide (q.1 = k)) = true then m.map (fun q => if q.1 = k then (q.1, y) else q) else m ++ [(k, y)]
def getD (m : List (κ × α)) (k : κ) : Option α := (m.find? fun q => decide (q.1 = k)).map (·.2)
def hasD (m : List (κ × α)) (k : κ) : Bool := m.any fun q => decide (q.1 = k)
theorem zip_fst_any {k : κ} : ∀ {m : List (κ × α)} {vs : List V}, m.length = vs.length → (((m.map (·.1)).zip vs).any fun kv => decide (kv.1 = k)) = m.any fun q => decide (q.1 = k)
  | [], [], _ => rfl
  | q :: m, v :: vs, h => by
    rw [List.map_cons, List.zip_cons_cons, List.any_cons, List.any_cons, zip_fst_any (by simpa using h)]
  | [], _ :: _, h => by simp at h
  | _ :: _, [], h => by simp at h
theorem putK_map {k : κ} {y : α} {v : V} : ∀ {m : List (κ × α)} {vs : List V}, m.length = vs.length → ((m.map (·.1)).zip vs).map (fun kv => if kv.1 = k then (kv.1, v) else kv) = ((m.map (fun q => if q.1 = k then (q.1, y) else q)).map (·.1)).zip ((m.zip vs).map fun z => if z.1.1 = k then v else z.2)
  | [], [], _ => rfl
  | q :: m, w :: vs, h => by
    have ih := putK_map (k := k) (y := y) (v := v) (m := m) (vs := vs) (by simpa using h)
    rw [List.map_cons, List.zip_cons_cons, List.map_cons, ih, List.map_cons, List.map_cons, List.zip_cons_cons, List.map_cons, List.zip_cons_cons]
    by_cases e : q.1 = k
    · simp [e]
    · simp [e]
  | [], _ :: _, h => by simp at h
  | _ :: _, [], h => by simp at h
end
section
variable {α : Type} {K : PySem.W.Frag} {ms ps : List Addr} {H0 H : Hp} {L : Addr} {x : V} {e : α → D}
theorem repL_mapD {ms : List Addr} {H : Hp} {y : α} {v : V} {k : Key} (rv : rep ms H (e y) v) : ∀ {m : List (Key × α)} {vs : List V}, repL ms H (m.map fun q => e q.2) vs → repL ms H ((m.map (fun q => if q.1 = k then (q.1, y) else q)).map fun q => e q.2) ((m.zip vs).map fun z => if z.1.1 = k then v else z.2)
  | [], vs, h => by
    have := repL_empty h
    subst this
    exact repL_nil
  | q :: m, vs, h => by
    obtain ⟨u, us, rfl, h1, h2⟩ := repL_uncons h
    have ih := repL_mapD (y := y) (v := v) (k := k) rv h2
    by_cases c : q.1 = k
    · simp only [List.map_cons, List.zip_cons_cons, if_pos c]
      exact repL_cons rv ih
    · simp only [List.map_cons, List.zip_cons_cons, if_neg c]
      exact repL_cons h1 ih
/-- d[k] = v, the key new or not -/
theorem mo_putA {m : List (Key × α)} {k : Key} {y : α} {v : V} {Q : Hp → Prop} (mo : MutO ms ps H0 H L (.dct (m.map (·.1)) (m.map fun q => e q.2))) (rv : rep ms H (e y) v) (hk : m.length < 16777216)
    (q : ∀ vs, ((putD m k y).map (·.1)).length = vs.length → repL ms H ((putD m k y).map fun q => e q.2) vs → Q (upd H L (.dK (((putD m k y).map (·.1)).zip vs)))) : rSetD (.ref L) (kV k) v H Q := by
  obtain ⟨vs, h1, h2, h3⟩ := mo.val
  have hl : m.length = vs.length := by rw [← h2, List.length_map]
  refine ⟨L, _, rfl, DPut.k h1 ?_, ?_⟩
  · rw [List.length_zip, ← h2, sizeLine_eq, Nat.min_self, List.length_map]
    exact hk
  · unfold putK
    rw [zip_fst_any hl]
    unfold putD at q
    by_cases c : (m.any fun q => decide (q.1 = k)) = true
    · rw [if_pos c, putK_map (y := y) hl]
      rw [if_pos c] at q
      exact q _ (by simp [hl]) (repL_mapD rv h3)
    · rw [if_neg c]
      rw [if_neg c] at q
      have z : (m.map (·.1)).zip vs ++ [(k, v)] = ((m ++ [(k, y)]).map (·.1)).zip (vs ++ [v]) := by
        rw [List.map_append, List.zip_append h2]
        rfl
      rw [z]
      refine q _ (by simp [hl]) ?_
      rw [List.map_append]
      exact repL_app h3 (repL_one rv)
theorem valV_getD {ms : List Addr} {H : Hp} {k : Key} {y : α} : ∀ {m : List (Key × α)} {vs : List V}, repL ms H (m.map fun q => e q.2) vs → getD m k = some y → ∃ v, valV ((m.map (·.1)).zip vs) k = some v ∧ rep ms H (e y) v
  | [], _, _, h => by simp [getD] at h
  | q :: m, vs, r, h => by
    obtain ⟨u, us, rfl, h1, h2⟩ := repL_uncons r
    by_cases c : q.1 = k
    · have : q.2 = y := by simpa [getD, c] using h
      subst this
      exact ⟨u, valV_pos (p := (q.1, u)) c, h1⟩
    · have h' : getD m k = some y := by
        unfold getD at h ⊢
        rw [List.find?_cons_of_neg (by simpa using c)] at h
        exact h
      obtain ⟨v, hv, rv⟩ := valV_getD h2 h'
      exact ⟨v, by rw [List.map_cons, List.zip_cons_cons, valV_neg (p := (q.1, u)) c]; exact hv, rv⟩
theorem rep_dgetA {m : List (Key × α)} {k : Key} {y : α} {Q : VK} (h : rep ms H (.dct (m.map (·.1)) (m.map fun q => e q.2)) x) (hy : getD m k = some y) (q : ∀ v, rep ms H (e y) v → Q v H) :
    ∃ a v, x = .ref a ∧ DGet H a (kV k) (some v) ∧ Q v H := by
  simp only [rep] at h
  obtain ⟨p, vs, rfl, _, hp, hl, hr⟩ := h
  obtain ⟨v, hv, rv⟩ := valV_getD hr hy
  refine ⟨p, v, rfl, ?_, q v rv⟩
  have := DGet.k (k := k) hp
  rw [hv] at this
  exact this
theorem mo_dgetA {m : List (Key × α)} {k : Key} {y : α} {Q : VK} (mo : MutO ms ps H0 H L (.dct (m.map (·.1)) (m.map fun q => e q.2))) (hy : getD m k = some y) (q : ∀ v, rep ms H (e y) v → Q v H) :
    ∃ a v, V.ref L = .ref a ∧ DGet H a (kV k) (some v) ∧ Q v H := by
  obtain ⟨vs, hp, hl, hr⟩ := mo.val
  obtain ⟨v, hv, rv⟩ := valV_getD hr hy
  refine ⟨L, v, rfl, ?_, q v rv⟩
  have := DGet.k (k := k) hp
  rw [hv] at this
  exact this
end
section
variable {K : PySem.W.Frag} {ms : List Addr} {H : Hp} {x : V}
/-- an item of a list whose items are of several kinds -/
theorem rep_ixH {ds : List D} {d : D} {i : Int} {σ : L2.St} {Q : VK} (j : Nat) (h : rep ms H (.lst ds) x) (hi : i = (j : Int)) (hd : ds[j]? = some d) (q : ∀ v, rep ms H d v → Q v H) : tC (V.int i) σ H fun y H2 => rIxL K x y H2 Q := by
  simp only [rep] at h
  obtain ⟨p, vs, rfl, _, hp, hr⟩ := h
  obtain ⟨v, hv, rv⟩ := repL_get hr hd
  subst hi
  exact ⟨p, vs, _, v, rfl, rfl, .inl (.inl hp), atI_nat hv, q v rv⟩
end
/-! xs.index(x): numbers -/
theorem idxOf_le_of {w : Int} : ∀ {xs : List Int} {m : Nat}, xs[m]? = some w → xs.idxOf w ≤ m
  | [], _, h => by simp at h
  | x :: xs, 0, h => by
    have : x = w := Option.some.inj h
    subst this
    rw [List.idxOf_cons_self]
    exact Nat.le_refl 0
  | x :: xs, m + 1, h => by
    have ih := idxOf_le_of (xs := xs) (m := m) (by simpa using h)
    rw [List.idxOf_cons]
    cases x == w
    · show List.idxOf w xs + 1 ≤ m + 1
      omega
    · show 0 ≤ m + 1
      omega
def rIndexI (K : PySem.W.Frag) : V → List V → Hp → VK → Prop := rIndex K
theorem mt_indexK {X : Cx} {K : PySem.W.Frag} (hK : X.K = K) : MtR X "list.index" (rIndexI K) := by
  subst hK
  exact mt_index
theorem rep_indexI {K : PySem.W.Frag} {ms : List Addr} {H : Hp} {x : V} {xs : List Int} {n : Int} {Q : VK} (h : rep ms H (.lst (xs.map fun y => .v (.int y))) x) (hm : n ∈ xs) (q : Q (.int (xs.idxOf n : Int)) H) : rIndexI K x [.int n] H Q := by
  simp only [rep] at h
  obtain ⟨p, vs, rfl, _, hp, hr⟩ := h
  have ev : vs = xs.map V.int := by
    have := repL_flat (xs := xs.map V.int) (vs := vs) (ms := ms) (H := H)
    rw [List.map_map] at this
    exact this.mp hr
  subst ev
  have hl : xs.idxOf n < xs.length := List.idxOf_lt_length_iff.mpr hm
  have eqv : ∀ a b : Int, eqV (.int a) (.int b) = decide (a = b) := fun a b => by
    by_cases c : a = b
    · subst c
      rw [decide_eq_true rfl]
      show (a == a) = true
      exact beq_self_eq_true a
    · rw [decide_eq_false c]
      show (a == b) = false
      exact beq_eq_false_iff_ne.mpr c
  refine ⟨p, _, _, xs.idxOf n, .int n, rfl, rfl, .inl (.inl hp), rfl, ?_, ?_, ?_, ?_, q⟩
  · rw [List.all_eq_true]
    intro z hz
    obtain ⟨w, _, rfl⟩ := List.mem_map.mp hz
    rfl
  · rw [List.getElem?_map, List.getElem?_eq_getElem hl, List.getElem_idxOf hl]
    rfl
  · rw [eqv, decide_eq_true rfl]
  · intro m z' hm' hz
    rw [List.getElem?_map] at hz
    obtain ⟨w, hw, rfl⟩ := Option.map_eq_some_iff.mp hz
    rw [eqv]
    refine decide_eq_false fun c => ?_
    subst c
    have := idxOf_le_of hw
    omega
theorem rep_indexIC {K : PySem.W.Frag} {ms : List Addr} {H : Hp} {x : V} {xs : List Int} {n : Int} {σ : L2.St} {Q : VK} (h : rep ms H (.lst (xs.map fun y => .v (.int y))) x) (hm : n ∈ xs) (q : Q (.int (xs.idxOf n : Int)) H) : tCons (tC (V.int n)) tNil σ H fun ys H2 => rIndexI K x ys H2 Q := rep_indexI (K := K) (Q := Q) h hm q
end Rx
namespace Rx
open PySem PySem.Spec PyProof.Rows L2
theorem units65 {k : Nat} {A : Around} (r : Room k A) : A.units + 65 < cLine := by
  have := r.un
  omega
def tyN : D → String
  | .v (.bl _) => "bool"
  | .v (.int _) => "int"
  | .v (.str _) => "str"
  | .v _ => "NoneType"
  | .lst _ => "list"
  | .tup _ => "tuple"
  | .dct _ _ => "dict"
  | .dcT _ _ => "dict"
  | .ins _ _ _ => "object"
def tyOk : D → Bool
  | .v .non => true
  | .v (.bl _) => true
  | .v (.int _) => true
  | .v (.str _) => true
  | .v _ => false
  | .ins _ _ _ => false
  | _ => true
section
variable {K : PySem.W.Frag} {ms ps : List Addr} {H0 H : Hp} {d : D} {u x : V}
theorem rep_TyN (h : rep ms H d u) (n : tyOk d = true) {T : String} (e : tyN d = T) : TyX K H u (.type T) := by
  subst e
  cases d with
  | v x =>
    obtain rfl := of_v h
    cases u <;> simp only [tyOk] at n
    · exact .base .non
    · exact .base (.bl _)
    · exact .base (.int _)
    · exact .base (.str _)
    all_goals cases n
  | lst ds =>
    simp only [rep] at h
    obtain ⟨p, vs, rfl, _, hp, _⟩ := h
    exact .base (.lst hp)
  | tup ds =>
    simp only [rep] at h
    obtain ⟨p, vs, rfl, _, hp, _⟩ := h
    exact .base (.tup hp)
  | dct ks ds =>
    simp only [rep] at h
    obtain ⟨p, vs, rfl, _, hp, _⟩ := h
    exact .base (.dK hp)
  | dcT ks ds =>
    simp only [rep] at h
    obtain ⟨p, vs, rfl, _, hp, _⟩ := h
    exact .base (.dT hp)
  | ins _ _ _ => cases n
theorem call_isiTK {X : Cx} (hK : X.K = K) : CallR X (.builtin "isinstance") (rIsiT K) := by
  subst hK
  exact call_isiT
theorem rep_isi1 {a b : String} {r : Bool} {P : Bool → Prop} (h : rep ms H d u) (n : tyOk d = true) (e : tyN d = a) (k : kitB a b = some r) (q : P r) :
    ∃ (x' c : V) (t u' : Value) (b' : Bool), [u, .ty b] = [x', c] ∧ ClsV c u' ∧ TyX K H x' t ∧ PySem.W.kitOne K t u' = some b' ∧ P b' :=
  ⟨u, .ty b, .type a, .type b, r, rfl, .ty b, rep_TyN h n e, kit_ty k, q⟩
theorem rep_isi2 {a b c : String} {r1 r2 : Bool} {tp : Addr} {P : Bool → Prop} (h : rep ms H d u) (n : tyOk d = true) (e : tyN d = a) (ht : H tp = some (.tup [.ty b, .ty c])) (k1 : kitB a b = some r1) (k2 : kitB a c = some r2) (q : P (r1 || r2)) :
    ∃ (x : V) (tp' : Addr) (cs : List V) (t : Value) (us : List Value) (b' : Bool), [u, .ref tp] = [x, .ref tp'] ∧ H tp' = some (.tup cs) ∧ Paired ClsV cs us ∧ TyX K H x t ∧ PySem.W.kitAny K t us = some b' ∧ P b' := by
  refine ⟨u, tp, [.ty b, .ty c], .type a, [.type b, .type c], r1 || r2, rfl, ht, .cons (.ty b) (.cons (.ty c) .nil), rep_TyN h n e, ?_, q⟩
  refine kitAny_cons (kit_ty k1) (fun e1 => ?_) (fun e1 => by rw [e1]; rfl)
  refine kitAny_cons (kit_ty k2) (fun e2 => ?_) (fun e2 => by rw [e2, Bool.or_true])
  rw [e1, e2]
  rfl
/-- t[:j], not the whole -/
theorem sl_tupK {X : Cx} (hK : X.K = K) : SlR X (rSlT K) := by
  subst hK
  exact sl_tup
theorem repL_takeD : ∀ (j : Nat) {ds : List D} {vs : List V}, repL ms H ds vs → repL ms H (ds.take j) (vs.take j)
  | 0, _, _, _ => repL_nil
  | j + 1, [], vs, h => by
    have := repL_empty h
    subst this
    exact repL_nil
  | j + 1, d :: ds, vs, h => by
    obtain ⟨u, us, rfl, h1, h2⟩ := repL_uncons h
    exact repL_cons h1 (repL_takeD j h2)
theorem rep_slT {ds : List D} {Q : VK} (j : Nat) (h : rep ms H (.tup ds) x) (hj : j < ds.length) (k : ∀ vs, repL ms H (ds.take j) vs → ∀ p, H p = none → Q (.ref p) (upd H p (.tup vs))) : rSlT K x none (some (j : Int)) H Q := by
  simp only [rep] at h
  obtain ⟨p, vs, rfl, _, hp, hr⟩ := h
  have hl := repL_len hr
  have e1 : HT.sIx vs.length vs.length (some (j : Int)) = j := by
    rw [HT.sIx_nat]
    omega
  refine ⟨p, vs, rfl, .inl (.inl hp), fun z => ?_, fun q hq => ?_⟩
  · rw [e1] at z
    omega
  · have e : cutV vs none (some (j : Int)) = vs.take j := by
      unfold cutV
      rw [e1, HT.sIx_none, List.drop_zero, Nat.sub_zero]
    rw [e]
    exact k _ (repL_takeD j hr) q hq
theorem rep_lenT {ds : List D} {n : Nat} {P : Nat → Prop} (h : rep ms H (.tup ds) x) (hn : ds.length = n) (q : P n) : ∃ (y : V) (m : Nat), [x] = [y] ∧ LenV K y H m ∧ P m := by
  simp only [rep] at h
  obtain ⟨p, vs, rfl, _, hp, hr⟩ := h
  exact ⟨_, vs.length, rfl, .inr ⟨vs, .inl (.inl hp), rfl⟩, by rw [← repL_len hr, hn]; exact q⟩
/-! x in a list of data -/
theorem op_inDK {X : Cx} (hK : X.K = K) (hu : X.A.units + 65 < cLine) : OpR X (compareOp .In) (rInD K) := by
  subst hK
  exact op_inD hu
theorem op_ninDK {X : Cx} (hK : X.K = K) (hu : X.A.units + 65 < cLine) : OpR X (compareOp .NotIn) (rNotInD K) := by
  subst hK
  exact op_notInD hu
def inDv (d : D) (es : List D) : Bool := (pyL es).any fun z => PyData.eqv z (pyOf d)
theorem rep_inD {es : List D} {y : V} {Q : VK} (h1 : rep ms H d x) (h2 : rep ms H (.lst es) y) (p1 : plainD d = true) (p2 : plainD (.lst es) = true) (s1 : SeqAt.shaped (pyOf d) = true) (s2 : SeqAt.shaped (pyOf (.lst es)) = true) (q : Q (.bl (inDv d es)) H) : rInD K x y H Q :=
  ⟨pyOf d, pyL es, dp_of d x p1 h1, by have := dp_of (K := K) (.lst es) y p2 h2; simpa only [pyOf] using this, s1, by simpa only [pyOf] using s2, q⟩
theorem rep_ninD {es : List D} {y : V} {Q : VK} (h1 : rep ms H d x) (h2 : rep ms H (.lst es) y) (p1 : plainD d = true) (p2 : plainD (.lst es) = true) (s1 : SeqAt.shaped (pyOf d) = true) (s2 : SeqAt.shaped (pyOf (.lst es)) = true) (q : Q (.bl (!inDv d es)) H) : rNotInD K x y H Q :=
  ⟨pyOf d, pyL es, dp_of d x p1 h1, by have := dp_of (K := K) (.lst es) y p2 h2; simpa only [pyOf] using this, s1, by simpa only [pyOf] using s2, q⟩
end
/-! dicts whose keys are tuples -/
section
variable {α : Type} {K : PySem.W.Frag} {ms ps : List Addr} {H0 H : Hp} {L : Addr} {x kx : V} {e : α → D}
theorem mo_nilT (w : Wd ms ps [] H0 H) (nl : H L = none) : MutO (L :: ms) ps H0 (upd H L (.dT [])) L (.dcT (([] : List (List Key × α)).map (·.1)) (([] : List (List Key × α)).map fun q => e q.2)) where
  im := List.mem_cons_self
  hp := fun z => w.tr L (w.pm L z) nl
  h0 := by
    cases h : H0 L with
    | none => rfl
    | some o => exact absurd nl (w.grow L (by rw [h]; exact fun z => nomatch z))
  val := ⟨[], upd_same, rfl, repL_nil⟩
theorem key_tup {ks : List Key} {ds : List D} (h : rep ms H (.tup ds) kx) (hd : ds = ks.map fun k => D.v (kV k)) : ∃ b, kx = .ref b ∧ H b = some (.tup (ks.map kV)) := by
  subst hd
  simp only [rep] at h
  obtain ⟨p, vs, rfl, _, hp, hr⟩ := h
  have : vs = ks.map kV := by
    have q := repL_flat (xs := ks.map kV) (vs := vs) (ms := ms) (H := H)
    rw [List.map_map] at q
    exact q.mp hr
  subst this
  exact ⟨p, rfl, hp⟩
theorem valV_hasT {m : List (List Key × α)} {vs : List V} (h : repL ms H (m.map fun q => e q.2) vs) (k : List Key) : (valV ((m.map (·.1)).zip vs) k).isSome = hasD m k := by
  have hl := repL_len h
  rw [List.length_map] at hl
  rw [← valV_any, zip_fst_any hl]
  rfl
/-- k in d -/
theorem mo_hasT {m : List (List Key × α)} {ks : List Key} {ds : List D} {P : Option V → Prop} (mo : MutO ms ps H0 H L (.dcT (m.map (·.1)) (m.map fun q => e q.2))) (hk : rep ms H (.tup ds) kx) (hd : ds = ks.map fun k => D.v (kV k)) (q : ∀ o : Option V, o.isSome = hasD m ks → P o) :
    ∃ (a : Addr) (o : Option V), V.ref L = .ref a ∧ DGet H a kx o ∧ P o := by
  obtain ⟨vs, hp, hl, hr⟩ := mo.val
  obtain ⟨b, rfl, hb⟩ := key_tup hk hd
  exact ⟨L, _, rfl, DGet.t hp hb, q _ (valV_hasT hr ks)⟩
theorem repL_mapT {y : α} {v : V} {k : List Key} (rv : rep ms H (e y) v) : ∀ {m : List (List Key × α)} {vs : List V}, repL ms H (m.map fun q => e q.2) vs → repL ms H ((m.map (fun q => if q.1 = k then (q.1, y) else q)).map fun q => e q.2) ((m.zip vs).map fun z => if z.1.1 = k then v else z.2)
  | [], vs, h => by
    have := repL_empty h
    subst this
    exact repL_nil
  | q :: m, vs, h => by
    obtain ⟨u, us, rfl, h1, h2⟩ := repL_uncons h
    have ih := repL_mapT (y := y) (v := v) (k := k) rv h2
    by_cases c : q.1 = k
    · simp only [List.map_cons, List.zip_cons_cons, if_pos c]
      exact repL_cons rv ih
    · simp only [List.map_cons, List.zip_cons_cons, if_neg c]
      exact repL_cons h1 ih
theorem mo_putT {m : List (List Key × α)} {ks : List Key} {ds : List D} {y : α} {v : V} {Q : Hp → Prop} (mo : MutO ms ps H0 H L (.dcT (m.map (·.1)) (m.map fun q => e q.2))) (hk : rep ms H (.tup ds) kx) (hd : ds = ks.map fun k => D.v (kV k)) (rv : rep ms H (e y) v) (hs : m.length < 16777216)
    (q : ∀ vs, ((putD m ks y).map (·.1)).length = vs.length → repL ms H ((putD m ks y).map fun q => e q.2) vs → Q (upd H L (.dT (((putD m ks y).map (·.1)).zip vs)))) : rSetD (.ref L) kx v H Q := by
  obtain ⟨vs, h1, h2, h3⟩ := mo.val
  obtain ⟨b, rfl, hb⟩ := key_tup hk hd
  have hl : m.length = vs.length := by rw [← h2, List.length_map]
  refine ⟨L, _, rfl, DPut.t h1 hb ?_, ?_⟩
  · rw [List.length_zip, ← h2, sizeLine_eq, Nat.min_self, List.length_map]
    exact hs
  · unfold putK
    rw [zip_fst_any hl]
    unfold putD at q
    by_cases c : (m.any fun q => decide (q.1 = ks)) = true
    · rw [if_pos c, putK_map (y := y) hl]
      rw [if_pos c] at q
      exact q _ (by simp [hl]) (repL_mapT rv h3)
    · rw [if_neg c]
      rw [if_neg c] at q
      have z : (m.map (·.1)).zip vs ++ [(ks, v)] = ((m ++ [(ks, y)]).map (·.1)).zip (vs ++ [v]) := by
        rw [List.map_append, List.zip_append h2]
        rfl
      rw [z]
      refine q _ (by simp [hl]) ?_
      rw [List.map_append]
      exact repL_app h3 (repL_one rv)
theorem mo_setT {ks : List (List Key)} {vs : List V} {ds : List D} {d : D} (m : MutO ms ps H0 H L d) (hl : ks.length = vs.length) (r : repL ms H ds vs) : MutO ms ps H0 (upd H L (.dT (ks.zip vs))) L (.dcT ks ds) :=
  ⟨m.im, m.hp, m.h0, vs, upd_same, hl, repL_put m.im r⟩
end
/-! sorted(xs), ints; tuple(xs) -/
section
variable {K : PySem.W.Frag} {ms ps : List Addr} {H0 H : Hp} {x : V}
theorem cr_sortedIK {X : Cx} (hK : X.K = K) : CallR X (.builtin "sorted") (rSortedI K) := by
  subst hK
  exact cr_sortedI
theorem rep_sortI {xs : List Int} {P : List Int → Addr → Prop} (h : rep ms H (.lst (xs.map fun y => .v (.int y))) x) (q : ∀ ys : List Int, ys.Perm xs → ys.Pairwise (· ≤ ·) → ∀ p, H p = none → P ys p) :
    ∃ (a : Addr) (ns : List Int), [x] = [V.ref a] ∧ SqL K H a (ns.map V.int) ∧ ∀ (ns' : List Int) (p : Addr), ns'.Perm ns → ns'.Pairwise (· ≤ ·) → H p = none → P ns' p := by
  simp only [rep] at h
  obtain ⟨p, vs, rfl, _, hp, hr⟩ := h
  have ev : vs = xs.map V.int := by
    have := repL_flat (xs := xs.map V.int) (vs := vs) (ms := ms) (H := H)
    rw [List.map_map] at this
    exact this.mp hr
  subst ev
  exact ⟨p, xs, rfl, .inl (.inl hp), fun ys q1 a b c => q ys a b q1 c⟩
theorem call_tuple_ofK {X : Cx} (hK : X.K = K) : CallR X (.type "tuple") (fun xs H Q => ∃ p ys, xs = [.ref p] ∧ ((SqL K H p ys ∧ ∀ l, H l = none → Q (.ref l) (upd H l (.tup ys))) ∨ (SqT K H p ys ∧ Q (.ref p) H))) := by
  subst hK
  exact call_tuple_of
theorem rep_tupOf {ds : List D} {P : List V → Addr → Prop} {R : Addr → Prop} (h : rep ms H (.lst ds) x) (q : ∀ ys, repL ms H ds ys → ∀ l, H l = none → P ys l) : ∃ p ys, [x] = [V.ref p] ∧ ((SqL K H p ys ∧ ∀ l, H l = none → P ys l) ∨ (SqT K H p ys ∧ R p)) := by
  simp only [rep] at h
  obtain ⟨p, vs, rfl, _, hp, hr⟩ := h
  exact ⟨p, vs, rfl, .inl ⟨.inl (.inl hp), q vs hr⟩⟩
end
end Rx
namespace Rx
open PySem PySem.Spec PyProof.Rows L2
section
variable {prog : Program} {w : World} {A : Around} {E : Value → Shared → Prop} {s : Shared}
/-- a triple that stands in the heap -/
def Trip (h : Heap) (v : Value) (k : Int × Int × Str) : Prop := ∃ (a : Addr) (o : Obj) (t1 t2 t3 : Tok) (n : Nat), v = Value.ref a ∧ h.get? a = some o ∧ o.cls = .type "tuple" ∧ o.data = .seq #[.int k.1 t1, .int k.2.1 t2, .str k.2.2 t3] n
def lxT (k l : Int × Int × Str) : Bool := SrtO.lexB (k.1, k.2.1) (l.1, l.2.1)
theorem lxT_swo (k : Value → Int × Int × Str) : SrtO.Swo fun v u => lxT (k v) (k u) := SrtO.swo_lex fun v => ((k v).1, (k v).2.1)
theorem Trip.moved {h h' : Heap} {v : Value} {k : Int × Int × Str} (t : Trip h v k) (kp : ∀ b o, h.get? b = some o → o.cls = .type "tuple" → h'.get? b = some o) : Trip h' v k := by
  obtain ⟨a, o, t1, t2, t3, n, e, ho, hc, hd⟩ := t
  exact ⟨a, o, t1, t2, t3, n, e, kp a o ho hc, hc, hd⟩
theorem trip_lt {vs : List Value} {k : Value → Int × Int × Str} (hp : ∀ v ∈ vs, Trip s.heap v (k v)) (hu : ∀ v ∈ vs, ∀ u ∈ vs, (k v).1 = (k u).1 → (k v).2.1 = (k u).2.1 → (k v).2.2 = (k u).2.2) :
    SrtO.Cmp prog w A s (tuples' true) (fun p => p.1 ∈ vs) (SrtO.lt2 fun v u => lxT (k v) (k u)) := by
  intro p q m1 m2
  have uq := hu _ m1 _ m2
  obtain ⟨a1, o1, x1, y1, z1, n1, e1, g1, c1, d1⟩ := hp _ m1
  obtain ⟨a2, o2, x2, y2, z2, n2, e2, g2, c2, d2⟩ := hp _ m2
  show wpAny (model prog w) A (keyLt' (tuples' true) p.1 q.1) (fun b s2 => s2 = s ∧ b = lxT (k p.1) (k q.1)) (fun _ _ => False) s
  unfold lxT SrtO.lexB
  generalize k p.1 = kp at *
  generalize k q.1 = kq at *
  obtain ⟨i, j, c⟩ := kp
  obtain ⟨i2, j2, c2'⟩ := kq
  simp only at uq d1 d2 ⊢
  rw [e1, e2]
  refine PySem.W.kat_lt g1 d1 g2 d2 ?_
  show PySem.W.KatLex prog w A true (decide (3 < 3)) _ [(Value.int i x1, Value.int i2 x2), (Value.int j y1, Value.int j2 y2), (Value.str c z1, Value.str c2' z2)] 0 s
  refine PySem.W.kat_cons (SeqAt.EqAt.int_int i x1 i2 x2 prog w _ _ (PySem.W.kat_go (fun f1 => ?_) fun f1 => ?_))
  · obtain rfl : i = i2 := by simpa using f1
    refine PySem.W.kat_yes (PySem.W.kat_cons (SeqAt.EqAt.int_int j y1 j2 y2 prog w _ _ (PySem.W.kat_go (fun f2 => ?_) fun f2 => ?_)))
    · obtain rfl : j = j2 := by simpa using f2
      obtain rfl : c = c2' := uq rfl rfl
      refine PySem.W.kat_yes (PySem.W.kat_cons (SeqAt.EqAt.str_str c z1 c z2 prog w _ _ (PySem.W.kat_go (fun _ => ?_) fun f3 => ?_)))
      · refine PySem.W.kat_yes (PySem.W.kat_nil ⟨rfl, ?_⟩)
        rw [if_pos rfl]
        exact (decide_eq_false (Int.lt_irrefl j)).symm
      · exact absurd f3 (by simp)
    · refine PySem.W.kat_no (PySem.W.kat_one _ _ (PyProof.Rows.lt_int ?_))
      exact ⟨rfl, (if_pos rfl).symm⟩
  · have ne : ¬ i = i2 := by simpa using f1
    exact PySem.W.kat_no (oneLt_int ⟨rfl, (if_neg ne).symm⟩)
end
section
variable {prog : Program} {w : World} {A : Around} {E : Value → Shared → Prop} {s : Shared}
theorem trip_sorted {l : Addr} {vs : List Value} {k : Value → Int × Int × Str} {Q : Value → Shared → Prop} (hl : s.heap.IsList l vs.toArray) (hz : vs.length ≤ sizeLine) (hp : ∀ v ∈ vs, Trip s.heap v (k v))
    (hu : ∀ v ∈ vs, ∀ u ∈ vs, (k v).1 = (k u).1 → (k v).2.1 = (k u).2.1 → (k v).2.2 = (k u).2.2)
    (fin : ∀ (h2 : Heap) (d : Addr) (zs : List Value), SrtO.Srtd (fun v u => lxT (k v) (k u)) zs → SrtO.Stb (fun v u => lxT (k v) (k u)) zs vs → (∀ b o, s.heap.get? b = some o → h2.get? b = some o) → s.heap.objs.size ≤ d → (∃ n, h2.get? d = some (seqObj "list" zs.toArray n)) → Q (.ref d) { s with heap := h2 }) :
    wpAny (model prog w) A (call (.builtin "sorted") [.ref l]) Q E s := by
  refine SrtO.sorted_ord (lxT_swo k) hl hz (fun two g b hb keepb => ?_) fun zs z1 z2 => fin _ _ zs z1 z2 (fun b o e => sortedAll_old e) (Nat.le_succ _) (sortedAll_at s.heap vs zs.toArray)
  intro g2 keep2
  have nb : ∀ o, g.get? b = some o → o.cls ≠ .type "tuple" := fun o e c => by
    rw [hb] at e
    cases e
    exact absurd (Value.type.inj c) (by decide)
  have tp : ∀ v ∈ vs, Trip g2 v (k v) := fun v hv => (hp v hv).moved fun c o e ct => keep2 c o (fun z => by subst z; exact nb o (keepb _ o e).2 ct) (keepb c o e).2
  have tups : ∀ us : List Value, (∀ v ∈ us, Trip g2 v (k v)) → ∃ fs : List Value, PySem.W.KatTups g2 us fs ∧ fs.length = us.length ∧ ∀ f ∈ fs, ∃ i t, f = Value.int i t := by
    intro us
    induction us with
    | nil => exact fun _ => ⟨[], .nil, rfl, fun f h => absurd h List.not_mem_nil⟩
    | cons v us ih =>
      intro hv
      obtain ⟨fs, f1, f2, f3⟩ := ih fun x hx => hv x (List.mem_cons_of_mem _ hx)
      obtain ⟨a, o, t1, t2, t3, n, e, ho, hc, hd⟩ := hv v List.mem_cons_self
      subst e
      refine ⟨.int (k (.ref a)).1 t1 :: fs, .cons ho hc hd rfl f1, by rw [List.length_cons, List.length_cons, f2], fun f hf => ?_⟩
      rcases List.mem_cons.mp hf with rfl | hf
      · exact ⟨_, _, rfl⟩
      · exact f3 f hf
  obtain ⟨fs, f1, f2, f3⟩ := tups vs tp
  refine ⟨tuples' true, fun Q' E' hq => ?_, trip_lt (s := { s with heap := g2 }) tp hu⟩
  refine PySem.W.kat_kind (s := { s with heap := g2 }) (T := .type "int") f1 (by omega) (fun f hf => ?_) (by rfl) ?_
  · obtain ⟨i, t, rfl⟩ := f3 f hf
    exact PySem.W.Looks.now
  · rw [show (Value.type "int" != Value.type "tuple") = true by first | decide +kernel | rfl]
    exact hq
end
/-- sorted(xs), xs triples that their first two parts tell apart -/
def rSortTr (K : PySem.W.Frag) : List V → Hp → VK → Prop := fun vs H Q => ∃ (a : Addr) (xs : List V) (k : V → Int × Int × Str), vs = [V.ref a] ∧ SqL K H a xs ∧ (∀ x ∈ xs, ∃ t, x = V.ref t ∧ H t = some (.tup [.int (k x).1, .int (k x).2.1, .str (k x).2.2])) ∧
  (∀ x ∈ xs, ∀ y ∈ xs, (k x).1 = (k y).1 → (k x).2.1 = (k y).2.1 → (k x).2.2 = (k y).2.2) ∧ ∀ zs p, zs.Perm xs → zs.Pairwise (fun x y => lxT (k y) (k x) = false) → H p = none → Q (.ref p) (upd H p (.lst zs))
theorem cr_sortTr {X : Cx} {K : PySem.W.Frag} (hK : X.K = K) : CallR X (.builtin "sorted") (rSortTr K) := by
  subst hK
  intro pins s σ H args us Q I rr hyp
  obtain ⟨a, xs, k, rfl, hs, ht, hu, q⟩ := hyp
  obtain ⟨its, rv, isl, small⟩ := I.list hs
  obtain ⟨u0, rfl, r0⟩ := vals1 rr
  obtain rfl : u0 = Value.ref a := r0
  obtain ⟨exs, refs⟩ := refs_back rv fun x hx => by
    obtain ⟨t, e, _⟩ := ht x hx
    exact ⟨t, e⟩
  have inx : ∀ v ∈ its, backV v ∈ xs := fun v hv => by
    rw [exs]
    exact List.mem_map.mpr ⟨v, hv, rfl⟩
  refine trip_sorted (k := fun v => k (backV v)) isl.isList (by rw [← rv.length]; exact small) (fun v hv => ?_) (fun v hv u hu' => hu _ (inx v hv) _ (inx u hu')) fun h2 d zs z1 z2 kp hd hn => ?_
  · obtain ⟨t, rfl⟩ := refs v hv
    obtain ⟨t2, e2, at2⟩ := ht _ (inx _ hv)
    cases e2
    obtain ⟨_, parts, rp, o, ho, hc, n, hd⟩ := I.hok _ _ at2
    cases rp with
    | cons r1 rp =>
      obtain ⟨w2, w3, rfl, r2, r3⟩ := vals2 rp
      obtain ⟨k1, rfl⟩ := r1
      obtain ⟨k2, rfl⟩ := r2
      obtain ⟨k3, rfl⟩ := r3
      exact ⟨t, o, k1, k2, k3, n, rfl, ho, hc, hd⟩
  · have zr : ∀ v ∈ zs, ∃ b, v = Value.ref b := fun v hv => refs v (z2.perm.mem_iff.mp hv)
    obtain ⟨n, hn⟩ := hn
    have pm : (zs.map backV).Perm xs := by
      rw [exs]
      exact z2.perm.map backV
    refine ⟨.ref d, upd H d (.lst (zs.map backV)), I.laid (t' := s.toks) kp hd ⟨?_, zs, n, vals_back zr, hn⟩, rfl, q _ d pm ?_ (I.hok.fresh hd)⟩
    · rw [pm.length_eq]
      exact small
    · exact List.pairwise_map.mpr z1
section
variable {K : PySem.W.Frag} {ms : List Addr} {H : Hp} {x : V}
abbrev encTr (y : Int × Int × Str) : D := D.tup [D.v (V.int y.1), D.v (V.int y.2.1), D.v (V.str y.2.2)]
def keyAt (H : Hp) : V → Int × Int × Str
  | .ref t => match H t with
    | some (.tup [.int i, .int j, .str c]) => (i, j, c)
    | _ => (0, 0, Str.empty)
  | _ => (0, 0, Str.empty)
theorem rep_tr {y : Int × Int × Str} {v : V} (h : rep ms H (encTr y) v) : keyAt H v = y ∧ ∃ t, v = .ref t ∧ H t = some (.tup [.int y.1, .int y.2.1, .str y.2.2]) := by
  simp only [rep] at h
  obtain ⟨p, vs, rfl, _, hp, hr⟩ := h
  obtain ⟨u1, r1, rfl, h1, hr⟩ := repL_uncons hr
  obtain ⟨u2, r2, rfl, h2, hr⟩ := repL_uncons hr
  obtain ⟨u3, r3, rfl, h3, hr⟩ := repL_uncons hr
  obtain rfl := repL_empty hr
  obtain rfl := of_v h1
  obtain rfl := of_v h2
  obtain rfl := of_v h3
  refine ⟨?_, p, rfl, hp⟩
  unfold keyAt
  simp only [hp]
theorem repL_keys : ∀ {xs : List (Int × Int × Str)} {vs : List V}, repL ms H (xs.map encTr) vs → vs.map (keyAt H) = xs ∧ ∀ v ∈ vs, rep ms H (encTr (keyAt H v)) v
  | [], vs, h => by
    obtain rfl := repL_empty h
    exact ⟨rfl, fun v hv => absurd hv List.not_mem_nil⟩
  | y :: xs, vs, h => by
    obtain ⟨u, us, rfl, h1, h2⟩ := repL_uncons h
    obtain ⟨e, f⟩ := repL_keys h2
    have k1 := (rep_tr h1).1
    refine ⟨by rw [List.map_cons, e, k1], fun v hv => ?_⟩
    rcases List.mem_cons.mp hv with rfl | hv
    · rw [k1]
      exact h1
    · exact f v hv
theorem repL_of_keys : ∀ {vs : List V}, (∀ v ∈ vs, rep ms H (encTr (keyAt H v)) v) → repL ms H ((vs.map (keyAt H)).map encTr) vs
  | [], _ => repL_nil
  | v :: vs, h => repL_cons (h v List.mem_cons_self) (repL_of_keys fun u hu => h u (List.mem_cons_of_mem _ hu))
theorem rep_sortTr {xs : List (Int × Int × Str)} {P : List V → Addr → Prop} (h : rep ms H (.lst (xs.map encTr)) x) (uq : ∀ a ∈ xs, ∀ b ∈ xs, a.1 = b.1 → a.2.1 = b.2.1 → a.2.2 = b.2.2)
    (q : ∀ (ys : List (Int × Int × Str)) (zs : List V), ys.Perm xs → ys.Pairwise (fun a b => lxT b a = false) → repL ms H (ys.map encTr) zs → ∀ p, H p = none → P zs p) :
    ∃ (a : Addr) (vs : List V) (k : V → Int × Int × Str), [x] = [V.ref a] ∧ SqL K H a vs ∧ (∀ x ∈ vs, ∃ t, x = V.ref t ∧ H t = some (.tup [.int (k x).1, .int (k x).2.1, .str (k x).2.2])) ∧
      (∀ x ∈ vs, ∀ y ∈ vs, (k x).1 = (k y).1 → (k x).2.1 = (k y).2.1 → (k x).2.2 = (k y).2.2) ∧ ∀ (zs : List V) (p : Addr), zs.Perm vs → zs.Pairwise (fun x y => lxT (k y) (k x) = false) → H p = none → P zs p := by
  simp only [rep] at h
  obtain ⟨p, vs, rfl, _, hp, hr⟩ := h
  obtain ⟨e, f⟩ := repL_keys hr
  have mem : ∀ v ∈ vs, keyAt H v ∈ xs := fun v hv => by
    rw [← e]
    exact List.mem_map.mpr ⟨v, hv, rfl⟩
  refine ⟨p, vs, keyAt H, rfl, .inl (.inl hp), fun v hv => (rep_tr (f v hv)).2, fun v hv u hu => uq _ (mem v hv) _ (mem u hu), fun zs l pm srt nl => ?_⟩
  refine q (zs.map (keyAt H)) zs ?_ ?_ (repL_of_keys fun v hv => f v (pm.mem_iff.mp hv)) l nl
  · rw [← e]
    exact pm.map _
  · exact List.pairwise_map.mpr srt
end
/-! comprehensions over a list of one's own, which stays -/
section
variable {α β : Type} {K : PySem.W.Frag} {H1 : Hp} {g : TG} {tt : TT} {te : TE} {vl : List Nat} {σ : L2.St} {Qd : Hp → Prop} {L : Addr}
theorem mo_item {ms ps : List Addr} {H0 H : Hp} {a : Addr} {items : List α} {e : α → D} (m : MutO ms ps H0 H a (.lst (items.map e))) : ∃ vs, H a = some (.lst vs) ∧ vs.length = items.length ∧ ∀ (i : Nat) (it : α), items[i]? = some it → ∃ v, vs[i]? = some v ∧ rep ms H (e it) v := by
  obtain ⟨vs, h1, h2⟩ := m.val
  have hl := repL_len h2
  rw [List.length_map] at hl
  exact ⟨vs, h1, hl.symm, fun i it hi => repL_get h2 (by rw [List.getElem?_map, hi]; rfl)⟩
theorem mo_iter {ms ps : List Addr} {H0 H : Hp} {a : Addr} {ds : List D} {P : Addr → Prop} (m : MutO ms ps H0 H a (.lst ds)) (k : P a) : ∃ b, V.ref a = .ref b ∧ (∃ xs, SqL K H b xs) ∧ P b := by
  obtain ⟨vs, h1, _⟩ := m.val
  exact ⟨a, rfl, ⟨vs, .inl (.inl h1)⟩, k⟩
theorem lc_mutG {items : List α} {e : α → D} {ms ps : List Addr} {H0 : Hp} {a : Addr} {body : α → (β → Prop) → Prop} {KM : List β → Prop} (SI : Nat → List β → Hp → Prop)
    (mo : ∀ n ys H, SI n ys H → MutO (L :: ms) ps H0 H a (.lst (items.map e))) (hM : items.length < 100000 ∧ mapC body items [] KM) (h0 : SI 0 [] (upd H1 L (.lst [])))
    (hs : ∀ (x : α) (u : V) (n : Nat) (ys : List β) (k : β → Prop) (H : Hp), n < 100000 → SI n ys H → rep (L :: ms) H (e x) u → body x k → ∀ Nx : Hp → Prop, (∀ y H', k y → SI (n + 1) (ys ++ [y]) H' → Nx H') → Turn g tt te vl σ L u H Nx)
    (hd : ∀ n ys H, KM ys → SI n ys H → Qd H) :
    ∃ W : Nat → Nat → Hp → Prop, (∃ m, W 0 m (upd H1 L (.lst []))) ∧ ∀ i m H, W i m H →
      ((Itl K a).stop i H ∧ Qd H) ∨ ((Itl K a).go i H ∧ ∃ Nx : Hp → Prop, (∀ H', Nx H' → ∃ m', m' < m ∧ W (i + 1) m' H') ∧ ∀ x H', (Itl K a).yld i H x H' → g x (wipe σ vl) H' fun σ2 H2 => wipe σ2 vl = wipe σ vl ∧ tt σ2 H2 fun b H3 =>
        if b = true then te σ2 H3 fun y H4 => ∃ acc, H4 L = some (.lst acc) ∧ acc.length < sizeLine ∧ Nx (upd H4 L (.lst (acc ++ [y]))) else Nx H3) := by
  obtain ⟨hn, hM⟩ := hM
  refine ⟨fun i m H => m = items.length - i ∧ i ≤ items.length ∧ ∃ ys, SI i ys H ∧ mapC body (items.drop i) ys KM, ⟨_, rfl, Nat.zero_le _, [], h0, hM⟩, ?_⟩
  rintro i m H ⟨rfl, le, ys, T, q⟩
  obtain ⟨vs, ha, hl, hi⟩ := mo_item (mo i ys H T)
  by_cases lt : i < items.length
  · have hit : items[i]? = some (items[i]'lt) := List.getElem?_eq_getElem lt
    obtain ⟨v, hv, rv⟩ := hi i _ hit
    refine .inr ⟨⟨vs, v, .inl (.inl ha), hv⟩, fun H' => i + 1 ≤ items.length ∧ ∃ ys, SI (i + 1) ys H' ∧ mapC body (items.drop (i + 1)) ys KM, fun H' p' => ⟨_, by omega, rfl, p'⟩, fun x H' y => ?_⟩
    obtain ⟨e1, y⟩ := y
    subst e1
    have hx := y vs (.inl (.inl ha))
    rw [hv] at hx
    obtain rfl : v = x := Option.some.inj hx
    rw [drop_cons' hit] at q
    exact hs _ v i ys _ H' (by omega) T rv q _ fun y2 H2 k2 T2 => ⟨lt, _, T2, k2⟩
  · refine .inl ⟨⟨vs, .inl (.inl ha), by omega⟩, ?_⟩
    rw [List.drop_of_length_le (by omega)] at q
    exact hd _ ys H q T
theorem lf_mutG {items : List α} {e : α → D} {ms ps : List Addr} {H0 : Hp} {a : Addr} {body : α → (Option β → Prop) → Prop} {KM : List β → Prop} (SI : Nat → List β → Hp → Prop)
    (mo : ∀ n ys H, SI n ys H → MutO (L :: ms) ps H0 H a (.lst (items.map e))) (hM : items.length < 100000 ∧ filC body items [] KM) (h0 : SI 0 [] (upd H1 L (.lst [])))
    (hs : ∀ (x : α) (u : V) (n : Nat) (ys : List β) (k : Option β → Prop) (H : Hp), n < 100000 → SI n ys H → rep (L :: ms) H (e x) u → body x k → ∀ Nx : Hp → Prop, (∀ y H', k (some y) → SI (n + 1) (ys ++ [y]) H' → Nx H') → (∀ H', k none → SI (n + 1) ys H' → Nx H') → Turn g tt te vl σ L u H Nx)
    (hd : ∀ n ys H, KM ys → SI n ys H → Qd H) :
    ∃ W : Nat → Nat → Hp → Prop, (∃ m, W 0 m (upd H1 L (.lst []))) ∧ ∀ i m H, W i m H →
      ((Itl K a).stop i H ∧ Qd H) ∨ ((Itl K a).go i H ∧ ∃ Nx : Hp → Prop, (∀ H', Nx H' → ∃ m', m' < m ∧ W (i + 1) m' H') ∧ ∀ x H', (Itl K a).yld i H x H' → g x (wipe σ vl) H' fun σ2 H2 => wipe σ2 vl = wipe σ vl ∧ tt σ2 H2 fun b H3 =>
        if b = true then te σ2 H3 fun y H4 => ∃ acc, H4 L = some (.lst acc) ∧ acc.length < sizeLine ∧ Nx (upd H4 L (.lst (acc ++ [y]))) else Nx H3) := by
  obtain ⟨hn, hM⟩ := hM
  refine ⟨fun i m H => m = items.length - i ∧ i ≤ items.length ∧ ∃ ys, SI i ys H ∧ filC body (items.drop i) ys KM, ⟨_, rfl, Nat.zero_le _, [], h0, hM⟩, ?_⟩
  rintro i m H ⟨rfl, le, ys, T, q⟩
  obtain ⟨vs, ha, hl, hi⟩ := mo_item (mo i ys H T)
  by_cases lt : i < items.length
  · have hit : items[i]? = some (items[i]'lt) := List.getElem?_eq_getElem lt
    obtain ⟨v, hv, rv⟩ := hi i _ hit
    refine .inr ⟨⟨vs, v, .inl (.inl ha), hv⟩, fun H' => i + 1 ≤ items.length ∧ ∃ ys, SI (i + 1) ys H' ∧ filC body (items.drop (i + 1)) ys KM, fun H' p' => ⟨_, by omega, rfl, p'⟩, fun x H' y => ?_⟩
    obtain ⟨e1, y⟩ := y
    subst e1
    have hx := y vs (.inl (.inl ha))
    rw [hv] at hx
    obtain rfl : v = x := Option.some.inj hx
    rw [drop_cons' hit] at q
    exact hs _ v i ys _ H' (by omega) T rv q _ (fun y2 H2 k2 T2 => ⟨lt, _, T2, k2⟩) fun H2 k2 T2 => ⟨lt, _, T2, k2⟩
  · refine .inl ⟨⟨vs, .inl (.inl ha), by omega⟩, ?_⟩
    rw [List.drop_of_length_le (by omega)] at q
    exact hd _ ys H q T
end
end Rx
namespace Rx
open PySem PySem.Spec PyProof.Rows L2
section
variable {K : PySem.W.Frag} {ms ps : List Addr} {H0 H : Hp} {L : Addr} {u : V}
theorem mo_insU {α : Type} {e : α → D} {xs : List α} {i : Int} {P : Addr → List V → Int → V → Prop} (m : MutO ms ps H0 H L (.lst (xs.map e))) (hl : xs.length < 16777216 ∧ 0 ≤ i ∧ i < 2 ^ 63) (k : ∀ vs, repL ms H (xs.map e) vs → P L vs i u) :
    ∃ (l : Addr) (zs : List V) (j : Int) (y : V), V.ref L = .ref l ∧ [V.int i, u] = [.int j, y] ∧ H l = some (.lst zs) ∧ zs.length < sizeLine ∧ 0 ≤ j ∧ j < 2 ^ 63 ∧ P l zs j y := by
  obtain ⟨vs, h1, h2⟩ := m.val
  refine ⟨L, vs, i, u, rfl, rfl, h1, ?_, hl.2.1, hl.2.2, k vs h2⟩
  rw [← repL_len h2, sizeLine_eq, List.length_map]
  exact hl.1
theorem repL_ins {α : Type} {e : α → D} {xs : List α} {y : α} {vs : List V} (i : Nat) (r : repL ms H (xs.map e) vs) (h : rep ms H (e y) u) : repL ms H ((xs.take i ++ [y] ++ xs.drop i).map e) (vs.take i ++ [u] ++ vs.drop i) := by
  rw [List.map_append, List.map_append, List.map_take, List.map_drop]
  exact repL_app (repL_app (repL_take _ r) (repL_one h)) (repL_drop _ r)
end
end Rx
/-! data in f-strings; repr and str of own things where no text is under way -/
namespace Rx
open PySem PySem.Spec PyProof.Rows L2
section
variable {X : Cx}
def tFmtD (K : PySem.W.Frag) (te : TE) : TE := fun σ H Q => te σ H fun x H1 => ∃ (a : Addr) (d : PyData), x = .ref a ∧ Dp K H1 (.ref a) d ∧ d.showable = true ∧ d.hasDict = false ∧ d.depth ≤ 60 ∧ d.shown.length ≤ sizeLine ∧ Q (.str d.shown) H1
theorem pe_fmtD {e : PySem.Expr} {te : TE} {pos : Pos} {k : Nat} {K : PySem.W.Frag} (hK : X.K = K) (gu : X.A.guards = some []) (hr : Room k X.A) (he : PE X e te) : PE X (.FormattedValue e (-1) none pos) (tFmtD K te) := by
  subst hK
  refine ⟨fun pins s σ H Q I h => ?_⟩
  refine wpAny_FormattedValue_plain (thn (he.run pins s σ H _ I h) fun v s1 hv => ?_)
  obtain ⟨x, H1, I1, r1, a, d, rfl, dp, sh, nd, dep, len, q⟩ := hv
  cases r1
  obtain ⟨as, rd⟩ := Dp.reads I1 d _ _ dp rfl
  have un := hr.un
  refine formatField_of_reads (h₀ := s1.heap) rd sh (fun z => by rw [nd] at z; cases z) gu (by omega) (fun _ _ h => h) (fun h' u tk keep => ?_) len
  exact ⟨.str d.shown, H1, I1.kept keep, ⟨u, rfl⟩, q⟩
theorem rep_fmtD {K : PySem.W.Frag} {ms : List Addr} {H : Hp} {d : D} {x : V} {P : PyData → Prop} (h : rep ms H d x) (hx : ∃ a, x = .ref a) (g : plainD d = true ∧ (pyOf d).showable = true ∧ (pyOf d).hasDict = false ∧ (pyOf d).depth ≤ 60 ∧ (pyOf d).shown.length ≤ sizeLine) (q : P (pyOf d)) :
    ∃ (a : Addr) (d : PyData), x = .ref a ∧ Dp K H (.ref a) d ∧ d.showable = true ∧ d.hasDict = false ∧ d.depth ≤ 60 ∧ d.shown.length ≤ sizeLine ∧ P d := by
  obtain ⟨a, rfl⟩ := hx
  exact ⟨a, _, rfl, dp_of (K := K) d _ g.1 h, g.2.1, g.2.2.1, g.2.2.2.1, g.2.2.2.2, q⟩
theorem rep_refL {ms : List Addr} {H : Hp} {ds : List D} {x : V} (h : rep ms H (.lst ds) x) : ∃ a, x = .ref a := by
  simp only [rep] at h
  obtain ⟨p, vs, e, _⟩ := h
  exact ⟨p, e⟩
theorem rep_refT {ms : List Addr} {H : Hp} {ds : List D} {x : V} (h : rep ms H (.tup ds) x) : ∃ a, x = .ref a := by
  simp only [rep] at h
  obtain ⟨p, vs, e, _⟩ := h
  exact ⟨p, e⟩
variable {n : Nat} {C f : Addr} {fd : FuncData} {ps : List Str} {sp : Sp}
theorem ownTextG_run (F : FnG X.prog X.w X.K X.mg X.base n f fd ps sp) {A : Around} (hg : A.guards = some []) (hr : Room n A) (hb : Binds X.K fd ps []) {pins : List (Addr × Obj)} {σ : L2.St} {H : Hp} {s : Shared} {a : Addr} {Q : VK} (I : Inv X pins σ H s)
    (en : Env0 X.prog X.w X.K X.mg X.base A X.stack s H) (h : sp [.ref a] H (fun v H' => ∃ z : Str, v = .str z ∧ Q v H') E0) : wpAny (model X.prog X.w) A (call (.ref f) [.ref a]) (PySem.W.StrBack (EP X pins σ Q)) X.xe s := by
  have hl := F.len _ _ _ _ h
  have bt := hb s [.ref a] I.kIn (by rw [List.append_nil]; exact hl)
  rw [List.append_nil] at bt
  refine wpAny_call (codeAny_mono (F.run A hg hr X.stack s H ⟨[.ref a], []⟩ [.ref a] [.ref a] _ E0 en bt (.cons rfl .nil) h) fun out s' hq => ?_)
  rcases out with err | fl
  · exact pass0 pins σ H s err s' I hq
  · rcases fl with _ | _ | _ | u
    · exact hq.elim
    · exact hq.elim
    · exact hq.elim
    · obtain ⟨v, H', I', rv, z, ez, q⟩ := I.after hq
      subst ez
      obtain ⟨t, rfl⟩ := rv
      exact ⟨.str z, H', I', ⟨t, rfl⟩, q⟩
theorem call_reprOwnG (F : FnG X.prog X.w X.K X.mg X.base n f fd ps sp) (gu : X.A.guards = some []) (hr : Room (n + 1) X.A) (o : OwnText X.K C "__repr__" f) (hb : Binds X.K fd ps []) : CallR X (.builtin "repr") (rOwnText C sp E0) := by
  intro pins s σ H xs us Q I r h
  obtain ⟨x, a, dx, fs, rfl, rfl, ha, hsp⟩ := h
  obtain ⟨u, rfl, ru⟩ := r.one
  cases ru
  obtain ⟨mA, J, _⟩ := ins_get I.hok ha
  obtain ⟨od, J, _⟩ := J.look
  obtain ⟨m, hF⟩ := I.fr
  exact PySem.W.repr_K hr.in1.units0 hF I.ok.mod.kin J o.hs o.hf (ownTextG_run (A := X.A.in1) F (show X.A.in1.guards = some [] from gu) hr.in1 hb I I.env0.in1 hsp)
theorem call_strOwnG (F : FnG X.prog X.w X.K X.mg X.base n f fd ps sp) (gu : X.A.guards = some []) (hr : Room (n + 2) X.A) (o : OwnText X.K C "__str__" f) (hb : Binds X.K fd ps []) : CallR X (.type "str") (rOwnText C sp E0) := by
  intro pins s σ H xs us Q I r h
  obtain ⟨x, a, dx, fs, rfl, rfl, ha, hsp⟩ := h
  obtain ⟨u, rfl, ru⟩ := r.one
  cases ru
  obtain ⟨mA, J, _⟩ := ins_get I.hok ha
  obtain ⟨od, J, _⟩ := J.look
  exact PySem.W.kso_call hr.in1.in1.units0 I.kIn J o.hs o.hf (ownTextG_run (A := X.A.in1.in1) F (show X.A.in1.in1.guards = some [] from gu) hr.in1.in1 hb I I.env0.in1.in1 hsp)
end
end Rx
namespace PySem
open Sem (wp)
open AutoSeq1 (wpAny_loadPart')
theorem meets_enum_tup (t : Addr) (items : Array Value) :
    Meets (Builtin.«enumerate.__new__» ⟨[.type "enumerate", .ref t], []⟩) (fun _ R s => s.heap.IsTuple t items ∧
      R (.ok (.ret (.ref (s.heap.push { cls := .type "tuple_iterator", data := .fields #[.ref t, .int 0 0] }).objs.size)))
        { s with heap := (s.heap.push { cls := .type "tuple_iterator", data := .fields #[.ref t, .int 0 0] }).push { cls := .type "enumerate", data := .fields #[.none, .bool false, .ref s.heap.objs.size, rawInt 0, .none, .none] } }) :=
  .of_wp fun prog w A R s h => by
    obtain ⟨hp, g, d, tk, os⟩ := s; obtain ⟨h1, h⟩ := h
    have hsub := sub_enumerate
    have q1 : ∀ {A' : Around} {E : Value → Shared → Prop} {Q : Value → Shared → Prop}, Q (.ref hp.objs.size) ⟨hp.push { cls := .type "tuple_iterator", data := .fields #[.ref t, .int 0 0] }, g, d, tk, os⟩ → wpAny (model prog w) A' (pyIter (.ref t)) Q E ⟨hp, g, d, tk, os⟩ :=
      fun q => (begins_tuple t items).iter prog w _ _ ⟨hp, g, d, tk, os⟩ _ h1 q
    wp_walk using q1
    refine wpAny_stack_any fun st => wpAny_pure ?_
    split
    · rename_i c _ _ _ _ _
      cases (c == Value.type "enumerate")
      · wp_walk using q1
        exact ⟨_, rfl, h⟩
      · wp_walk using q1
        exact ⟨_, rfl, h⟩
    · wp_walk using q1
      exact ⟨_, rfl, h⟩
section
variable {prog : Program} {w : World} {A : Around} {E : Value → Shared → Prop} {s : Shared}
theorem call_enum_tup {t : Addr} {items : Array Value} {Q : Value → Shared → Prop} (hL : s.heap.IsTuple t items)
    (h : ∀ h', IsEnum h' (s.heap.objs.size + 1) s.heap.objs.size 0 .none → h'.IsTupleIter s.heap.objs.size t 0 → h'.objs.size = s.heap.objs.size + 2 →
      (∀ b o, s.heap.get? b = some o → h'.get? b = some o) → Q (.ref (s.heap.objs.size + 1)) { s with heap := h' }) :
    wpAny (model prog w) A (call (.type "enumerate") [.ref t]) Q E s := by
  refine callType_new F.called_enumerate (by decide) (F.typeCall_enumerate_1 _) (F.newCall_enumerate_1 _) (fun obj => F.args_object_init_2 obj _) F.entry_enumerate_new
    (meets_enum_tup t items) ⟨hL, ?_⟩
  have hz : (s.heap.push { cls := .type "tuple_iterator", data := .fields #[.ref t, .int 0 0] }).objs.size = s.heap.objs.size + 1 := Heap.size_push ..
  show _ ∧ _
  rw [hz]
  have he : IsEnum ((s.heap.push { cls := .type "tuple_iterator", data := .fields #[.ref t, .int 0 0] }).push
      { cls := .type "enumerate", data := .fields #[.none, .bool false, .ref s.heap.objs.size, rawInt 0, .none, .none] }) (s.heap.objs.size + 1) s.heap.objs.size 0 .none := by
    have := Heap.get?_push_size (s.heap.push { cls := .type "tuple_iterator", data := .fields #[.ref t, .int 0 0] })
      (o := { cls := .type "enumerate", data := .fields #[.none, .bool false, .ref s.heap.objs.size, rawInt 0, .none, .none] }) rfl
    rw [hz] at this; exact this
  refine ⟨⟨_, he, rfl⟩, h _ he ⟨_, Heap.get?_push_of_some _ (Heap.get?_push_size _ rfl), rfl, rfl⟩ (by rw [Heap.size_push, hz]) fun b o x => Heap.get?_push_of_some _ (Heap.get?_push_of_some _ x)⟩
end
end PySem
namespace Rx
open PySem PySem.Spec PyProof.Rows L2
/-- the tuple at a as it stands at each turn, each item in a new pair -/
def IteT (K : PySem.W.Frag) (a : Addr) : It :=
  ⟨fun i H => ∃ (xs : List V) (x : V), SqT K H a xs ∧ xs[i]? = some x, fun i H v H' => ∃ T x, v = .ref T ∧ H T = none ∧ H' = upd H T (.tup [.int (i : Nat), x]) ∧ ∀ xs, SqT K H a xs → xs[i]? = some x, fun i H => ∃ xs : List V, SqT K H a xs ∧ xs.length ≤ i⟩
theorem turn_enumT {P : Program} {w : World} {K : PySem.W.Frag} {elts : List Expr} {kk : Nat} {tpos : Pos} (a e it : Addr) (hei : e ≠ it) (hai : a ≠ it) :
    L2.Turn P w K (.Tuple elts kk tpos) (IteT K a) [e, it] e (fun i h => (∃ old, IsEnum h e it ((i : Nat) : Int) old) ∧ h.IsTupleIter it a i) where
  mem := by simp
  obj := fun i h st b hb => by
    obtain ⟨⟨old, he⟩, ⟨o, ho, hc, hd⟩⟩ := st
    have e' : b = e ∨ b = it := by simpa using hb
    rcases e' with z | z
    · rw [z]; exact ⟨_, he, fun v q => nomatch q⟩
    · rw [z]; exact ⟨o, ho, fun v q => by rw [hd] at q; cases q⟩
  keep := fun i h h' st k => let ⟨⟨old, he⟩, hi⟩ := st; ⟨⟨old, k e (by simp) _ he⟩, hi.at fun o q => k it (by simp) o q⟩
  item := by
    intro X hP hw hK hc i pins s σ H E I hf st hg
    subst hP hw hK
    obtain ⟨⟨old, he⟩, hit⟩ := st
    obtain ⟨xs, x, hq, hx⟩ := hg
    obtain ⟨its, rv, p, hz⟩ := I.tuple hq
    obtain ⟨u, hu, ru⟩ := rv.get hx
    have hel : e < s.heap.objs.size := Heap.lt_size he
    have hil : it < s.heap.objs.size := by obtain ⟨_, q, _⟩ := hit; exact Heap.lt_size q
    have hea : e ≠ a := fun z => by
      obtain ⟨o, ho, hc', _⟩ := p
      rw [← z, he] at ho
      cases ho
      simp at hc'
    refine wpAny_pyNext_enum_itemD (Draws.tuple (A := X.A.in1) (I.ok.hd hc) it a hai its.toArray) he ⟨hit, p⟩ (by
      have := rv.length
      have := (List.getElem?_eq_some_iff.mp hx).1
      rw [List.size_toArray]
      omega) hei (by simp [hei, hea]) fun y h' tk hP ho hit' hT hsz hk => ?_
    have ey : y = u := by
      have h1 : its[i]? = some y := by simpa using hP
      rw [hu] at h1
      exact (Option.some.inj h1).symm
    subst ey
    refine ⟨_, rfl, wpAny_letOwnedTupleGo_enum (s := { s with heap := h', toks := tk + 1 }) ho fun h'' he' sb => ?_⟩
    have hT2 : h''.get? s.heap.objs.size = some { cls := .type "tuple", data := .seq #[.int i tk, y] } := (sb.2 _ (Nat.ne_of_gt hel)).trans hT
    have new : ObjOk X.prog X.w (upd H s.heap.objs.size (.tup [.int (i : Nat), x])) h'' s.heap.objs.size (.tup [.int (i : Nat), x]) :=
      ⟨by show 2 ≤ sizeLine; decide, [.int i tk, y], .cons ⟨_, rfl⟩ (.cons ru .nil), ⟨_, hT2, rfl, _, rfl⟩⟩
    have I1 : Inv X pins σ (upd H s.heap.objs.size (.tup [.int (i : Nat), x])) { s with heap := h'', toks := tk + 1 } :=
      I.turnedNew (ch := [e, it]) (fun b ob hb q => (sb.2 b (fun z => hb (by simp [z]))).trans (hk b ob (fun z => hb (by simp [z])) (fun z => hb (by simp [z])) q)) hf (Nat.le_refl _) new
    refine ⟨.ref s.heap.objs.size, _, I1, rfl, ⟨_, x, rfl, I.hok.fresh (Nat.le_refl _), rfl, fun ys hy => by rw [I.tuple_inj hy hq]; exact hx⟩, ⟨⟨y, ?_⟩, hit'.1.at fun o q => (sb.2 it (Ne.symm hei)).trans q⟩, fun b hb => ?_⟩
    · have e1 : ((i + 1 : Nat) : Int) = (i : Int) + 1 := by omega
      rw [e1]; exact he'
    · have hb' : b < s.heap.objs.size := by
        have e' : b = e ∨ b = it := by simpa using hb
        rcases e' with z | z
        · rw [z]; exact hel
        · rw [z]; exact hil
      rw [upd_ne (Nat.ne_of_lt hb')]
      exact (hf b hb).1
  done := by
    intro X hP hw hK hc i pins s σ H E I hf st hg
    subst hP hw hK
    obtain ⟨⟨old, he⟩, hit⟩ := st
    obtain ⟨xs, hq, hx⟩ := hg
    obtain ⟨its, rv, p, hz⟩ := I.tuple hq
    obtain ⟨f0, f1, f2, f3, f4, f5⟩ := hf it (by simp)
    have hl := rv.length
    have D : Draws X.prog X.w X.A.in1 it [it, a] i (fun i v => its.toArray[i]? = some v) (fun j h => j = i ∧ h.IsTupleIter it a i ∧ h.IsTuple a its.toArray) := {
      live := fun _ _ st => let ⟨o, ho, _⟩ := st.2.1; ⟨o, ho⟩
      frame := fun _ _ _ st hk => ⟨st.1, st.2.1.at fun o e => hk it (by simp) o e, st.2.2.at fun o e => hk a (by simp) o e⟩
      item := fun j s Q E hj st hQ => absurd hj (by rw [st.1]; exact Nat.lt_irrefl _)
      done := fun s Q E st hE => wpAny_nextOf_tuple_end (I.ok.hd hc) st.2.1 st.2.2 (by simp; omega) hE }
    refine wpAny_pyNext_enum_endD D he ⟨rfl, hit, p⟩ fun h' eb => ?_
    exact ⟨rfl, I.turned (t' := s.toks) (fun b o hb q => eb b o hb q) f0 f1 f3 f4 f5⟩
  self := fun A i s Q E st h => let ⟨⟨_, he⟩, _⟩ := st; wpAny_pyIter_enum he h
def iEnumT (K : PySem.W.Frag) (ta : TA) : TI := fun σ H R => ta σ H fun vs H1 => ∃ a xs, vs = [.ref a] ∧ SqT K H1 a xs ∧ R (IteT K a) H1
theorem pi_enumT {X : Cx} {K : PySem.W.Frag} {e : PySem.Expr} {ta : TA} {p pos tpos : Pos} {elts : List PySem.Expr} {kk : Nat} (hK : X.K = K) (hg : Gl X "enumerate") (hm : X.mg "enumerate" = none) (ha : PA X [e] ta) (hs : starEach [e] X.env = [(false, eval e X.env)] := by rfl) :
    PI X (.Tuple elts kk tpos) (.Call (.Name "enumerate" p) [e] [] pos) (iEnumT K ta) := by
  subst hK
  refine ⟨fun pins s σ H R I h => ?_⟩
  refine Call_ (ld_blt I hg hm boot_enumerate (PyProof.Rows.callWith_type1 (thn (ha.run pos pins s σ H _ I h) fun us s1 ⟨vs, H1, I1, r1, q1⟩ => ?_) hs rfl))
  obtain ⟨a, xs, ex, hq, q⟩ := q1
  subst ex
  cases r1 with
  | cons r rr =>
    cases rr
    cases r
    obtain ⟨its, rv, p', hz⟩ := I1.tuple hq
    have hal : a < s1.heap.objs.size := by
      obtain ⟨o, ho, _⟩ := p'
      exact Heap.lt_size ho
    refine call_enum_tup p' fun h' he hit hsz hk => wpAny_pyIter_enum he ?_
    have I2 : Inv X pins σ H1 { s1 with heap := h' } := I1.kept (t' := s1.toks) hk
    refine ⟨s1.heap.objs.size + 1, [s1.heap.objs.size + 1, s1.heap.objs.size], _, _, H1, rfl, I2, turn_enumT a (s1.heap.objs.size + 1) s1.heap.objs.size (Nat.succ_ne_self _) (Nat.ne_of_lt hal), ⟨⟨.none, he⟩, hit⟩, fun b hb => ?_, q⟩
    have e' : b = s1.heap.objs.size + 1 ∨ b = s1.heap.objs.size := by simpa using hb
    have hle : s1.heap.objs.size ≤ b := by
      rcases e' with z | z
      · rw [z]; exact Nat.le_add_right _ _
      · rw [z]; exact Nat.le_refl _
    exact I1.fpOk hle (I1.hok.fresh hle)
section
variable {K : PySem.W.Frag} {a : Addr} {xs : List V}
theorem walk_enumT : L2.Walk (IteT K a) xs.length (fun H => SqT K H a xs) (YPair (fun i => some (.int (i : Nat))) (fun i => xs[i]?)) := by
  refine ⟨fun i _ hi q => ⟨xs, xs[i], q, by simp [hi]⟩, fun _ q => ⟨xs, q, Nat.le_refl _⟩, fun i H v H' _ q y => ?_⟩
  obtain ⟨T, x, h1, h2, h3, h4⟩ := y
  exact ⟨T, .int (i : Nat), x, h1, h2, h3, rfl, h4 xs q⟩
end
section
variable {α S : Type} {K : PySem.W.Frag} {H1 : Hp} {g : TG} {tb : TS} {D' : Ends} {σ : L2.St}
theorem for_enumGT {items : List α} {e : α → D} {ms : List Addr} {a : Addr} {xs : List V} {body : (Int × α) → S → (S → Prop) → Prop} {KM : S → Prop} (SI : S → L2.St → Hp → Prop) (s0 : S) (an : a ∉ ms) (ha : H1 a = some (.tup xs)) (hx : repL ms H1 (items.map e) xs)
    (kp : ∀ s σ H, SI s σ H → Keep ms H1 H) (tr : ∀ s σ H, SI s σ H → ∀ m ∈ ms, H m ≠ none) (hM : forC body ((rangeI 0 (items.length : Int)).zip items) s0 KM) (h0 : SI s0 σ H1)
    (hs : ∀ (x : Int × α) (u : V) (s : S) (k : S → Prop) (σ : L2.St) (H H2 : Hp), SI s σ H → Ext H H2 → rep ms H2 (.tup [.v (.int x.1), e x.2]) u → body x s k → ∀ Nx : L2.St → Hp → Prop, (∀ s' σ' H', k s' → SI s' σ' H' → Nx σ' H') →
      g u σ H2 fun σ2 H2 => tb { D' with nx := Nx, ct := Nx, bk := D'.nx } σ2 H2)
    (hd : ∀ s σ H, KM s → SI s σ H → D'.nx σ H) :
    ∃ W : Nat → Nat → L2.St → Hp → Prop, (∃ m, W 0 m σ H1) ∧ ∀ i m σ H, W i m σ H →
      ((IteT K a).stop i H ∧ D'.nx σ H) ∨ ((IteT K a).go i H ∧ ∃ Nx : L2.St → Hp → Prop, (∀ σ' H', Nx σ' H' → ∃ m', m' < m ∧ W (i + 1) m' σ' H') ∧ ∀ x H', (IteT K a).yld i H x H' → g x σ H' fun σ2 H2 => tb { D' with nx := Nx, ct := Nx, bk := D'.nx } σ2 H2) := by
  have hl : items.length = xs.length := by
    have := repL_len hx
    rwa [List.length_map] at this
  have rl : (rangeI 0 (items.length : Int)).length = items.length := by rw [rangeI_len]; omega
  have zl : ((rangeI 0 (items.length : Int)).zip items).length = xs.length := by rw [List.length_zip, rl, hl, Nat.min_self]
  refine for_it (walk_enumT (K := K) (a := a) (xs := xs)) (D := D') (fun i σ H => ∃ s, SI s σ H ∧ forC body (((rangeI 0 (items.length : Int)).zip items).drop i) s KM) ⟨s0, h0, hM⟩ (fun i σ H _ ⟨s, si, _⟩ => .inl (.inl (kp s σ H si a _ an ha))) (fun i u σ H H' hi ⟨s, si, q⟩ y => ?_) (fun σ H ⟨s, si, q⟩ => ?_)
  · obtain ⟨T, x1, x2, rfl, nT, eH, e1, e2⟩ := y
    have hit : items[i]? = some (items[i]'(by omega)) := List.getElem?_eq_getElem (by omega)
    have hz : ((rangeI 0 (items.length : Int)).zip items)[i]? = some ((i : Int), items[i]'(by omega)) := by
      rw [List.getElem?_zip_eq_some]
      exact ⟨by rw [rangeI_get (by omega)]; congr 1; omega, hit⟩
    rw [drop_cons' hz] at q
    obtain ⟨v, hv, rv⟩ := repL_get (repL_keep (kp s σ H si) hx) (j := i) (d := e (items[i]'(by omega))) (by rw [List.getElem?_map, hit]; rfl)
    have e2 : xs[i]? = some x2 := e2
    rw [e2] at hv
    have ev : x2 = v := Option.some.inj hv
    subst ev
    have ev1 : V.int (i : Nat) = x1 := Option.some.inj e1
    subst ev1
    have ex : Ext H H' := by rw [eH]; exact Ext.new nT
    exact hs ((i : Int), items[i]'(by omega)) (.ref T) s _ σ H H' si ex (rep_pair (tr s σ H si) nT eH rep_v rv) q _ fun s' σ' H'' hk si2 => ⟨s', si2, hk⟩
  · rw [List.drop_of_length_le (by omega)] at q
    exact hd s σ H q si
end
section
variable {K : PySem.W.Frag} {ms ps : List Addr} {H0 H : Hp} {x : V}
theorem rep_iterET {ds : List D} {P : Addr → Prop} (h : rep ms H (.tup ds) x) (k : ∀ a xs, x = .ref a → a ∉ ms → H a = some (.tup xs) → repL ms H ds xs → P a) : ∃ (a : Addr) (xs : List V), [x] = [.ref a] ∧ SqT K H a xs ∧ P a := by
  simp only [rep] at h
  obtain ⟨p, vs, e, n, hp, hr⟩ := h
  exact ⟨p, vs, by rw [e], .inl (.inl hp), k p vs e n hp hr⟩
end
theorem rep_isNL {α : Type} {e : α → D} {ms : List Addr} {H : Hp} {m : Option α} {u : V} (he : ∀ y, ∃ ds, e y = .lst ds) (h : rep ms H (encO e m) u) : decide (u = .non) = m.isNone := by
  cases m with
  | none =>
    rw [of_v h]
    rfl
  | some y =>
    obtain ⟨ds, ed⟩ := he y
    have h' : rep ms H (e y) u := h
    rw [ed] at h'
    simp only [rep] at h'
    obtain ⟨p, _, e1, _⟩ := h'
    rw [e1]
    rfl
theorem rep_isSomeL {α : Type} {e : α → D} {ms : List Addr} {H : Hp} {m : Option α} {u : V} (he : ∀ y, ∃ ds, e y = .lst ds) (h : rep ms H (encO e m) u) : (!decide (u = .non)) = m.isSome := by
  rw [rep_isNL he h]
  cases m <;> rfl
theorem noMs_mapT {α : Type} {e : α → D} (h : ∀ y, noM (e y) = true) : ∀ xs : List α, noMs (xs.map e) = true
  | [] => rfl
  | x :: xs => by
    rw [List.map_cons]
    simp only [noMs, h x, noMs_mapT h xs, Bool.and_self]
theorem mo_dyn {α : Type} {e : α → D} {xs : List α} {ms ps : List Addr} {H0 H : Hp} {L : Addr} (m : MutO ms ps H0 H L (.lst (xs.map e))) : MutO ms ps H0 H L (.lst ((xs.map e).map fun y_ : D => y_)) := by
  rw [List.map_id']
  exact m
def tFS (ts : List TE) : TE := fun σ H Q => tJs ts Str.empty σ H fun out H1 => Q (.str out) H1
theorem pe_joinedF {X : Cx} {v1 v2 : PySem.Expr} {rest : List PySem.Expr} {ts : List TE} {pos : Pos} (h : PJ X (v1 :: v2 :: rest) ts) : PE X (.JoinedStr (v1 :: v2 :: rest) pos) (tFS ts) := pe_joined h
theorem cr_sumK {X : Cx} {K : PySem.W.Frag} (hK : X.K = K) (hc : X.calm = true) : CallR X (.builtin "sum") (rSum K) := by
  subst hK
  exact cr_sum hc
theorem rep_sumL {ms : List Addr} {H : Hp} {K : PySem.W.Frag} {ns : List Int} {x : V} {P : List Int → Prop} (h : rep ms H (.lst (ns.map (fun y_ : Int => D.v (V.int y_)))) x) (q : P ns) : ∃ (a : Addr) (ns : List Int), [x] = [V.ref a] ∧ SqL K H a (ns.map V.int) ∧ P ns := by
  simp only [rep] at h
  obtain ⟨p, vs, e, _, hp, hr⟩ := h
  have ev := repL_ints hr
  subst ev e
  exact ⟨p, ns, rfl, .inl (.inl hp), q⟩
end Rx
namespace Rx
open PySem PySem.Spec PyProof.Rows L2
section
variable {K : PySem.W.Frag} {ms ms' ps : List Addr} {H0 H H' H1 : Hp} {L L' : Addr} {d d' : D} {ds : List D} {u x : V} {vs : List V}
/-- an instance that may be called -/
theorem rep_callO {C : Addr} {ns : List Str} {P : Addr → Prop} (h : rep ms H (.ins C ns ds) x) (k : ∀ a, x = .ref a → rep ms H (.ins C ns ds) (.ref a) → P a) : ∃ a, x = .ref a ∧ P a := by
  have h0 := h
  simp only [rep] at h
  obtain ⟨a, dx, us, rfl, na, ha, hn, hl⟩ := h
  exact ⟨a, rfl, k a rfl h0⟩
theorem rep_insC {C a : Addr} {ns : List Str} (h : rep ms H (.ins C ns ds) (.ref a)) : ∃ dx fs, H a = some (.ins C dx fs) := by
  simp only [rep] at h
  obtain ⟨a', dx, us, e, na, ha, hn, hl⟩ := h
  cases e
  exact ⟨_, _, ha⟩
/-- a list that is told: where it stands -/
theorem rep_lstAt (h : rep ms H (.lst ds) u) : ∃ (L : Addr) (vs : List V), u = .ref L ∧ L ∉ ms ∧ H L = some (.lst vs) ∧ repL ms H ds vs := by
  simp only [rep] at h
  obtain ⟨p, vs, e, np, hp, hl⟩ := h
  exact ⟨p, vs, e, np, hp, hl⟩
theorem wd_fresh {o : HO} (w : Wd ms ps [] H0 H) (h : H L = some o) : Wd (L :: ms) ps [] H0 H :=
  ⟨w.kp, w.grow, fun m hm => by
    rcases List.mem_cons.mp hm with z | z
    · rw [z, h]
      exact fun z => nomatch z
    · exact w.tr m z, w.pot, fun a ha => List.mem_cons_of_mem _ (w.pm a ha), fun _ h => absurd h List.not_mem_nil⟩
theorem mo_new (nl : H L = none) (m : MutO ms ps H0 H L' d) : MutO (L :: ms) ps H0 H L' d :=
  ⟨List.mem_cons_of_mem _ m.im, m.hp, m.h0, valO_map (fun p o n hp => ⟨fun z => by
    rcases List.mem_cons.mp z with z | z
    · exact ne_of_none hp nl z
    · exact n z, hp⟩) (fun o h => h) _ m.val⟩
theorem mo_fresh (w : Wd ms ps [] H0 H) (nl : H L = none) (n : L ∉ ms) (hL : H' L = some (.lst vs)) (hr : repL ms H' ds vs) (hn : noMs ds = true) : MutO (L :: ms) ps H0 H' L (.lst ds) :=
  ⟨List.mem_cons_self, pot_new w nl, wd_none w nl, vs, hL, repL_liftO (dr_here (L := L) (ms := ms)) (by rw [hL]; trivial) ds vs hn hr⟩
/-- the last thing popped -/
theorem mo_popE {α : Type} {e : α → D} {xs : List α} {y : α} {Q : VK} (m : MutO ms ps H0 H L (.lst (xs.map e))) (hy : xs.getLast? = some y)
    (k : ∀ vs v, repL ms H (xs.map e) vs → rep ms H (e y) v → Q v (upd H L (.lst vs.dropLast))) :
    ∃ (l : Addr) (xs : List V) (y : V), V.ref L = .ref l ∧ ([] : List V) = [] ∧ H l = some (.lst xs) ∧ xs[xs.length - 1]? = some y ∧ Q y (upd H l (.lst xs.dropLast)) := by
  obtain ⟨vs, h1, h2⟩ := m.val
  have hl := repL_len h2
  rw [List.length_map] at hl
  rw [List.getLast?_eq_getElem?] at hy
  obtain ⟨v, hv, rv⟩ := repL_get (d := e y) h2 (by rw [List.getElem?_map, hy]; rfl)
  exact ⟨L, vs, v, rfl, rfl, h1, by rw [← hl]; exact hv, k vs v h2 rv⟩
theorem repL_dropLast {α : Type} {e : α → D} {xs : List α} (h : repL ms H (xs.map e) vs) : repL ms H (xs.dropLast.map e) vs.dropLast := by
  have hl := repL_len h
  rw [List.length_map] at hl
  have := repL_erase (e := e) (xs.length - 1) h
  rw [List.eraseIdx_length_sub_one] at this
  rw [hl, List.eraseIdx_length_sub_one] at this
  exact this
theorem rep_tupSame {R : Addr → Prop} {P : List V → Addr → Prop} (h : rep ms H (.tup ds) x) (q : ∀ p, x = .ref p → rep ms H (.tup ds) (.ref p) → R p) : ∃ p ys, [x] = [V.ref p] ∧ ((SqL K H p ys ∧ ∀ l, H l = none → P ys l) ∨ (SqT K H p ys ∧ R p)) := by
  have h0 := h
  simp only [rep] at h
  obtain ⟨p, vs, rfl, _, hp, hr⟩ := h
  exact ⟨p, vs, rfl, .inr ⟨.inl (.inl hp), q p rfl h0⟩⟩
theorem noMs_mapF {α : Type} {e : α → D} (h : ∀ y, noM (e y) = true) : ∀ xs : List α, noMs (xs.map e) = true := noMs_mapT h
end
section
variable {K : PySem.W.Frag} {X : Cx} {o : PySem.Expr} {to : TE} {name : Str} {apos cpos : Pos} {T id : String} {r : V → List V → Hp → VK → Prop}
theorem pe_bmN (hK : X.K = K) (pa : PlainAttrs T) (slot : Slot T name id) (hty : typeOf (.builtin id) = pure (.type "method_descriptor")) (hm : MtR X id r) (ho : PE X o to)
    (hbase : attributeBase o name X.env (eval o X.env) = eval o X.env := by rfl) (hline : (apos.endLine == cpos.line) = true := by rfl) : PE X (.Call (.Attribute o name apos) [] [] cpos) (tBM0 K T r to) := by
  subst hK
  exact pe_bm0 pa slot hty hm ho hbase hline
end
/-- an instance called: what is asked of it -/
def tCallI (C : Addr) (sp : Sp) (E : XK) (tf : TE) (t : TA) : TE := fun σ H Q => tf σ H fun y H1 => ∃ a, y = V.ref a ∧ t σ H1 fun vs H2 => (∃ dx fs, H2 a = some (.ins C dx fs)) ∧ sp (V.ref a :: vs) H2 Q E
section
variable {K : PySem.W.Frag} {X : Cx} {C g : Addr} {CX : CXT} {k : Nat} {sp : Sp} {E : XK} {fe e : PySem.Expr} {es : List PySem.Expr} {tf : TE} {t : TA} {pos : Pos} {fd : FuncData} {ps : List Str}
theorem pe_callI (hK : X.K = K) (hf : PE X fe tf) (c : StX.CallO K C g) (F : FnOk X.prog X.w X.K X.mg X.base CX k g fd ps sp) (hb : Binds X.K fd ps []) (hr : Room k X.A) (hx : Passes CX X E) (ha : PA X (e :: es) t)
    (ht : eval (.Call fe (e :: es) [] pos) X.env = (do callWith pos (← eval fe X.env) [] (backTo pos (starEach (e :: es) X.env)) (backToKw pos (keywordEach [] X.env))) := by rfl)
    (he : starEach (e :: es) X.env = (false, eval e X.env) :: starEach es X.env := by rfl) (hpl : (backTo pos (starEach es X.env)).any (·.1) = false := by rfl) : PE X (.Call fe (e :: es) [] pos) (tCallI C sp E tf t) := by
  subst hK
  have p := StX.pe_callO (E := E) (tf := upE tf) (t := fun σ H R => ∃ R0, t σ H R0 ∧ ∀ vs H', R0 vs H' → R vs H') (pe_up hf) c (F.raw hb .nil) hr hx ⟨fun cpos pins s σ H R I ⟨R0, h, m⟩ => thn (ha.run cpos pins s σ H R0 I h) fun us s' ⟨vs, H', I', r, q⟩ => ⟨vs, H', I', r, m vs H' q⟩⟩ ht he hpl
  exact ⟨fun pins s σ H Q I h => p.run pins s σ H Q I ⟨_, h, fun y H1 ⟨a, ey, q⟩ => ⟨a, ey, _, q, fun vs H2 ⟨hi, hs⟩ => ⟨.inr hi, by show sp ((V.ref a :: vs) ++ []) H2 Q E; rw [List.append_nil]; exact hs⟩⟩⟩⟩
end
end Rx
namespace PySem.W
open Lean Elab Tactic Meta PySem PySem.Calls PyProof.Rows
section
variable {prog : Program} {w : World} {A : Around} {E : Value → Shared → Prop} {s : Shared} {K : Frag} {x y C L f : Addr} {h₀ : Heap} {m : Str → Option Value} {ox oy : Obj} {od oe : Option Obj}
/-- both sides of one class -/
theorem own_binC {op : Operator} {Q : Value → Shared → Prop} (F : Fr h₀ L s.heap m) (X₀ : K.In h₀) (I : InstAt s.heap x ox C od) (I2 : InstAt s.heap y oy C oe) (hc : selfFirst K C = true)
    (hs : findIn K (.ref C) (PySem.dunder op.info.2) = some (some (.ref f))) (hf : isFn K (.ref f) = true)
    (h : wpAny (model prog w) A (call (.ref f) [.ref x, .ref y]) (CmpBack Q) E s) : wpAny (model prog w) A (binaryOp op (.ref x) (.ref y)) Q E s := by
  have X := X₀.keeps F.keep
  obtain ⟨cd, rest, hcd, hm⟩ := ksp_first hc
  rcases hi : op.info with ⟨sym, nm'⟩
  rw [hi] at hs
  dsimp only at hs
  have one := ksp_try X I hs hf h
  obtain ⟨hh, g, d, tt, os⟩ := s
  have L1 : Looks (model prog w) hh (typeOf (.ref x)) (.ref C) := I.type
  have L2 : Looks (model prog w) hh (typeOf (.ref y)) (.ref C) := I2.type
  have L3 : Looks (model prog w) hh (fillsNumberSlot (.ref C) nm') true := fills_K X hcd hm hs
  simp only [binaryOp, hi]
  refine wpAny_holding (wpAny_bind ?_)
  unfold binaryOp1
  refine wpAny_bind (L1.at (wpAny_bind (L2.at (wpAny_bind (L3.at ?_)))))
  simp only [beq_self_eq_true, if_true, Bool.and_false, Bool.false_eq_true, if_false]
  repeat ((fail_if_success (with_reducible show wpAny _ _ (tryMethod _ _ _) _ _ _)); lk)
  refine wpAny_mono one (fun r s' hr' => ?_) fun _ _ e => e
  obtain ⟨v, rfl, hq⟩ := hr'
  repeat ((fail_if_success (with_reducible show wpAny _ _ (tryMethod _ _ _) _ _ _)); lk)
  exact hq
end
end PySem.W
namespace Rx
open PySem PySem.Spec PyProof.Rows L2
/-- C's own operator op, and what it needs beside whole numbers -/
structure OwnBin (K : PySem.W.Frag) (C : Addr) (op : Operator) (f : Addr) : Prop where
  first : PySem.W.selfFirst K C = true
  hs : PySem.W.findIn K (.ref C) (PySem.dunder op.info.2) = some (some (.ref f))
  hf : PySem.W.isFn K (.ref f) = true
structure OwnBinT (K : PySem.W.Frag) (C : Addr) (op : Operator) (f : Addr) : Prop extends OwnBin K C op f where
  hr : ∃ rc : Option Value, PySem.W.findIn K (.ref C) (dunderR op.info.2) = some rc ∧ (rc = none ∨ ∃ g : Addr, rc = some (.ref g))
  i1 : ∃ fo : Option Value, PySem.W.findIn K (.type "int") (PySem.dunder op.info.2) = some fo
  i2 : ∃ ro : Option Value, PySem.W.findIn K (.type "int") (dunderR op.info.2) = some ro
def rOwnBin (C : Addr) (sp : Sp) (E : XK) : R2 := fun x y H Q => ∃ a dx fs b dy gs, x = .ref a ∧ H a = some (.ins C dx fs) ∧ y = .ref b ∧ H b = some (.ins C dy gs) ∧ sp [x, y] H (fun v H' => ∃ p : Addr, v = .ref p ∧ Q v H') E
def rOwnBinT (C : Addr) (sp : Sp) (E : XK) : R2 := fun x y H Q => ∃ a dx fs n, x = .ref a ∧ H a = some (.ins C dx fs) ∧ y = .int n ∧ sp [x, y] H (fun v H' => ∃ p : Addr, v = .ref p ∧ Q v H') E
theorem op_ownBin {X : Cx} {K : PySem.W.Frag} (hK : X.K = K) {op : Operator} {n : Nat} {CX : CXT} {C f : Addr} {fd : FuncData} {ps : List Str} {sp : Sp} {E : XK} (F : FnOk X.prog X.w X.K X.mg X.base CX n f fd ps sp) (hr : Room n X.A)
    (o : OwnBin K C op f) (hb : Binds X.K fd ps []) (hx : Passes CX X E) : OpR X (binaryOp op) (rOwnBin C sp E) := by
  subst hK
  intro pins s σ H x y v u Q I rx ry d
  obtain ⟨a, dx, fs, b, dy, gs, rfl, ha, rfl, hb', hsp⟩ := d
  cases rx
  cases ry
  obtain ⟨mA, J, _⟩ := ins_get I.hok ha
  obtain ⟨od, J, _⟩ := J.look
  obtain ⟨mB, J2, _⟩ := ins_get I.hok hb'
  obtain ⟨oe, J2, _⟩ := J2.look
  obtain ⟨m, hF⟩ := I.fr
  refine PySem.W.own_binC hF I.ok.mod.kin J J2 o.first o.hs o.hf ?_
  have hl := F.len _ _ _ _ hsp
  have r2 : Vals [V.ref a, V.ref b] [Value.ref a, Value.ref b] := .cons rfl (.cons rfl .nil)
  refine wpAny_call (codeAny_mono (F.run X.A X.stack s H ⟨[.ref a, .ref b], []⟩ [.ref a, .ref b] [.ref a, .ref b] _ E hr I.env0 (by
    have := hb s [.ref a, .ref b] I.kIn (by simpa using hl)
    simpa using this) r2 hsp) fun r s' hq => ?_)
  cases r with
  | error e => exact hx pins σ H s e s' I hq
  | ok fl =>
    cases fl with
    | ret w =>
      obtain ⟨z, H', I', rz, ⟨r, ez, q⟩⟩ := I.after hq
      subst ez
      cases (show w = Value.ref r from rz)
      exact ⟨.ref r, H', I', rfl, q⟩
    | next => exact False.elim hq
    | brk => exact False.elim hq
    | cont => exact False.elim hq
theorem op_ownBinT {X : Cx} {K : PySem.W.Frag} (hK : X.K = K) {op : Operator} {n : Nat} {CX : CXT} {C f : Addr} {fd : FuncData} {ps : List Str} {sp : Sp} {E : XK} (F : FnOk X.prog X.w X.K X.mg X.base CX n f fd ps sp) (hr : Room n X.A)
    (o : OwnBinT K C op f) (hb : Binds X.K fd ps []) (hx : Passes CX X E) : OpR X (binaryOp op) (rOwnBinT C sp E) := by
  subst hK
  intro pins s σ H x y v u Q I rx ry d
  obtain ⟨a, dx, fs, k, rfl, ha, rfl, hsp⟩ := d
  cases rx
  obtain ⟨mA, J, _⟩ := ins_get I.hok ha
  obtain ⟨od, J, _⟩ := J.look
  obtain ⟨m, hF⟩ := I.fr
  obtain ⟨rc, h1, h2⟩ := o.hr
  obtain ⟨fo, h3⟩ := o.i1
  obtain ⟨ro, h4⟩ := o.i2
  obtain ⟨tk, rfl⟩ : ∃ t, u = .int k t := ry
  refine PySem.W.ksp_binT (T := "int") hF I.ok.mod.kin J rfl o.first o.hs o.hf h1 h2 h3 h4 sub_int ?_
  have hl := F.len _ _ _ _ hsp
  have r2 : Vals [V.ref a, V.int k] [Value.ref a, .int k tk] := .cons rfl (.cons ⟨tk, rfl⟩ .nil)
  refine wpAny_call (codeAny_mono (F.run X.A X.stack s H ⟨[.ref a, .int k tk], []⟩ [.ref a, .int k tk] [.ref a, .int k] _ E hr I.env0 (by
    have := hb s [.ref a, .int k tk] I.kIn (by simpa using hl)
    simpa using this) r2 hsp) fun r s' hq => ?_)
  cases r with
  | error e => exact hx pins σ H s e s' I hq
  | ok fl =>
    cases fl with
    | ret w =>
      obtain ⟨z, H', I', rz, ⟨r, ez, q⟩⟩ := I.after hq
      subst ez
      cases (show w = Value.ref r from rz)
      exact ⟨.ref r, H', I', rfl, q⟩
    | next => exact False.elim hq
    | brk => exact False.elim hq
    | cont => exact False.elim hq
def rLcm : List V → Hp → VK → Prop := fun vs H Q => ∃ a b : Int, vs = [.int a, .int b] ∧ a.natAbs < 2 ^ 64 ∧ b.natAbs < 2 ^ 64 ∧ Q (.int ((Nat.lcm a.natAbs b.natAbs : Nat) : Int)) H
theorem cr_lcm {X : Cx} : CallR X (.builtin "math.lcm") rLcm := by
  intro pins s σ H vs us Q I r h
  obtain ⟨a, b, rfl, h1, h2, q⟩ := h
  obtain ⟨t, u, rfl⟩ := Vals.int2 r
  exact PySem.W.mc_lcm h1 h2 fun _ => ⟨.int _, H, I.tok _, ⟨_, rfl⟩, q⟩
theorem rep_insA {ms : List Addr} {H : Hp} {C : Addr} {ns : List Str} {ds : List D} {x : V} (h : rep ms H (.ins C ns ds) x) : ∃ a dx fs, x = .ref a ∧ H a = some (.ins C dx fs) := by
  simp only [rep] at h
  obtain ⟨a, dx, us, rfl, na, ha, hn, hl⟩ := h
  exact ⟨a, dx, _, rfl, ha⟩
theorem rep_ownBin {ms : List Addr} {H : Hp} {C : Addr} {ns ns' : List Str} {ds ds' : List D} {x y : V} {sp : Sp} {E : XK} {Q : VK} (h : rep ms H (.ins C ns ds) x) (h' : rep ms H (.ins C ns' ds') y)
    (k : sp [x, y] H (fun v H' => ∃ p : Addr, v = .ref p ∧ Q v H') E) : rOwnBin C sp E x y H Q := by
  obtain ⟨a, dx, fs, e1, e2⟩ := rep_insA h
  obtain ⟨b, dy, gs, e3, e4⟩ := rep_insA h'
  exact ⟨a, dx, fs, b, dy, gs, e1, e2, e3, e4, k⟩
theorem rep_ownBinT {ms : List Addr} {H : Hp} {C : Addr} {ns : List Str} {ds : List D} {x : V} {n : Int} {sp : Sp} {E : XK} {Q : VK} (h : rep ms H (.ins C ns ds) x)
    (k : sp [x, .int n] H (fun v H' => ∃ p : Addr, v = .ref p ∧ Q v H') E) : rOwnBinT C sp E x (.int n) H Q := by
  obtain ⟨a, dx, fs, e1, e2⟩ := rep_insA h
  exact ⟨a, dx, fs, n, e1, e2, rfl, k⟩
section
variable {α γ β : Type} {K : PySem.W.Frag} {H1 : Hp} {g : TG} {tt : TT} {te : TE} {vl : List Nat} {σ : L2.St} {Qd : Hp → Prop} {L : Addr}
theorem lc_zipG {items : List α} {items2 : List γ} {e : α → D} {e2 : γ → D} {ms : List Addr} {a b : Addr} {xs zs : List V} {body : (α × γ) → (β → Prop) → Prop} {KM : List β → Prop} (SI : Nat → List β → Hp → Prop) (an : a ∉ ms) (ha : H1 a = some (.lst xs)) (hx : repL ms H1 (items.map e) xs)
    (bn : b ∉ ms) (hb : H1 b = some (.lst zs)) (hz : repL ms H1 (items2.map e2) zs) (nl : H1 L = none)
    (kp : ∀ n ys H, SI n ys H → Keep (L :: ms) H1 H) (tr : ∀ n ys H, SI n ys H → ∀ m ∈ L :: ms, H m ≠ none) (hM : (items.zip items2).length < 100000 ∧ mapC body (items.zip items2) [] KM) (h0 : SI 0 [] (upd H1 L (.lst [])))
    (hs : ∀ (x : α × γ) (u : V) (n : Nat) (ys : List β) (k : β → Prop) (H H2 : Hp), n < 100000 → SI n ys H → Ext H H2 → rep (L :: ms) H2 (.tup [e x.1, e2 x.2]) u → body x k → ∀ Nx : Hp → Prop, (∀ y H', k y → SI (n + 1) (ys ++ [y]) H' → Nx H') → Turn g tt te vl σ L u H2 Nx)
    (hd : ∀ n ys H, KM ys → SI n ys H → Qd H) :
    ∃ W : Nat → Nat → Hp → Prop, (∃ m, W 0 m (upd H1 L (.lst []))) ∧ ∀ i m H, W i m H →
      ((Itz K a b).stop i H ∧ Qd H) ∨ ((Itz K a b).go i H ∧ ∃ Nx : Hp → Prop, (∀ H', Nx H' → ∃ m', m' < m ∧ W (i + 1) m' H') ∧ ∀ x H', (Itz K a b).yld i H x H' → g x (wipe σ vl) H' fun σ2 H2 => wipe σ2 vl = wipe σ vl ∧ tt σ2 H2 fun b H3 =>
        if b = true then te σ2 H3 fun y H4 => ∃ acc, H4 L = some (.lst acc) ∧ acc.length < sizeLine ∧ Nx (upd H4 L (.lst (acc ++ [y]))) else Nx H3) := by
  obtain ⟨hn, hM⟩ := hM
  have hl : items.length = xs.length := by
    have := repL_len hx
    rwa [List.length_map] at this
  have hl2 : items2.length = zs.length := by
    have := repL_len hz
    rwa [List.length_map] at this
  have zl : (items.zip items2).length = min xs.length zs.length := by rw [List.length_zip, hl, hl2]
  have aM : a ∉ L :: ms := fun z => by
    rcases List.mem_cons.mp z with z | z
    · exact ne_of_none ha nl z
    · exact an z
  have bM : b ∉ L :: ms := fun z => by
    rcases List.mem_cons.mp z with z | z
    · exact ne_of_none hb nl z
    · exact bn z
  have hx1 : repL (L :: ms) H1 (items.map e) xs := repL_new nl hx
  have hz1 : repL (L :: ms) H1 (items2.map e2) zs := repL_new nl hz
  have w := walk_zip (K := K) (a := a) (b := b) (xs := xs) (ys := zs) (n := (items.zip items2).length) zl
  refine ⟨fun i m H => m = (items.zip items2).length - i ∧ i ≤ (items.zip items2).length ∧ ∃ ys, SI i ys H ∧ mapC body ((items.zip items2).drop i) ys KM, ⟨_, rfl, Nat.zero_le _, [], h0, hM⟩, ?_⟩
  rintro i m H ⟨rfl, hi', ys, T, q⟩
  have hA : H a = some (.lst xs) := kp i ys H T a _ aM ha
  have hB : H b = some (.lst zs) := kp i ys H T b _ bM hb
  have hG : SqL K H a xs ∧ SqL K H b zs := ⟨.inl (.inl hA), .inl (.inl hB)⟩
  by_cases hlt : i < (items.zip items2).length
  · refine .inr ⟨w.goes i H hlt hG, fun H' => i + 1 ≤ (items.zip items2).length ∧ ∃ ys, SI (i + 1) ys H' ∧ mapC body ((items.zip items2).drop (i + 1)) ys KM, fun H' p' => ⟨_, by omega, rfl, p'⟩, fun x H' y => ?_⟩
    obtain ⟨T', x1, x2, rfl, nT, eH, e1, e3⟩ := w.yields i H x H' hlt hG y
    have l1 : i < items.length := by rw [zl] at hlt; omega
    have l2 : i < items2.length := by rw [zl] at hlt; omega
    have hit : (items.zip items2)[i]? = some (items[i]'l1, items2[i]'l2) := by
      rw [List.getElem?_zip_eq_some]
      exact ⟨List.getElem?_eq_getElem l1, List.getElem?_eq_getElem l2⟩
    rw [drop_cons' hit] at q
    obtain ⟨v, hv, rv⟩ := repL_get (repL_keep (kp i ys H T) hx1) (j := i) (d := e (items[i]'l1)) (by rw [List.getElem?_map, List.getElem?_eq_getElem l1]; rfl)
    obtain ⟨v2, hv2, rv2⟩ := repL_get (repL_keep (kp i ys H T) hz1) (j := i) (d := e2 (items2[i]'l2)) (by rw [List.getElem?_map, List.getElem?_eq_getElem l2]; rfl)
    have e1 : xs[i]? = some x1 := e1
    have e3 : zs[i]? = some x2 := e3
    rw [e1] at hv
    rw [e3] at hv2
    have ev : x1 = v := Option.some.inj hv
    have ev2 : x2 = v2 := Option.some.inj hv2
    subst ev
    subst ev2
    exact hs _ _ i ys _ H H' (by omega) T (by rw [eH]; exact Ext.new nT) (rep_pair (tr i ys H T) nT eH rv rv2) q _ fun y H'' k T' => ⟨hlt, _, T', k⟩
  · have ei : i = (items.zip items2).length := by omega
    refine .inl ⟨by rw [ei]; exact w.stops H hG, ?_⟩
    rw [List.drop_of_length_le (by omega)] at q
    exact hd _ ys H q T
end
end Rx
namespace Rx
open PySem PySem.Spec PyProof.Rows L2
section
variable {K : PySem.W.Frag} {ms ms' ps : List Addr} {H0 H H' H1 : Hp} {L L' : Addr} {d d' : D} {ds : List D} {u x : V} {vs : List V}
/-- a tuple that is told: where it stands -/
theorem rep_tupAt (h : rep ms H (.tup ds) u) : ∃ (p : Addr) (vs : List V), u = .ref p ∧ p ∉ ms ∧ H p = some (.tup vs) ∧ repL ms H ds vs := by
  simp only [rep] at h
  obtain ⟨p, vs, e, np, hp, hl⟩ := h
  exact ⟨p, vs, e, np, hp, hl⟩
theorem mo_freshA {a b : Addr} {ds1 : List D} {vs1 vs2 : List V} (w : Wd ms ps [] H0 H) (na : H a = none) (hA : H' a = some (.lst vs1)) (hB : H' b = some (.lst vs2)) (hr : repL ms H' ds1 vs1) (hn : noMs ds1 = true) :
    MutO (b :: a :: ms) ps H0 H' a (.lst ds1) :=
  ⟨List.mem_cons_of_mem _ List.mem_cons_self, pot_new w na, wd_none w na, vs1, hA,
    repL_liftO (dr_here (L := b) (ms := a :: ms)) (by rw [hB]; trivial) ds1 vs1 hn (repL_liftO (dr_here (L := a) (ms := ms)) (by rw [hA]; trivial) ds1 vs1 hn hr)⟩
theorem mo_freshB {a b : Addr} {ds2 : List D} {vs1 vs2 : List V} (w : Wd ms ps [] H0 H) (nb : H b = none) (hA : H' a = some (.lst vs1)) (hB : H' b = some (.lst vs2)) (hr : repL ms H' ds2 vs2) (hn : noMs ds2 = true) :
    MutO (b :: a :: ms) ps H0 H' b (.lst ds2) :=
  ⟨List.mem_cons_self, pot_new w nb, wd_none w nb, vs2, hB,
    repL_liftO (dr_here (L := b) (ms := a :: ms)) (by rw [hB]; trivial) ds2 vs2 hn (repL_liftO (dr_here (L := a) (ms := ms)) (by rw [hA]; trivial) ds2 vs2 hn hr)⟩
theorem rep_opq {p a b : Addr} {x : V} {vs1 vs2 : List V} (n : p ∉ ms) (hp : H p = some (.tup [x, .ref a, .ref b])) (hA : H a = some (.lst vs1)) (hB : H b = some (.lst vs2)) : rep (b :: a :: ms) H (.tup [.v x, .v (.ref a), .v (.ref b)]) (.ref p) := by
  simp only [rep]
  refine ⟨p, _, rfl, fun z => ?_, hp, repL_cons rep_v (repL_cons rep_v (repL_cons rep_v repL_nil))⟩
  rcases List.mem_cons.mp z with z | z
  · rw [z, hB] at hp
    cases hp
  · rcases List.mem_cons.mp z with z | z
    · rw [z, hA] at hp
      cases hp
    · exact n z
theorem rep_retup {a b : Addr} {d1 d2 : D} (h : rep ms H (.tup [.v x, .v (.ref a), .v (.ref b)]) u) (h1 : rep ms H d1 (.ref a)) (h2 : rep ms H d2 (.ref b)) : rep ms H (.tup [.v x, d1, d2]) u := by
  obtain ⟨p, vs, rfl, np, hp, hr⟩ := rep_tupAt h
  obtain ⟨u0, us, rfl, h3, hr⟩ := repL_uncons hr
  obtain ⟨u1, us, rfl, h4, hr⟩ := repL_uncons hr
  obtain ⟨u2, us, rfl, h5, hr⟩ := repL_uncons hr
  obtain rfl := repL_empty hr
  obtain rfl := of_v h3
  obtain rfl := of_v h4
  obtain rfl := of_v h5
  simp only [rep]
  exact ⟨p, _, rfl, np, hp, repL_cons rep_v (repL_cons h1 (repL_cons h2 repL_nil))⟩
/-- a list said some times -/
theorem repL_rep {α : Type} {e : α → D} {xs : List α} (h : repL ms H (xs.map e) vs) : ∀ k : Nat, repL ms H (((List.replicate k xs).flatten).map e) (List.replicate k vs).flatten
  | 0 => repL_nil
  | k + 1 => by
    rw [List.replicate_succ, List.flatten_cons, List.map_append, List.replicate_succ, List.flatten_cons]
    exact repL_app h (repL_rep h k)
theorem rep_mulL {α : Type} {e : α → D} {xs : List α} {k : Int} {Q : VK} (h : rep ms H (.lst (xs.map e)) x) (hk : -(2 ^ 63) ≤ k ∧ k < 2 ^ 63 ∧ xs.length * k.toNat ≤ sizeLine)
    (q : ∀ vs, repL ms H (((List.replicate k.toNat xs).flatten).map e) vs → ∀ p, H p = none → Q (.ref p) (upd H p (.lst vs))) :
    ∃ (l : Addr) (k' : Int) (xs : List V), x = .ref l ∧ V.int k = .int k' ∧ H l = some (.lst xs) ∧ -(2 ^ 63) ≤ k' ∧ k' < 2 ^ 63 ∧ xs.length * k'.toNat ≤ sizeLine ∧ ∀ p, H p = none → Q (.ref p) (upd H p (.lst (List.replicate k'.toNat xs).flatten)) := by
  obtain ⟨l, vs, rfl, _, hl, hr⟩ := rep_lstAt h
  have e1 := repL_len hr
  rw [List.length_map] at e1
  exact ⟨l, k, vs, rfl, rfl, hl, hk.1, hk.2.1, by rw [← e1]; exact hk.2.2, q _ (repL_rep hr _)⟩
end
end Rx
namespace Rx
open PySem PySem.Spec PyProof.Rows L2
def max3 (a b c : Int) : Int := if (if a < b then b else a) < c then c else (if a < b then b else a)
theorem max3_int (a b c : Int) : L2.nuMax3 (.int a) (.int b) (.int c) = some (.int (max3 a b c)) := by
  unfold max3
  by_cases h1 : a < b
  · by_cases h2 : b < c <;> simp [L2.nuMax3, L2.nuMax2, L2.nuLt, L2.nuCB, h1, h2]
  · by_cases h2 : a < c <;> simp [L2.nuMax3, L2.nuMax2, L2.nuLt, L2.nuCB, h1, h2]
end Rx
namespace Rx
open PySem PySem.Spec PyProof.Rows L2
theorem wipe_get (σ : L2.St) : ∀ (vl : List Nat) (j : Nat), (L2.wipe σ vl)[j]? = if j ∈ vl then (if j < σ.length then some none else none) else σ[j]?
  | [], j => by simp [L2.wipe]
  | v :: vs, j => by
    show ((L2.wipe σ vs).set v none)[j]? = _
    rw [List.getElem?_set, L2.wipe_length, wipe_get σ vs j]
    by_cases h : v = j
    · subst h
      simp
    · have h' : ¬ j = v := fun z => h z.symm
      simp [h, h']
theorem wipe_set {σ : L2.St} {vl : List Nat} {i : Nat} {x : Option V} (h : i ∈ vl) : L2.wipe (List.set σ i x) vl = L2.wipe σ vl := by
  apply List.ext_getElem?
  intro j
  rw [wipe_get, wipe_get, List.length_set, List.getElem?_set]
  by_cases c : j ∈ vl
  · rw [if_pos c, if_pos c]
  · have n : ¬ i = j := fun z => c (by rw [← z]; exact h)
    simp [c, n]
theorem wipe_idem {σ : L2.St} {vl : List Nat} : L2.wipe (L2.wipe σ vl) vl = L2.wipe σ vl := by
  apply List.ext_getElem?
  intro j
  rw [wipe_get, L2.wipe_length, wipe_get]
  by_cases c : j ∈ vl <;> simp [c]
theorem rep_mulLC {α : Type} {e : α → D} {xs : List α} {k : Int} {σ : L2.St} {Q : VK} {ms : List Addr} {H : Hp} {x : V} (h : rep ms H (.lst (xs.map e)) x) (hk : -(2 ^ 63) ≤ k ∧ k < 2 ^ 63 ∧ xs.length * k.toNat ≤ sizeLine)
    (q : ∀ vs, repL ms H (((List.replicate k.toNat xs).flatten).map e) vs → ∀ p, H p = none → Q (.ref p) (upd H p (.lst vs))) : tC (V.int k) σ H fun y H2 => rRep x y H2 Q := rep_mulL h hk q
end Rx
namespace Rx
open PySem PySem.Spec PyProof.Rows L2
theorem gs_ne {σ : L2.St} {i j : Nat} {a : Option V} {r : Option (Option V)} (h : i ≠ j) (q : σ[j]? = r) : (List.set σ i a)[j]? = r := by
  rw [List.getElem?_set, if_neg h]
  exact q
theorem gs_eq {σ : L2.St} {i : Nat} {a : Option V} (h : i < σ.length) : (List.set σ i a)[i]? = some a := by
  rw [List.getElem?_set, if_pos rfl, if_pos h]
theorem gw_ne {σ : L2.St} {vl : List Nat} {j : Nat} {r : Option (Option V)} (h : j ∉ vl) (q : σ[j]? = r) : (L2.wipe σ vl)[j]? = r := by
  rw [wipe_get, if_neg h]
  exact q
end Rx
namespace Wm
open PySem PySem.Spec PyProof.Rows L2

abbrev L (z : Str) : List Nat := z.cps.toList
theorem len_L (z : Str) : z.length = (L z).length := by
  show z.cps.size = z.cps.toList.length
  simp
theorem L_mk (l : List Nat) : L ⟨l.toArray⟩ = l := by simp [L]
theorem mk_L (z : Str) : (⟨(L z).toArray⟩ : Str) = z := by
  cases z
  simp [L]
theorem L_ext {a b : Str} (h : L a = L b) : a = b := ext_toList h
theorem L_app (a b : Str) : L (a ++ b) = L a ++ L b := by
  show (a.cps ++ b.cps).toList = _
  simp [L]
theorem L_empty : L ("" : Str) = [] := by decide +kernel
theorem L_h : L ("h" : Str) = [104] := by decide +kernel
theorem L_a : L ("a" : Str) = [97] := by decide +kernel
theorem L_one (c : Nat) : L ⟨#[c]⟩ = [c] := by simp [L]
theorem h_mk : ("h" : Str) = ⟨#[104]⟩ := by decide +kernel
theorem a_mk : ("a" : Str) = ⟨#[97]⟩ := by decide +kernel
theorem eqS {a b : Str} : decide (V.str a = V.str b) = decide (L a = L b) := by
  by_cases h : a = b
  · subst h
    simp
  · rw [decide_eq_false (fun z => h (V.str.inj z)), decide_eq_false (fun z => h (L_ext z))]
theorem eqI {a b : Int} : decide (V.int a = V.int b) = decide (a = b) := by
  by_cases h : a = b
  · subst h
    simp
  · rw [decide_eq_false (fun z => h (V.int.inj z)), decide_eq_false h]

/-- how many signs c -/
def cn (c : Nat) (l : List Nat) : Int := ((l.count c : Nat) : Int)
theorem cn_nil (c : Nat) : cn c [] = 0 := rfl
theorem cn_app (c : Nat) (a b : List Nat) : cn c (a ++ b) = cn c a + cn c b := by
  unfold cn
  rw [List.count_append]
  omega
theorem cn_cons (c x : Nat) (l : List Nat) : cn c (x :: l) = (if x = c then 1 else 0) + cn c l := by
  unfold cn
  rw [List.count_cons]
  by_cases h : x = c
  · simp [h]
    omega
  · simp [h]
theorem cn_pos (c : Nat) (l : List Nat) : 0 ≤ cn c l := by
  unfold cn
  omega
theorem cn_le (c : Nat) (l : List Nat) : cn c l ≤ l.length := by
  unfold cn
  have := List.count_le_length (a := c) (l := l)
  omega
theorem cnt_cn (c : Nat) : ∀ l : List Nat, cnt c l = cn c l
  | [] => by rw [cn_nil]; rfl
  | x :: l => by rw [cn_cons, cnt_cons, cnt_cn c l]
theorem count_h (x : Str) : Txt.count x ("h" : Str) = cn 104 (L x) := by rw [h_mk, count_cnt, cnt_cn]
theorem count_a (x : Str) : Txt.count x ("a" : Str) = cn 97 (L x) := by rw [a_mk, count_cnt, cnt_cn]
theorem marks_all : ∀ l : List Nat, (∀ c ∈ l, c = 104 ∨ c = 97) → cn 104 l + cn 97 l = l.length
  | [], _ => rfl
  | x :: l, h => by
    have ih := marks_all l fun c hc => h c (List.mem_cons_of_mem _ hc)
    rw [cn_cons, cn_cons, List.length_cons]
    rcases h x List.mem_cons_self with e | e <;> subst e <;> simp <;> omega

/-- z[:k], 0 ≤ k -/
theorem cut_take (z : Str) {k : Int} (h : 0 ≤ k) : L (cutS z none (some k)) = (L z).take k.toNat := by
  unfold cutS
  rw [L_mk, HT.sIx_none, List.drop_zero, Nat.sub_zero]
  show List.take (if k < 0 then _ else min k.toNat z.length) z.cps.toList = _
  rw [if_neg (by omega)]
  rw [len_L]
  exact (List.take_eq_take_min).symm
theorem join_L (ys : List Str) : L (Txt.join ("" : Str) ys) = (ys.map L).flatten := by
  rw [TL.join_eq]
  show TL.tl (Str.join _ _) = _
  rw [TL.tl_join]
  show TL.joinL (L ("" : Str)) _ = _
  rw [L_empty]
  show _ = (ys.map TL.tl).flatten
  generalize ys.map TL.tl = ls
  induction ls with
  | nil => rfl
  | cons p ls ih =>
    cases ls with
    | nil => simp [TL.joinL]
    | cons q r =>
      show p ++ ([] ++ TL.joinL [] (q :: r)) = _
      rw [ih]
      simp

/-! ### the middle, said again and again -/
def cyc (m : List Nat) (k : Nat) : List Nat := (List.range k).map fun j => m.getD (j % m.length) 0
theorem cyc_len (m : List Nat) (k : Nat) : (cyc m k).length = k := by simp [cyc]
theorem cyc_get (m : List Nat) {k j : Nat} (h : j < k) : (cyc m k)[j]? = some (m.getD (j % m.length) 0) := by
  simp [cyc, List.getElem?_map, List.getElem?_range h]
theorem cyc_get' {m : List Nat} (hm : 0 < m.length) {k j : Nat} (h : j < k) : (cyc m k)[j]? = m[j % m.length]? := by
  rw [cyc_get m h]
  have := Nat.mod_lt j hm
  rw [List.getD_eq_getElem?_getD, List.getElem?_eq_getElem this]
  rfl
theorem cyc_take (m : List Nat) {k j : Nat} (h : j ≤ k) : (cyc m k).take j = cyc m j := by
  unfold cyc
  rw [← List.map_take, List.take_range, Nat.min_eq_left h]
theorem cyc_full {m : List Nat} : cyc m m.length = m := by
  apply List.ext_getElem?
  intro j
  by_cases h : j < m.length
  · rw [cyc_get' (by omega) h, Nat.mod_eq_of_lt h]
  · rw [List.getElem?_eq_none (by rw [cyc_len]; omega), List.getElem?_eq_none (by omega)]
theorem cyc_add {m : List Nat} (hm : 0 < m.length) (k : Nat) : cyc m (m.length + k) = m ++ cyc m k := by
  apply List.ext_getElem?
  intro j
  by_cases h : j < m.length
  · rw [cyc_get' hm (by omega), List.getElem?_append_left h, Nat.mod_eq_of_lt h]
  · rw [List.getElem?_append_right (by omega)]
    by_cases h2 : j < m.length + k
    · rw [cyc_get' hm h2, cyc_get' hm (by omega), Nat.mod_eq_sub_mod (by omega)]
    · rw [List.getElem?_eq_none (by rw [cyc_len]; omega), List.getElem?_eq_none (by rw [cyc_len]; omega)]
/-- how many c the first k of them have -/
def cyn (c : Nat) (m : List Nat) (k : Nat) : Int := ((k / m.length : Nat) : Int) * cn c m + cn c (m.take (k % m.length))
theorem cyn_eq (c : Nat) {m : List Nat} (hm : 0 < m.length) : ∀ k : Nat, cn c (cyc m k) = cyn c m k := by
  intro k
  induction k using Nat.strongRecOn with
  | ind k ih =>
    by_cases h : k < m.length
    · unfold cyn
      rw [Nat.div_eq_of_lt h, Nat.mod_eq_of_lt h]
      have e : cyc m k = m.take k := by
        have := cyc_take m (Nat.le_of_lt h)
        rw [cyc_full] at this
        exact this.symm
      rw [e]
      show _ = ((0 : Nat) : Int) * _ + _
      omega
    · obtain ⟨j, rfl⟩ : ∃ j, k = m.length + j := ⟨k - m.length, by omega⟩
      rw [cyc_add hm, cn_app, ih j (by omega)]
      unfold cyn
      rw [Nat.add_mod_left, Nat.add_div_left _ hm]
      rw [show (((j / m.length + 1 : Nat) : Int)) = ((j / m.length : Nat) : Int) + 1 by omega, Int.add_mul]
      omega
theorem cyn_add (c : Nat) {m : List Nat} (hm : 0 < m.length) (k : Nat) : cyn c m (k + m.length) = cyn c m k + cn c m := by
  rw [← cyn_eq c hm, ← cyn_eq c hm, Nat.add_comm, cyc_add hm, cn_app]
  omega
theorem cyn_mul (c : Nat) {m : List Nat} (hm : 0 < m.length) (k : Nat) : cyn c m (k * m.length) = (k : Int) * cn c m := by
  unfold cyn
  rw [Nat.mul_div_cancel _ hm, Nat.mul_mod_left, List.take_zero, cn_nil]
  omega

/-! ### rows -/
def row (h m t : List Nat) (n : Nat) : List Nat := h ++ cyc m (n - h.length - t.length) ++ t
section
variable {h m t : List Nat} {n : Nat}
theorem row_len (hn : h.length + t.length ≤ n) : (row h m t n).length = n := by
  unfold row
  rw [List.length_append, List.length_append, cyc_len]
  omega
theorem row_head {j : Nat} (hj : j < h.length) : (row h m t n)[j]? = h[j]? := by
  unfold row
  rw [List.append_assoc, List.getElem?_append_left hj]
theorem row_mid {j : Nat} (hm : 0 < m.length) (hn : h.length + t.length ≤ n) (h1 : h.length ≤ j) (h2 : j < n - t.length) : (row h m t n)[j]? = m[(j - h.length) % m.length]? := by
  unfold row
  rw [List.append_assoc, List.getElem?_append_right h1, List.getElem?_append_left (by rw [cyc_len]; omega), cyc_get' hm (by omega)]
theorem row_tail {j : Nat} (hn : h.length + t.length ≤ n) (h1 : n - t.length ≤ j) : (row h m t n)[j]? = t[j - (n - t.length)]? := by
  unfold row
  rw [List.getElem?_append_right (by rw [List.length_append, cyc_len]; omega)]
  congr 1
  rw [List.length_append, cyc_len]
  omega
/-- the homes of the first i places -/
def hom (c : Nat) (h m t : List Nat) (n i : Nat) : Int := cn c (h.take i) + cyn c m (min i (n - t.length) - h.length) + cn c (t.take (i - (n - t.length)))
theorem hom_eq (c : Nat) (hm : 0 < m.length) (hn : h.length + t.length ≤ n) (i : Nat) (hi : i ≤ n) : cn c ((row h m t n).take i) = hom c h m t n i := by
  unfold row hom
  rw [List.take_append, List.take_append, cn_app, cn_app, List.length_append, cyc_len]
  congr 2
  · rw [← cyn_eq c hm]
    by_cases h1 : i - h.length ≤ n - h.length - t.length
    · rw [cyc_take m h1]
      congr 2
      omega
    · rw [List.take_of_length_le (by rw [cyc_len]; omega)]
      congr 2
      omega
  · congr 1
    omega
theorem cn_succ (c : Nat) {l : List Nat} {i x : Nat} (hx : l[i]? = some x) : cn c (l.take (i + 1)) = cn c (l.take i) + (if x = c then 1 else 0) := by
  rw [List.take_add_one, hx, cn_app]
  show _ + cn c [x] = _
  rw [cn_cons, cn_nil]
  omega
end

theorem cyc_end {m : List Nat} (hm : 0 < m.length) (k : Nat) : cyc m (k * m.length) ++ m = cyc m ((k + 1) * m.length) := by
  apply List.ext_getElem?
  intro j
  by_cases h : j < k * m.length
  · rw [List.getElem?_append_left (by rw [cyc_len]; exact h), cyc_get' hm h, cyc_get' hm (by rw [Nat.succ_mul]; omega)]
  · rw [List.getElem?_append_right (by rw [cyc_len]; omega), cyc_len]
    by_cases h2 : j < (k + 1) * m.length
    · rw [cyc_get' hm h2]
      rw [Nat.succ_mul] at h2
      obtain ⟨i, rfl⟩ : ∃ i, j = i + k * m.length := ⟨j - k * m.length, by omega⟩
      rw [Nat.add_mul_mod_self_right, Nat.mod_eq_of_lt (by omega)]
      congr 1
      omega
    · rw [List.getElem?_eq_none (by rw [Nat.succ_mul] at h2; omega), List.getElem?_eq_none (by rw [cyc_len]; omega)]

/-! ### loops of mirrors -/
section
open Rx
variable {α β S : Type}
theorem mapC_ok {body : α → (β → Prop) → Prop} {k : List β → Prop} (g : α → β) : ∀ {xs : List α} {acc : List β}, (∀ x ∈ xs, ∀ k' : β → Prop, k' (g x) → body x k') → k (acc ++ xs.map g) → mapC body xs acc k
  | [], acc, _, q => by
    rw [List.map_nil, List.append_nil] at q
    exact q
  | x :: xs, acc, h, q => h x List.mem_cons_self _ (mapC_ok g (fun y hy => h y (List.mem_cons_of_mem _ hy)) (by rw [List.append_assoc]; exact q))
theorem mapC_any {body : α → (β → Prop) → Prop} {k : List β → Prop} (P : β → Prop) : ∀ {xs : List α} {acc : List β}, (∀ x ∈ xs, ∀ k' : β → Prop, (∀ y, P y → k' y) → body x k') → (∀ ys : List β, ys.length = xs.length → (∀ y ∈ ys, P y) → k (acc ++ ys)) → mapC body xs acc k
  | [], acc, _, q => by
    have := q [] rfl (fun _ h => absurd h List.not_mem_nil)
    rw [List.append_nil] at this
    exact this
  | x :: xs, acc, h, q => h x List.mem_cons_self _ fun y hy => mapC_any P (fun z hz => h z (List.mem_cons_of_mem _ hz)) fun ys hl hp => by
    rw [List.append_assoc]
    exact q (y :: ys) (congrArg Nat.succ hl) fun z hz => by
      rcases List.mem_cons.mp hz with e | hz
      · rw [e]
        exact hy
      · exact hp z hz
theorem filC_ok {body : α → (Option β → Prop) → Prop} {k : List β → Prop} (g : α → Option β) : ∀ {xs : List α} {acc : List β}, (∀ x ∈ xs, ∀ k' : Option β → Prop, k' (g x) → body x k') → k (acc ++ xs.filterMap g) → filC body xs acc k
  | [], acc, _, q => by
    rw [List.filterMap_nil, List.append_nil] at q
    exact q
  | x :: xs, acc, h, q => h x List.mem_cons_self _ (by
    show match g x with | some y => filC body xs (acc ++ [y]) k | none => filC body xs acc k
    cases e : g x with
    | none => exact filC_ok g (fun y hy => h y (List.mem_cons_of_mem _ hy)) (by rw [List.filterMap_cons_none e] at q; exact q)
    | some y => exact filC_ok g (fun y hy => h y (List.mem_cons_of_mem _ hy)) (by rw [List.filterMap_cons_some e] at q; rw [List.append_assoc]; exact q))
theorem forC_ok {body : α → S → (S → Prop) → Prop} {k : S → Prop} (I : S → Prop) : ∀ {xs : List α} {s0 : S}, (∀ x ∈ xs, ∀ (s : S) (k' : S → Prop), I s → (∀ s', I s' → k' s') → body x s k') → I s0 → (∀ s, I s → k s) → forC body xs s0 k
  | [], s0, _, i, q => q s0 i
  | x :: xs, s0, h, i, q => h x List.mem_cons_self s0 _ i fun s' i' => forC_ok I (fun y hy => h y (List.mem_cons_of_mem _ hy)) i' q
theorem whileC_ok {body : S → (S → Prop) → (S → Prop) → Prop} {k : S → Prop} (I : S → Prop) (μ : S → Nat) (h : ∀ (s : S) (k1 : S → Prop), I s → (∀ s', I s' → μ s' < μ s → k1 s') → body s k1 k) {s0 : S} (i : I s0) : ∃ n, whileC body n s0 k := by
  have go : ∀ (n : Nat) (s : S), μ s < n → I s → whileC body n s k := by
    intro n
    induction n with
    | zero => intro s hs; omega
    | succ n ih => intro s hs is; exact h s _ is fun s' is' hl => ih s' (by omega) is'
  exact ⟨_, go _ s0 (Nat.lt_succ_self _) i⟩
theorem rangeI_mem {lo hi x : Int} (h : x ∈ rangeI lo hi) : lo ≤ x ∧ x < hi := by
  unfold rangeI at h
  obtain ⟨i, hi', e⟩ := List.mem_map.mp h
  have := List.mem_range.mp hi'
  omega
end
end Wm
namespace Lw
open PySem PySem.Spec PyProof.Rows L2 Rx
abbrev St := L2.St
def topS (i : Nat) : Stmt := PySem.Challenge.pw_ringrows_k15_whole_forms_alike.main.body.getD i (.Pass ⟨0, 0, 0, 0⟩)
abbrev s_draw : Stmt := (topS 43)
abbrev s_pick : Stmt := (topS 44)
abbrev s_integer : Stmt := (topS 45)
abbrev s_parts : Stmt := (topS 46)
abbrev s_valueL : Stmt := (topS 47)
abbrev s_wider : Stmt := (topS 51)
abbrev s_later : Stmt := (topS 54)
abbrev s_beside : Stmt := (topS 55)
abbrev s_is_integer : Stmt := (topS 12)
abbrev s_is_count : Stmt := (topS 13)
abbrev s_check_first : Stmt := (topS 31)
abbrev s_is_list : Stmt := (topS 14)
abbrev s_check_values : Stmt := (topS 33)
abbrev s_is_row : Stmt := (topS 35)
abbrev s_check_rows : Stmt := (topS 34)
abbrev s_check_parts : Stmt := (topS 32)
abbrev s_Form_init : Stmt := (inClass (topS 27) 0)
abbrev s_form : Stmt := (topS 52)
abbrev s_unlike : Stmt := (topS 53)
abbrev s_Form_first : Stmt := (inClass (topS 27) 2)
abbrev s_Form_begin : Stmt := (inClass (topS 27) 3)
abbrev s_Form_period : Stmt := (inClass (topS 27) 4)
abbrev s_row_value : Stmt := (topS 16)
abbrev s_place_value : Stmt := (topS 17)
abbrev s_value : Stmt := (topS 37)
abbrev s_spread_row : Stmt := (topS 18)
abbrev s_spread : Stmt := (topS 19)
abbrev s_Reckoned_init : Stmt := (inClass (topS 26) 0)
abbrev s_reckoned_form : Stmt := (topS 28)
abbrev s_joined : Stmt := (topS 38)
abbrev s_fewest_early : Stmt := (topS 22)
abbrev s_folded : Stmt := (topS 20)
abbrev s_fewest_rows : Stmt := (topS 21)
abbrev s_Form_reduced : Stmt := (inClass (topS 27) 7)
abbrev s_Form_sub : Stmt := (inClass (topS 27) 11)
abbrev s_first_unlike : Stmt := (topS 30)
abbrev s_same_values : Stmt := (topS 29)
abbrev s_checked : Stmt := (topS 36)
abbrev s_lifted : Stmt := (topS 39)
abbrev s_Form_add : Stmt := (inClass (topS 27) 9)
abbrev s_are_right : Stmt := (topS 56)
abbrev s_right : Stmt := (topS 57)
abbrev s_pot : Stmt := (topS 42)
abbrev s_law : Stmt := (topS 58)
theorem sc_draw : FnScope ["_law_pot_here", "_law_size", "_law_digit"] ["_law_pot_here", "_law_size"] (defScope s_draw) := ⟨rfl, rfl, rfl, by decide +kernel, rfl, by decide +kernel, by decide +kernel⟩
theorem sc_pick : FnScope ["_law_pot_here", "_law_some"] ["_law_pot_here", "_law_some"] (defScope s_pick) := ⟨rfl, rfl, rfl, by decide +kernel, rfl, by decide +kernel, by decide +kernel⟩
theorem sc_integer : FnScope ["_law_pot_here", "_law_found"] ["_law_pot_here"] (defScope s_integer) := ⟨rfl, rfl, rfl, by decide +kernel, rfl, by decide +kernel, by decide +kernel⟩
theorem sc_parts : FnScope ["_law_pot_here", "_law_most", "_law_first", "_law_early", "_law_rows", "_law_turn", "_law_shape"] ["_law_pot_here", "_law_most"] (defScope s_parts) := ⟨rfl, rfl, rfl, by decide +kernel, rfl, by decide +kernel, by decide +kernel⟩
theorem sc_valueL : FnScope ["_law_parts_here", "_law_place", "_law_first", "_law_early", "_law_rows", "_law_turn", "_law_rest", "_law_a", "_law_b", "_law_c"] ["_law_parts_here", "_law_place"] (defScope s_valueL) := ⟨rfl, rfl, rfl, by decide +kernel, rfl, by decide +kernel, by decide +kernel⟩
theorem sc_wider : FnScope ["_law_parts_here", "_law_times", "_law_more", "_law_first", "_law_early", "_law_rows", "_law_begin", "_law_later_here", "_law_size", "_law_rest", "_law_told", "_law_a", "_law_turn", "_law_step"] ["_law_parts_here", "_law_times", "_law_more"] (defScope s_wider) := ⟨rfl, rfl, rfl, by decide +kernel, rfl, by decide +kernel, by decide +kernel⟩
theorem sc_later : FnScope ["_law_parts_here", "_law_more", "_law_first", "_law_early", "_law_rows"] ["_law_parts_here", "_law_more"] (defScope s_later) := ⟨rfl, rfl, rfl, by decide +kernel, rfl, by decide +kernel, by decide +kernel⟩
theorem sc_beside : FnScope ["_law_pot_here", "_law_parts_here", "_law_way", "_law_wider_here", "_law_first", "_law_early", "_law_rows", "_law_at", "_law_root", "_law_a", "_law_b", "_law_c", "_law_second", "_law_changed"] ["_law_pot_here", "_law_parts_here"] (defScope s_beside) := ⟨rfl, rfl, rfl, by decide +kernel, rfl, by decide +kernel, by decide +kernel⟩
theorem sc_is_integer : FnScope ["value"] ["value"] (defScope s_is_integer) := ⟨rfl, rfl, rfl, by decide +kernel, rfl, by decide +kernel, by decide +kernel⟩
theorem sc_is_count : FnScope ["value"] ["value"] (defScope s_is_count) := ⟨rfl, rfl, rfl, by decide +kernel, rfl, by decide +kernel, by decide +kernel⟩
theorem sc_check_first : FnScope ["first"] ["first"] (defScope s_check_first) := ⟨rfl, rfl, rfl, by decide +kernel, rfl, by decide +kernel, by decide +kernel⟩
theorem sc_is_list : FnScope ["value"] ["value"] (defScope s_is_list) := ⟨rfl, rfl, rfl, by decide +kernel, rfl, by decide +kernel, by decide +kernel⟩
theorem sc_check_values : FnScope ["early", "position", "value"] ["early"] (defScope s_check_values) := ⟨rfl, rfl, rfl, by decide +kernel, rfl, by decide +kernel, by decide +kernel⟩
theorem sc_is_row : FnScope ["value", "part"] ["value"] (defScope s_is_row) := ⟨rfl, rfl, rfl, by decide +kernel, rfl, by decide +kernel, by decide +kernel⟩
theorem sc_check_rows : FnScope ["rows", "position", "row"] ["rows"] (defScope s_check_rows) := ⟨rfl, rfl, rfl, by decide +kernel, rfl, by decide +kernel, by decide +kernel⟩
theorem sc_check_parts : FnScope ["first", "early", "rows"] ["first", "early", "rows"] (defScope s_check_parts) := ⟨rfl, rfl, rfl, by decide +kernel, rfl, by decide +kernel, by decide +kernel⟩
theorem sc_Form_init : FnScope ["self", "first", "early", "rows", "row"] ["self", "first", "early", "rows"] (defScope s_Form_init) := ⟨rfl, rfl, rfl, by decide +kernel, rfl, by decide +kernel, by decide +kernel⟩
theorem sc_form : FnScope ["_law_parts_here"] ["_law_parts_here"] (defScope s_form) := ⟨rfl, rfl, rfl, by decide +kernel, rfl, by decide +kernel, by decide +kernel⟩
theorem sc_unlike : FnScope ["_law_mine", "_law_theirs", "_law_low", "_law_high", "_law_place"] ["_law_mine", "_law_theirs"] (defScope s_unlike) := ⟨rfl, rfl, rfl, by decide +kernel, rfl, by decide +kernel, by decide +kernel⟩
theorem sc_Form_first : FnScope ["self"] ["self"] (defScope s_Form_first) := ⟨rfl, rfl, rfl, by decide +kernel, rfl, by decide +kernel, by decide +kernel⟩
theorem sc_Form_begin : FnScope ["self"] ["self"] (defScope s_Form_begin) := ⟨rfl, rfl, rfl, by decide +kernel, rfl, by decide +kernel, by decide +kernel⟩
theorem sc_Form_period : FnScope ["self"] ["self"] (defScope s_Form_period) := ⟨rfl, rfl, rfl, by decide +kernel, rfl, by decide +kernel, by decide +kernel⟩
theorem sc_row_value : FnScope ["row", "turn", "a", "b", "c"] ["row", "turn"] (defScope s_row_value) := ⟨rfl, rfl, rfl, by decide +kernel, rfl, by decide +kernel, by decide +kernel⟩
theorem sc_place_value : FnScope ["rows", "place", "turn", "rest"] ["rows", "place"] (defScope s_place_value) := ⟨rfl, rfl, rfl, by decide +kernel, rfl, by decide +kernel, by decide +kernel⟩
theorem sc_value : FnScope ["form", "place"] ["form", "place"] (defScope s_value) := ⟨rfl, rfl, rfl, by decide +kernel, rfl, by decide +kernel, by decide +kernel⟩
theorem sc_spread_row : FnScope ["row", "many", "ahead", "a", "b", "c"] ["row", "many", "ahead"] (defScope s_spread_row) := ⟨rfl, rfl, rfl, by decide +kernel, rfl, by decide +kernel, by decide +kernel⟩
theorem sc_spread : FnScope ["rows", "period", "few", "rest"] ["rows", "period"] (defScope s_spread) := ⟨rfl, rfl, rfl, by decide +kernel, rfl, by decide +kernel, by decide +kernel⟩
theorem sc_Reckoned_init : FnScope ["self", "parts"] ["self", "parts"] (defScope s_Reckoned_init) := ⟨rfl, rfl, rfl, by decide +kernel, rfl, by decide +kernel, by decide +kernel⟩
theorem sc_reckoned_form : FnScope ["first", "early", "rows"] ["first", "early", "rows"] (defScope s_reckoned_form) := ⟨rfl, rfl, rfl, by decide +kernel, rfl, by decide +kernel, by decide +kernel⟩
theorem sc_joined : FnScope ["one", "other", "sign", "first", "begin", "period", "early", "mine", "others", "rows", "place", "a", "b", "c", "d", "e", "f"] ["one", "other", "sign"] (defScope s_joined) := ⟨rfl, rfl, rfl, by decide +kernel, rfl, by decide +kernel, by decide +kernel⟩
theorem sc_fewest_early : FnScope ["first", "early", "rows", "many"] ["first", "early", "rows"] (defScope s_fewest_early) := ⟨rfl, rfl, rfl, by decide +kernel, rfl, by decide +kernel, by decide +kernel⟩
theorem sc_folded : FnScope ["rows", "period", "many", "a", "b", "c"] ["rows", "period"] (defScope s_folded) := ⟨rfl, rfl, rfl, by decide +kernel, rfl, by decide +kernel, by decide +kernel⟩
theorem sc_fewest_rows : FnScope ["rows", "period", "fewer"] ["rows"] (defScope s_fewest_rows) := ⟨rfl, rfl, rfl, by decide +kernel, rfl, by decide +kernel, by decide +kernel⟩
theorem sc_Form_reduced : FnScope ["self", "early"] ["self"] (defScope s_Form_reduced) := ⟨rfl, rfl, rfl, by decide +kernel, rfl, by decide +kernel, by decide +kernel⟩
theorem sc_Form_sub : FnScope ["self", "other"] ["self", "other"] (defScope s_Form_sub) := ⟨rfl, rfl, rfl, by decide +kernel, rfl, by decide +kernel, by decide +kernel⟩
theorem sc_first_unlike : FnScope ["one", "other", "between", "place"] ["one", "other"] (defScope s_first_unlike) := ⟨rfl, rfl, rfl, by decide +kernel, rfl, by decide +kernel, by decide +kernel⟩
theorem sc_same_values : FnScope ["one", "other"] ["one", "other"] (defScope s_same_values) := ⟨rfl, rfl, rfl, by decide +kernel, rfl, by decide +kernel, by decide +kernel⟩
theorem sc_checked : FnScope ["number"] ["number"] (defScope s_checked) := ⟨rfl, rfl, rfl, by decide +kernel, rfl, by decide +kernel, by decide +kernel⟩
theorem sc_lifted : FnScope ["form", "number", "early", "value", "a", "b", "c"] ["form", "number"] (defScope s_lifted) := ⟨rfl, rfl, rfl, by decide +kernel, rfl, by decide +kernel, by decide +kernel⟩
theorem sc_Form_add : FnScope ["self", "other"] ["self", "other"] (defScope s_Form_add) := ⟨rfl, rfl, rfl, by decide +kernel, rfl, by decide +kernel, by decide +kernel⟩
theorem sc_are_right : FnScope ["_law_mine", "_law_theirs", "_law_left", "_law_right_here", "_law_due", "_law_told"] ["_law_mine", "_law_theirs"] (defScope s_are_right) := ⟨rfl, rfl, rfl, by decide +kernel, rfl, by decide +kernel, by decide +kernel⟩
theorem sc_right : FnScope ["_law_pot_here", "_law_turn", "_law_mine"] ["_law_pot_here"] (defScope s_right) := ⟨rfl, rfl, rfl, by decide +kernel, rfl, by decide +kernel, by decide +kernel⟩
theorem sc_pot : FnScope ["_law_script", "_law_k", "_law_figures"] ["_law_script", "_law_k"] (defScope s_pot) := ⟨rfl, rfl, rfl, by decide +kernel, rfl, by decide +kernel, by decide +kernel⟩
theorem sc_law : FnScope ["_law_script", "_law_k"] ["_law_script"] (defScope s_law) := ⟨rfl, rfl, rfl, by decide +kernel, rfl, by decide +kernel, by decide +kernel⟩
structure Ad where
  a_draw : Addr
  d_draw : FuncData
  a_pick : Addr
  d_pick : FuncData
  a_integer : Addr
  d_integer : FuncData
  a_parts : Addr
  d_parts : FuncData
  a_valueL : Addr
  d_valueL : FuncData
  a_wider : Addr
  d_wider : FuncData
  a_later : Addr
  d_later : FuncData
  a_beside : Addr
  d_beside : FuncData
  a_is_integer : Addr
  d_is_integer : FuncData
  a_is_count : Addr
  d_is_count : FuncData
  a_check_first : Addr
  d_check_first : FuncData
  a_is_list : Addr
  d_is_list : FuncData
  a_check_values : Addr
  d_check_values : FuncData
  a_is_row : Addr
  d_is_row : FuncData
  a_check_rows : Addr
  d_check_rows : FuncData
  a_check_parts : Addr
  d_check_parts : FuncData
  a_Form_init : Addr
  d_Form_init : FuncData
  a_form : Addr
  d_form : FuncData
  a_unlike : Addr
  d_unlike : FuncData
  a_Form_first : Addr
  d_Form_first : FuncData
  a_Form_begin : Addr
  d_Form_begin : FuncData
  a_Form_period : Addr
  d_Form_period : FuncData
  a_row_value : Addr
  d_row_value : FuncData
  a_place_value : Addr
  d_place_value : FuncData
  a_value : Addr
  d_value : FuncData
  a_spread_row : Addr
  d_spread_row : FuncData
  a_spread : Addr
  d_spread : FuncData
  a_Reckoned_init : Addr
  d_Reckoned_init : FuncData
  a_reckoned_form : Addr
  d_reckoned_form : FuncData
  a_joined : Addr
  d_joined : FuncData
  a_fewest_early : Addr
  d_fewest_early : FuncData
  a_folded : Addr
  d_folded : FuncData
  a_fewest_rows : Addr
  d_fewest_rows : FuncData
  a_Form_reduced : Addr
  d_Form_reduced : FuncData
  a_Form_sub : Addr
  d_Form_sub : FuncData
  a_first_unlike : Addr
  d_first_unlike : FuncData
  a_same_values : Addr
  d_same_values : FuncData
  a_checked : Addr
  d_checked : FuncData
  a_lifted : Addr
  d_lifted : FuncData
  a_Form_add : Addr
  d_Form_add : FuncData
  a_are_right : Addr
  d_are_right : FuncData
  a_right : Addr
  d_right : FuncData
  a_pot : Addr
  d_pot : FuncData
  a_law : Addr
  d_law : FuncData
  c_Form : Addr
  c_Reckoned : Addr
  pa_Form_begin : Addr
  pa_Form_first : Addr
  pa_Form_period : Addr
structure Txt (w : World) (K : PySem.W.Frag) (mg : Str → Option Value) (A : Ad) : Prop where
  F_draw : Fun K "_law_draw" "_law_draw" s_draw A.a_draw A.d_draw
  b_draw : Binds K A.d_draw ["_law_pot_here", "_law_size"] []
  g_draw : mg "_law_draw" = some (.ref A.a_draw)
  F_pick : Fun K "_law_pick" "_law_pick" s_pick A.a_pick A.d_pick
  b_pick : Binds K A.d_pick ["_law_pot_here", "_law_some"] []
  g_pick : mg "_law_pick" = some (.ref A.a_pick)
  F_integer : Fun K "_law_integer" "_law_integer" s_integer A.a_integer A.d_integer
  b_integer : Binds K A.d_integer ["_law_pot_here"] []
  g_integer : mg "_law_integer" = some (.ref A.a_integer)
  F_parts : Fun K "_law_parts" "_law_parts" s_parts A.a_parts A.d_parts
  b_parts : Binds K A.d_parts ["_law_pot_here", "_law_most"] []
  g_parts : mg "_law_parts" = some (.ref A.a_parts)
  F_valueL : Fun K "_law_value" "_law_value" s_valueL A.a_valueL A.d_valueL
  b_valueL : Binds K A.d_valueL ["_law_parts_here", "_law_place"] []
  g_valueL : mg "_law_value" = some (.ref A.a_valueL)
  F_wider : Fun K "_law_wider" "_law_wider" s_wider A.a_wider A.d_wider
  b_wider : Binds K A.d_wider ["_law_parts_here", "_law_times", "_law_more"] []
  g_wider : mg "_law_wider" = some (.ref A.a_wider)
  F_later : Fun K "_law_later" "_law_later" s_later A.a_later A.d_later
  b_later : Binds K A.d_later ["_law_parts_here", "_law_more"] []
  g_later : mg "_law_later" = some (.ref A.a_later)
  F_beside : Fun K "_law_beside" "_law_beside" s_beside A.a_beside A.d_beside
  b_beside : Binds K A.d_beside ["_law_pot_here", "_law_parts_here"] []
  g_beside : mg "_law_beside" = some (.ref A.a_beside)
  F_is_integer : Fun K "is_integer" "is_integer" s_is_integer A.a_is_integer A.d_is_integer
  b_is_integer : Binds K A.d_is_integer ["value"] []
  g_is_integer : mg "is_integer" = some (.ref A.a_is_integer)
  F_is_count : Fun K "is_count" "is_count" s_is_count A.a_is_count A.d_is_count
  b_is_count : Binds K A.d_is_count ["value"] []
  g_is_count : mg "is_count" = some (.ref A.a_is_count)
  F_check_first : Fun K "_check_first" "_check_first" s_check_first A.a_check_first A.d_check_first
  b_check_first : Binds K A.d_check_first ["first"] []
  g_check_first : mg "_check_first" = some (.ref A.a_check_first)
  F_is_list : Fun K "is_list" "is_list" s_is_list A.a_is_list A.d_is_list
  b_is_list : Binds K A.d_is_list ["value"] []
  g_is_list : mg "is_list" = some (.ref A.a_is_list)
  F_check_values : Fun K "_check_values" "_check_values" s_check_values A.a_check_values A.d_check_values
  b_check_values : Binds K A.d_check_values ["early"] []
  g_check_values : mg "_check_values" = some (.ref A.a_check_values)
  F_is_row : Fun K "_is_row" "_is_row" s_is_row A.a_is_row A.d_is_row
  b_is_row : Binds K A.d_is_row ["value"] []
  g_is_row : mg "_is_row" = some (.ref A.a_is_row)
  F_check_rows : Fun K "_check_rows" "_check_rows" s_check_rows A.a_check_rows A.d_check_rows
  b_check_rows : Binds K A.d_check_rows ["rows"] []
  g_check_rows : mg "_check_rows" = some (.ref A.a_check_rows)
  F_check_parts : Fun K "_check_parts" "_check_parts" s_check_parts A.a_check_parts A.d_check_parts
  b_check_parts : Binds K A.d_check_parts ["first", "early", "rows"] []
  g_check_parts : mg "_check_parts" = some (.ref A.a_check_parts)
  F_Form_init : Fun K "__init__" "Form.__init__" s_Form_init A.a_Form_init A.d_Form_init
  b_Form_init : Binds K A.d_Form_init ["self", "first", "early", "rows"] []
  F_form : Fun K "_law_form" "_law_form" s_form A.a_form A.d_form
  b_form : Binds K A.d_form ["_law_parts_here"] []
  g_form : mg "_law_form" = some (.ref A.a_form)
  F_unlike : Fun K "_law_unlike" "_law_unlike" s_unlike A.a_unlike A.d_unlike
  b_unlike : Binds K A.d_unlike ["_law_mine", "_law_theirs"] []
  g_unlike : mg "_law_unlike" = some (.ref A.a_unlike)
  F_Form_first : Fun K "first" "Form.first" s_Form_first A.a_Form_first A.d_Form_first
  b_Form_first : Binds K A.d_Form_first ["self"] []
  p_Form_first : PropOf K A.c_Form "first" A.pa_Form_first A.a_Form_first
  F_Form_begin : Fun K "begin" "Form.begin" s_Form_begin A.a_Form_begin A.d_Form_begin
  b_Form_begin : Binds K A.d_Form_begin ["self"] []
  p_Form_begin : PropOf K A.c_Form "begin" A.pa_Form_begin A.a_Form_begin
  F_Form_period : Fun K "period" "Form.period" s_Form_period A.a_Form_period A.d_Form_period
  b_Form_period : Binds K A.d_Form_period ["self"] []
  p_Form_period : PropOf K A.c_Form "period" A.pa_Form_period A.a_Form_period
  F_row_value : Fun K "row_value" "row_value" s_row_value A.a_row_value A.d_row_value
  b_row_value : Binds K A.d_row_value ["row", "turn"] []
  g_row_value : mg "row_value" = some (.ref A.a_row_value)
  F_place_value : Fun K "place_value" "place_value" s_place_value A.a_place_value A.d_place_value
  b_place_value : Binds K A.d_place_value ["rows", "place"] []
  g_place_value : mg "place_value" = some (.ref A.a_place_value)
  F_value : Fun K "_value" "_value" s_value A.a_value A.d_value
  b_value : Binds K A.d_value ["form", "place"] []
  g_value : mg "_value" = some (.ref A.a_value)
  F_spread_row : Fun K "spread_row" "spread_row" s_spread_row A.a_spread_row A.d_spread_row
  b_spread_row : Binds K A.d_spread_row ["row", "many", "ahead"] []
  g_spread_row : mg "spread_row" = some (.ref A.a_spread_row)
  F_spread : Fun K "spread" "spread" s_spread A.a_spread A.d_spread
  b_spread : Binds K A.d_spread ["rows", "period"] []
  g_spread : mg "spread" = some (.ref A.a_spread)
  F_Reckoned_init : Fun K "__init__" "Reckoned.__init__" s_Reckoned_init A.a_Reckoned_init A.d_Reckoned_init
  b_Reckoned_init : Binds K A.d_Reckoned_init ["self", "parts"] []
  F_reckoned_form : Fun K "reckoned_form" "reckoned_form" s_reckoned_form A.a_reckoned_form A.d_reckoned_form
  b_reckoned_form : Binds K A.d_reckoned_form ["first", "early", "rows"] []
  g_reckoned_form : mg "reckoned_form" = some (.ref A.a_reckoned_form)
  F_joined : Fun K "_joined" "_joined" s_joined A.a_joined A.d_joined
  b_joined : Binds K A.d_joined ["one", "other", "sign"] []
  g_joined : mg "_joined" = some (.ref A.a_joined)
  F_fewest_early : Fun K "fewest_early" "fewest_early" s_fewest_early A.a_fewest_early A.d_fewest_early
  b_fewest_early : Binds K A.d_fewest_early ["first", "early", "rows"] []
  g_fewest_early : mg "fewest_early" = some (.ref A.a_fewest_early)
  F_folded : Fun K "folded" "folded" s_folded A.a_folded A.d_folded
  b_folded : Binds K A.d_folded ["rows", "period"] []
  g_folded : mg "folded" = some (.ref A.a_folded)
  F_fewest_rows : Fun K "fewest_rows" "fewest_rows" s_fewest_rows A.a_fewest_rows A.d_fewest_rows
  b_fewest_rows : Binds K A.d_fewest_rows ["rows"] []
  g_fewest_rows : mg "fewest_rows" = some (.ref A.a_fewest_rows)
  F_Form_reduced : Fun K "reduced" "Form.reduced" s_Form_reduced A.a_Form_reduced A.d_Form_reduced
  b_Form_reduced : Binds K A.d_Form_reduced ["self"] []
  m_Form_reduced : Meth K A.c_Form "reduced" A.a_Form_reduced
  F_Form_sub : Fun K "__sub__" "Form.__sub__" s_Form_sub A.a_Form_sub A.d_Form_sub
  b_Form_sub : Binds K A.d_Form_sub ["self", "other"] []
  m_Form_sub : Meth K A.c_Form "__sub__" A.a_Form_sub
  F_first_unlike : Fun K "first_unlike" "first_unlike" s_first_unlike A.a_first_unlike A.d_first_unlike
  b_first_unlike : Binds K A.d_first_unlike ["one", "other"] []
  g_first_unlike : mg "first_unlike" = some (.ref A.a_first_unlike)
  F_same_values : Fun K "same_values" "same_values" s_same_values A.a_same_values A.d_same_values
  b_same_values : Binds K A.d_same_values ["one", "other"] []
  g_same_values : mg "same_values" = some (.ref A.a_same_values)
  F_checked : Fun K "_checked" "_checked" s_checked A.a_checked A.d_checked
  b_checked : Binds K A.d_checked ["number"] []
  g_checked : mg "_checked" = some (.ref A.a_checked)
  F_lifted : Fun K "_lifted" "_lifted" s_lifted A.a_lifted A.d_lifted
  b_lifted : Binds K A.d_lifted ["form", "number"] []
  g_lifted : mg "_lifted" = some (.ref A.a_lifted)
  F_Form_add : Fun K "__add__" "Form.__add__" s_Form_add A.a_Form_add A.d_Form_add
  b_Form_add : Binds K A.d_Form_add ["self", "other"] []
  m_Form_add : Meth K A.c_Form "__add__" A.a_Form_add
  F_are_right : Fun K "_law_are_right" "_law_are_right" s_are_right A.a_are_right A.d_are_right
  b_are_right : Binds K A.d_are_right ["_law_mine", "_law_theirs"] []
  g_are_right : mg "_law_are_right" = some (.ref A.a_are_right)
  F_right : Fun K "_law_right" "_law_right" s_right A.a_right A.d_right
  b_right : Binds K A.d_right ["_law_pot_here"] []
  g_right : mg "_law_right" = some (.ref A.a_right)
  F_pot : Fun K "_law_pot" "_law_pot" s_pot A.a_pot A.d_pot
  b_pot : Binds K A.d_pot ["_law_script", "_law_k"] []
  g_pot : mg "_law_pot" = some (.ref A.a_pot)
  F_law : Fun K "law" "law" s_law A.a_law A.d_law
  b_law : Binds K A.d_law ["_law_script"] []
  g_law : mg "law" = some (.ref A.a_law)
  cl_Form : Cls K A.c_Form
  g_Form : mg "Form" = some (.ref A.c_Form)
  mk_Form : Mk K A.c_Form A.a_Form_init
  na_Form__first : NoAttr K A.c_Form "_first"
  na_Form__early : NoAttr K A.c_Form "_early"
  na_Form__rows : NoAttr K A.c_Form "_rows"
  cl_Reckoned : Cls K A.c_Reckoned
  g_Reckoned : mg "Reckoned" = some (.ref A.c_Reckoned)
  mk_Reckoned : Mk K A.c_Reckoned A.a_Reckoned_init
  na_Reckoned_parts : NoAttr K A.c_Reckoned "parts"
  ic_Form : IsC K A.c_Form
  ic_Reckoned : IsC K A.c_Reckoned
  in_Form : IsN K A.c_Form
  in_Reckoned : IsN K A.c_Reckoned
  obt_Form_Add : OwnBinT K A.c_Form .Add A.a_Form_add
  ob_Form_Sub : OwnBin K A.c_Form .Sub A.a_Form_sub
  z_abs : mg "abs" = none
  z_all : mg "all" = none
  z_bool : mg "bool" = none
  z_dict : mg "dict" = none
  z_divmod : mg "divmod" = none
  z_enumerate : mg "enumerate" = none
  z_int : mg "int" = none
  z_isinstance : mg "isinstance" = none
  z_len : mg "len" = none
  z_list : mg "list" = none
  z_max : mg "max" = none
  z_min : mg "min" = none
  z_range : mg "range" = none
  z_repr : mg "repr" = none
  z_tuple : mg "tuple" = none
  z_zip : mg "zip" = none
  i_lcm : mg "lcm" = some (.builtin "math.lcm")
  c_MOST_ROWS : ∃ u, mg "MOST_ROWS" = some u ∧ RelV (.int 24) u
  c_MOST_VALUES : ∃ u, mg "MOST_VALUES" = some u ∧ RelV (.int 200) u
  k_first_unlike_other_one : KBn K A.d_first_unlike ["one", "other"] 0 ["other", "one"] (fun us ws => us ++ [ws.getD 1 .none, ws.getD 0 .none]) (fun us ws => us ++ [ws.getD 1 .non, ws.getD 0 .non])
  k_same_values_other_one : KBn K A.d_same_values ["one", "other"] 0 ["other", "one"] (fun us ws => us ++ [ws.getD 1 .none, ws.getD 0 .none]) (fun us ws => us ++ [ws.getD 1 .non, ws.getD 0 .non])
abbrev ns_Form : List Str := ["_first", "_early", "_rows"]
theorem nd_Form : ns_Form.Nodup := by decide +kernel
abbrev eForm (A : Ad) (x : (Int × List Int × List (Int × Int × Int))) : D := .ins A.c_Form ns_Form [(D.v (V.int x.1)), (D.lst (x.2.1.map (fun y_ : Int => (D.v (V.int y_))))), (D.lst (x.2.2.map (fun y_ : (Int × Int × Int) => (D.tup [(D.v (V.int y_.1)), (D.v (V.int y_.2.1)), (D.v (V.int y_.2.2))]))))]
abbrev ns_Reckoned : List Str := ["parts"]
theorem nd_Reckoned : ns_Reckoned.Nodup := by decide +kernel
abbrev eReckonedI (A : Ad) (x : (List Int)) : D := .ins A.c_Reckoned ns_Reckoned [(D.lst (x.map (fun y_ : Int => (D.v (V.int y_)))))]
abbrev eReckonedR (A : Ad) (x : (List (Int × Int × Int))) : D := .ins A.c_Reckoned ns_Reckoned [(D.lst (x.map (fun y_ : (Int × Int × Int) => (D.tup [(D.v (V.int y_.1)), (D.v (V.int y_.2.1)), (D.v (V.int y_.2.2))]))))]
/-! ### draws: any number below the size -/
def M_draw (x_size : Int) (KM : Int → Prop) : Prop := (0 < x_size ∧ Nat.log2 x_size.natAbs < 9000) ∧ ∀ d : Int, 0 ≤ d → d < x_size → KM d
def sp_draw (A : Ad) : Sp := fun vs H Q _ => ∃ (ms : List Addr) (ap : Addr) (x_size : Int) (KM : Int → Prop), vs = [.ref ap, V.int x_size] ∧ Wd ms [ap] [] H H ∧ M_draw x_size KM ∧ ∀ (r : Int) (u : V) (H1 : Hp), KM r → Ret [ap] H H1 → rep ms H1 (D.v (V.int r)) u → Q u H1
theorem ret_pot1 {H : Hp} {ap : Addr} {o : HO} {i j : Int} (ha : H ap = some o) (hj : j.natAbs < 4294967296) : Ret [ap] H (upd H ap (.lst [.int i, .int j])) := by
  refine ⟨fun a u n h => ?_, fun a h => ?_, fun a h => ?_⟩
  · rw [upd_ne (fun z => n (by rw [z]; exact List.mem_singleton.mpr rfl))]
    exact h
  · rw [List.mem_singleton.mp h]
    exact ⟨i, j, upd_same, hj⟩
  · by_cases e : a = ap
    · rw [e, upd_same]
      exact fun z => nomatch z
    · rw [upd_ne e]
      exact h
theorem ret_pot2 {H : Hp} {ap p : Addr} {o u : HO} {i j : Int} (ha : H ap = some o) (np : H p = none) (hj : j.natAbs < 4294967296) : Ret [ap] H (upd (upd H p u) ap (.lst [.int i, .int j])) := by
  have e := Rx.Ext.new (o := u) np
  have h2 := ret_pot1 (i := i) (j := j) (e.keep ha) hj
  exact ⟨fun a w n h => h2.kp a w n (e.keep h), h2.pot, fun a h => h2.grow a (e.grow a h)⟩
theorem ok_draw {P : Program} {w : World} {K : PySem.W.Frag} {mg : Str → Option Value} {base : Heap} {A : Ad} (T : Txt w K mg A) : FnOk P w K mg base CX0 1 A.a_draw A.d_draw ["_law_pot_here", "_law_size"] (sp_draw A) := by
  refine T.F_draw.ok sc_draw (fun vs H Q E h => ?_) (fun cdv A_ outer s_ H_0 vs Q E hr h => ?_)
  · obtain ⟨ms, ap, x_size, KM, rfl, _⟩ := h
    rfl
  · obtain ⟨ms, ap, n, KM, rfl, hW, ⟨⟨n0, n1⟩, hM⟩, hQ⟩ := h
    obtain ⟨i, j, hp, hj⟩ := hW.pot ap (List.mem_singleton.mpr rfl)
    refine ⟨_, pss_cons (ps_if (pt_cmpR op_gt (pe_ix ix_list (pv 0) pe_int (fun _ _ => rfl)) pe_int (nomark _))
        (pss_cons (ps_asg (pe_callB call_divmodW (by rfl) T.z_divmod (by decide +kernel) (pa_cons (pe_ix ix_list (pv 0) pe_int (fun _ _ => rfl)) (pa_cons (pv 1) pa_nil)))
            (pg_tup rfl (pgs_cons (pg_sub (pv 0) pe_int set_list) (pgs_cons (pg_name (i := 2) sc_draw.nd rfl (.inl rfl)) pgs_nil)))) (pss_one (ps_ret (pv 2)))) pss_nil)
      (pss_cons (ps_asg (pe_op op_mod (pe_callTy call_int1 (by rfl) T.z_int (by decide +kernel) (pa_cons (pe_op op_add (pe_op op_mul (pe_ix ix_list (pv 0) pe_int (fun _ _ => rfl)) pe_int) pe_int) pa_nil)) pe_int) (pg_sub (pv 0) pe_int set_list))
      (pss_one (ps_ret (pe_op op_mod (pe_callTy call_int1 (by rfl) T.z_int (by decide +kernel) (pa_cons (pe_op op_fdiv (pe_op op_mod (pe_callTy call_int1 (by rfl) T.z_int (by decide +kernel)
          (pa_cons (pe_op op_mul (pe_ix ix_list (pv 0) pe_int (fun _ _ => rfl)) (pe_ix ix_list (pv 0) pe_int (fun _ _ => rfl))) pa_nil)) pe_int) pe_int) pa_nil)) (pv 1))))), ?_⟩
    refine ⟨_, rfl, ap, _, 0, .int i, rfl, rfl, .inl (.inl hp), rfl, _, _, rfl, rfl, _, rfl, ?_⟩
    refine ite2 (fun c => ?_) (fun c => ?_)
    · refine ⟨_, rfl, ap, _, 0, .int i, rfl, rfl, .inl (.inl hp), rfl, _, rfl, _, _, rfl, ⟨n0, PyProof.noPylong_of_log2 n1⟩, fun p np => ?_⟩
      have npa : ap ≠ p := ne_of_none hp np
      refine ⟨p, _, rfl, .inl (.inl upd_same), rfl, _, _, rfl, _, rfl, ap, _, 0, 0, rfl, rfl, (by rw [upd_ne npa]; exact hp), rfl, _, _, rfl, rfl, _, rfl, ?_⟩
      exact hQ (i % n) _ _ (hM _ (Int.emod_nonneg _ (by omega)) (Int.emod_lt_of_pos _ n0)) (ret_pot2 hp np hj) rep_v
    · refine ⟨_, rfl, ap, _, 1, .int j, rfl, rfl, .inl (.inl hp), rfl, _, _, rfl, rfl, .inr ⟨by decide, by decide⟩, _, _, rfl, rfl, .inl ⟨_, rfl, _, _, rfl, rfl, (by show (0 : Int) < 2147483587; decide), ?_⟩⟩
      refine ⟨_, rfl, ap, _, 1, 1, rfl, rfl, hp, rfl, ?_⟩
      refine ⟨_, rfl, ap, _, 1, _, rfl, rfl, .inl (.inl upd_same), rfl, _, rfl, ap, _, 1, _, rfl, rfl, .inl (.inl upd_same), rfl, _, _, rfl, rfl, .inl ⟨?_, ?_⟩, .inl ⟨_, rfl, _, _, rfl, rfl, (by show (0 : Int) < 2147483549; decide), _, _, rfl, rfl, ⟨by decide, by decide⟩, .inl ⟨_, rfl, _, rfl, _, _, rfl, rfl, n0, ?_⟩⟩⟩
      · omega
      · omega
      · refine hQ _ _ _ (hM _ (Int.emod_nonneg _ (by omega)) (Int.emod_lt_of_pos _ n0)) (ret_pot1 (i := i) hp ?_) rep_v
        omega

def M_pick (x_some : (List Int)) (KM : Int → Prop) : Prop :=
  (M_draw (x_some.length : Int) fun r1 => (0 ≤ r1 ∧ ∃ g7 : Int.toNat r1 < x_some.length, ∀ x9, x9 = x_some[Int.toNat r1]'g7 → (KM x9)))
def sp_pick (A : Ad) : Sp := fun vs H Q _ => ∃ (ms : List Addr) (ap : Addr) (v_some : V) (x_some : (List Int)) (KM : Int → Prop), vs = [.ref ap, v_some] ∧ Wd ms [ap] [] H H ∧ rep ms H (D.lst (x_some.map (fun y_ : Int => (D.v (V.int y_))))) v_some ∧ M_pick x_some KM ∧ ∀ (r : Int) (u : V) (H1 : Hp), KM r → Ret [ap] H H1 → rep ms H1 (D.v (V.int r)) u → Q u H1
set_option maxHeartbeats 16000000 in
theorem ok_pick {P : Program} {w : World} {K : PySem.W.Frag} {mg : Str → Option Value} {base : Heap} {A : Ad} (T : Txt w K mg A) : FnOk P w K mg base CX0 2 A.a_pick A.d_pick ["_law_pot_here", "_law_some"] (sp_pick A) := by
  refine T.F_pick.ok sc_pick (fun vs H Q E h => ?_) (fun cdv A_ outer s_ H_0 vs Q E hr h => ?_)
  · obtain ⟨ms, ap, v_some, x_some, KM, rfl, _⟩ := h
    rfl
  · obtain ⟨ms, ap, v_some, x_some, KM, rfl, hW, h_some, hM, hQ⟩ := h
    unfold M_pick at hM
    refine ⟨_, (pss_one (ps_ret (pe_ix (ix_listK (K := K) rfl) (pv 1) (pe_call (ok_draw T) (hr.mono (by decide)) (by rfl) T.g_draw T.F_draw.kp T.b_draw .nil pass0 (pa_cons (pv 0) (pa_cons (pe_callB (call_lenK (K := K) rfl) (by rfl) T.z_len PySem.boot_len (pa_cons (pv 1) pa_nil)) pa_nil))) (fun _ _ => rfl)))), ?_⟩
    refine ⟨_, rfl, ?_⟩
    refine ⟨_, rfl, ?_⟩
    refine ⟨_, rfl, ?_⟩
    apply rep_lenL (e := (fun y_ : Int => (D.v (V.int y_)))) (xs := x_some) h_some
    refine ⟨ms, ap, (x_some.length : Int), _, rfl, hW.enterP, hM, fun r1 u4 H5 hM e3 h2 => ?_⟩
    replace h_some := rep_ret hW e3 h_some
    replace hW := hW.retP e3
    obtain rfl := of_v h2
    obtain ⟨g6, g7, hM⟩ := hM
    apply rep_ixL (e := (fun y_ : Int => (D.v (V.int y_)))) (xs := x_some) h_some g6 g7
    intro u10 h8
    obtain ⟨x9, x9e⟩ : ∃ x_, x_ = x_some[Int.toNat r1]'g7 := ⟨_, rfl⟩
    rw [← x9e] at h8
    replace hM := hM x9 x9e
    obtain rfl := of_v h8
    exact hQ x9 _ _ hM hW.out rep_v
def M_integer (KM : Int → Prop) : Prop :=
  (M_pick ([(1 : Int), (2 : Int), (3 : Int), (7 : Int), (30 : Int), ((10 : Int) ^ Int.toNat (12 : Int))] : List Int) fun r7 => (M_draw r7 fun r12 => (∃ KB17 : Int → Prop, (M_draw (2 : Int) fun r20 => (if (decide (V.int r20 = V.int (0 : Int))) = true then (KB17 r12) else (KB17 (-r12)))) ∧ ∀ r25 : Int, KB17 r25 → (KM r25))))
def sp_integer (A : Ad) : Sp := fun vs H Q _ => ∃ (ms : List Addr) (ap : Addr) (KM : Int → Prop), vs = [.ref ap] ∧ Wd ms [ap] [] H H ∧ M_integer  KM ∧ ∀ (r : Int) (u : V) (H1 : Hp), KM r → Ret [ap] H H1 → rep ms H1 (D.v (V.int r)) u → Q u H1
set_option maxHeartbeats 16000000 in
theorem ok_integer {P : Program} {w : World} {K : PySem.W.Frag} {mg : Str → Option Value} {base : Heap} {A : Ad} (T : Txt w K mg A) : FnOk P w K mg base CX0 3 A.a_integer A.d_integer ["_law_pot_here"] (sp_integer A) := by
  refine T.F_integer.ok sc_integer (fun vs H Q E h => ?_) (fun cdv A_ outer s_ H_0 vs Q E hr h => ?_)
  · obtain ⟨ms, ap, KM, rfl, _⟩ := h
    rfl
  · obtain ⟨ms, ap, KM, rfl, hW, hM, hQ⟩ := h
    unfold M_integer at hM
    refine ⟨_, (pss_cons (ps_set (i := 1) sc_integer.nd rfl (by first | exact Or.inl rfl | exact Or.inr rfl) (pe_call (ok_draw T) (hr.mono (by decide)) (by rfl) T.g_draw T.F_draw.kp T.b_draw .nil pass0 (pa_cons (pv 0) (pa_cons (pe_call (ok_pick T) (hr.mono (by decide)) (by rfl) T.g_pick T.F_pick.kp T.b_pick .nil pass0 (pa_cons (pv 0) (pa_cons (pe_lst (pa_cons pe_int (pa_cons pe_int (pa_cons pe_int (pa_cons pe_int (pa_cons pe_int (pa_cons (pe_op op_pow pe_int pe_int) pa_nil))))))) pa_nil))) pa_nil)))) (pss_one (ps_ret (pe_up (pe_ifExp (pt_cmpR op_eq (pe_call (ok_draw T) (hr.mono (by decide)) (by rfl) T.g_draw T.F_draw.kp T.b_draw .nil pass0 (pa_cons (pv 0) (pa_cons pe_int pa_nil))) pe_int (nomark _)) (pv 1) (pe_un un_neg (pv 1))))))), ?_⟩
    refine ⟨_, rfl, ?_⟩
    refine ⟨_, rfl, ?_⟩
    refine ⟨_, _, rfl, rfl, ⟨by decide, by decide, by decide⟩, ?_⟩
    refine ⟨(by show 6 ≤ sizeLine; decide), ?_⟩
    intro p1 n5
    have e2 := Rx.Ext.new (H := H_0) (o := (HO.lst [V.int (1 : Int), V.int (2 : Int), V.int (3 : Int), V.int (7 : Int), V.int (30 : Int), V.int ((10 : Int) ^ Int.toNat (12 : Int))])) n5
    have hp3 : upd H_0 p1 (HO.lst [V.int (1 : Int), V.int (2 : Int), V.int (3 : Int), V.int (7 : Int), V.int (30 : Int), V.int ((10 : Int) ^ Int.toNat (12 : Int))]) p1 = some (HO.lst [V.int (1 : Int), V.int (2 : Int), V.int (3 : Int), V.int (7 : Int), V.int (30 : Int), V.int ((10 : Int) ^ Int.toNat (12 : Int))]) := upd_same
    generalize upd H_0 p1 (HO.lst [V.int (1 : Int), V.int (2 : Int), V.int (3 : Int), V.int (7 : Int), V.int (30 : Int), V.int ((10 : Int) ^ Int.toNat (12 : Int))]) = H6 at e2 hp3 ⊢
    have h4 : rep ms H6 (D.lst (([(1 : Int), (2 : Int), (3 : Int), (7 : Int), (30 : Int), ((10 : Int) ^ Int.toNat (12 : Int))] : List Int).map (fun y_ : Int => (D.v (V.int y_))))) (.ref p1) := rep_lst_mk hW n5 e2 hp3 (repL_cons rep_v (repL_cons rep_v (repL_cons rep_v (repL_cons rep_v (repL_cons rep_v (repL_cons rep_v repL_nil))))))
    replace hW := hW.ret0 e2
    refine ⟨ms, ap, _, ([(1 : Int), (2 : Int), (3 : Int), (7 : Int), (30 : Int), ((10 : Int) ^ Int.toNat (12 : Int))] : List Int), _, rfl, hW.enterP, h4, hM, fun r7 u10 H11 hM e9 h8 => ?_⟩
    replace h4 := rep_ret hW e9 h4
    replace hW := hW.retP e9
    obtain rfl := of_v h8
    refine ⟨ms, ap, r7, _, rfl, hW.enterP, hM, fun r12 u15 H16 hM e14 h13 => ?_⟩
    replace h4 := rep_ret hW e14 h4
    replace hW := hW.retP e14
    obtain rfl := of_v h13
    obtain ⟨KB17, hM, hKKB17⟩ := hM
    refine ⟨fun v H1 => ∃ r : Int, KB17 r ∧ Wd ms [ap] [] H_0 H1 ∧ Keep ms H16 H1 ∧ rep ms H1 (D.v (V.int r)) v, ?_, ?_⟩
    · skip
      have hj19 := Keep.refl (ms := ms) (H := H16)
      refine ⟨_, rfl, ?_⟩
      refine ⟨ms, ap, (2 : Int), _, rfl, hW.enterP, hM, fun r20 u23 H24 hM e22 h21 => ?_⟩
      replace h4 := rep_ret hW e22 h4
      replace hj19 := keep_ret hW e22 hj19
      replace hW := hW.retP e22
      obtain rfl := of_v h21
      refine ⟨rfl, ?_⟩
      refine ⟨_, rfl, ?_⟩
      refine ite3 hM (fun hM => ?_) (fun hM => ?_)
      · skip
        refine ⟨_, rfl, ?_⟩
        exact ⟨r12, hM, hW, hj19, rep_v⟩
      · skip
        refine ⟨_, rfl, ?_⟩
        refine ⟨_, rfl, ?_⟩
        exact ⟨(-r12), hM, hW, hj19, rep_v⟩
    · skip
      rintro u27 Hj18 ⟨r25, hr, hW, hj19, h26⟩
      replace hM := hKKB17 r25 hr
      replace h4 := rep_keep hj19 h4
      obtain rfl := of_v h26
      exact hQ r25 _ _ hM hW.out rep_v
def M_parts (x_most : Int) (KM : (Int × (List Int) × (List (Int × Int × Int))) → Prop) : Prop :=
  (M_pick ([(0 : Int), (0 : Int), (1 : Int), (2 : Int), (5 : Int), ((10 : Int) ^ Int.toNat (17 : Int))] : List Int) fun r7 => (M_draw ((1 : Int) + r7) fun r12 => (M_draw (x_most + (1 : Int)) fun r17 => ((rangeI (0 : Int) r17).length < 100000 ∧ mapC (fun (x33 : Int) (k26 : Int → Prop) => (M_integer  fun r39 => (k26 r39))) (rangeI (0 : Int) r17) [] fun ys49 => (M_pick ([(1 : Int), (1 : Int), (2 : Int), (3 : Int), (4 : Int), (6 : Int)] : List Int) fun r63 => (forC (fun (x68 : Int) (s70 : (List (Int × Int × Int))) (k71 : ((List (Int × Int × Int))) → Prop) => (M_draw (4 : Int) fun r80 => (∃ KB85 : Int → Prop, (if (decide ((1 : Int) < r80)) = true then (M_integer  fun r88 => (KB85 r88)) else (KB85 (0 : Int))) ∧ ∀ r93 : Int, KB85 r93 → (∃ KB97 : Int → Prop, (if (decide ((0 : Int) < r80)) = true then (M_integer  fun r100 => (KB97 r100)) else (KB97 (0 : Int))) ∧ ∀ r105 : Int, KB97 r105 → (M_integer  fun r109 => (s70.length < 16777216 ∧ (k71 ((s70 ++ [(r93, r105, r109)]))))))))) (rangeI (0 : Int) r63) (([] : List (Int × Int × Int))) fun s127 => (KM ((r7 + r12), ys49, s127))))))))
def sp_parts (A : Ad) : Sp := fun vs H Q _ => ∃ (ms : List Addr) (ap : Addr) (x_most : Int) (KM : (Int × (List Int) × (List (Int × Int × Int))) → Prop), vs = [.ref ap, V.int x_most] ∧ Wd ms [ap] [] H H ∧ M_parts x_most KM ∧ ∀ (r : (Int × (List Int) × (List (Int × Int × Int)))) (u : V) (H1 : Hp), KM r → Ret [ap] H H1 → rep ms H1 (D.tup [(D.v (V.int r.1)), (D.lst (r.2.1.map (fun y_ : Int => (D.v (V.int y_))))), (D.lst (r.2.2.map (fun y_ : (Int × Int × Int) => (D.tup [(D.v (V.int y_.1)), (D.v (V.int y_.2.1)), (D.v (V.int y_.2.2))]))))]) u → Q u H1
set_option maxHeartbeats 16000000 in
theorem ok_parts {P : Program} {w : World} {K : PySem.W.Frag} {mg : Str → Option Value} {base : Heap} {A : Ad} (T : Txt w K mg A) : FnOk P w K mg base CX0 4 A.a_parts A.d_parts ["_law_pot_here", "_law_most"] (sp_parts A) := by
  refine T.F_parts.ok sc_parts (fun vs H Q E h => ?_) (fun cdv A_ outer s_ H_0 vs Q E hr h => ?_)
  · obtain ⟨ms, ap, x_most, KM, rfl, _⟩ := h
    rfl
  · obtain ⟨ms, ap, x_most, KM, rfl, hW, hM, hQ⟩ := h
    unfold M_parts at hM
    refine ⟨_, (pss_cons (ps_set (i := 2) sc_parts.nd rfl (by first | exact Or.inl rfl | exact Or.inr rfl) (pe_call (ok_pick T) (hr.mono (by decide)) (by rfl) T.g_pick T.F_pick.kp T.b_pick .nil pass0 (pa_cons (pv 0) (pa_cons (pe_lst (pa_cons pe_int (pa_cons pe_int (pa_cons pe_int (pa_cons pe_int (pa_cons pe_int (pa_cons (pe_op op_pow pe_int pe_int) pa_nil))))))) pa_nil)))) (pss_cons (ps_set (i := 2) sc_parts.nd rfl (by first | exact Or.inl rfl | exact Or.inr rfl) (pe_op op_add (pv 2) (pe_call (ok_draw T) (hr.mono (by decide)) (by rfl) T.g_draw T.F_draw.kp T.b_draw .nil pass0 (pa_cons (pv 0) (pa_cons (pe_op op_add pe_int (pv 2)) pa_nil))))) (pss_cons (ps_setLc (i := 3) (own := [("_law_turn", 5)]) (g := gName 5) rfl sc_parts.nd rfl rfl (sw_true rfl rfl rfl (by decide +kernel)) (pi_rangeW1 (by rfl) T.z_range (pa_cons (pe_call (ok_draw T) (hr.mono (by decide)) (by rfl) T.g_draw T.F_draw.kp T.b_draw .nil pass0 (pa_cons (pv 0) (pa_cons (pe_op op_add (pv 1) pe_int) pa_nil))) pa_nil)) (blkOk_by (N := ["_law_pot_here", "_law_most", "_law_first", "_law_early", "_law_rows", "_law_turn", "_law_shape"]) (sc := defScope s_parts) (by decide +kernel)) (fun _ _ _ _ _ => pg_name (i := 5) sc_parts.nd rfl (by first | exact Or.inl rfl | exact Or.inr rfl)) (fun _ _ _ _ _ => pts_nil) (fun _ _ _ _ _ => (pe_call (ok_integer T) (hr.mono (by decide)) (by rfl) T.g_integer T.F_integer.kp T.b_integer .nil pass0 (pa_cons (pv 0) pa_nil)))) (pss_cons (ps_set (i := 4) sc_parts.nd rfl (by first | exact Or.inl rfl | exact Or.inr rfl) (pe_lst pa_nil)) (pss_cons (ps_for PassesOwn.never rfl (pi_rangeW1 (by rfl) T.z_range (pa_cons (pe_call (ok_pick T) (hr.mono (by decide)) (by rfl) T.g_pick T.F_pick.kp T.b_pick .nil pass0 (pa_cons (pv 0) (pa_cons (pe_lst (pa_cons pe_int (pa_cons pe_int (pa_cons pe_int (pa_cons pe_int (pa_cons pe_int (pa_cons pe_int pa_nil))))))) pa_nil))) pa_nil)) (pg_name (i := 5) sc_parts.nd rfl (by first | exact Or.inl rfl | exact Or.inr rfl)) (pss_cons (ps_set (i := 6) sc_parts.nd rfl (by first | exact Or.inl rfl | exact Or.inr rfl) (pe_call (ok_draw T) (hr.mono (by decide)) (by rfl) T.g_draw T.F_draw.kp T.b_draw .nil pass0 (pa_cons (pv 0) (pa_cons pe_int pa_nil)))) (pss_one (ps_expr (pe_bmK (K := K) rfl PySem.F.plainAttrs_list PySem.F.slot_list_append PySem.F.type_list_append mt_append (pv 4) (pa_cons (pe_tup (pa_cons (pe_up (pe_ifExp (pt_cmpR op_gt (pv 6) pe_int (nomark _)) (pe_call (ok_integer T) (hr.mono (by decide)) (by rfl) T.g_integer T.F_integer.kp T.b_integer .nil pass0 (pa_cons (pv 0) pa_nil)) pe_int)) (pa_cons (pe_up (pe_ifExp (pt_cmpR op_gt (pv 6) pe_int (nomark _)) (pe_call (ok_integer T) (hr.mono (by decide)) (by rfl) T.g_integer T.F_integer.kp T.b_integer .nil pass0 (pa_cons (pv 0) pa_nil)) pe_int)) (pa_cons (pe_call (ok_integer T) (hr.mono (by decide)) (by rfl) T.g_integer T.F_integer.kp T.b_integer .nil pass0 (pa_cons (pv 0) pa_nil)) pa_nil)))) pa_nil)))))) (pss_one (ps_ret (pe_tup (pa_cons (pv 2) (pa_cons (pv 3) (pa_cons (pv 4) pa_nil))))))))))), ?_⟩
    refine ⟨_, rfl, ?_⟩
    refine ⟨_, _, rfl, rfl, ⟨by decide, by decide, by decide⟩, ?_⟩
    refine ⟨(by show 6 ≤ sizeLine; decide), ?_⟩
    intro p1 n5
    have e2 := Rx.Ext.new (H := H_0) (o := (HO.lst [V.int (0 : Int), V.int (0 : Int), V.int (1 : Int), V.int (2 : Int), V.int (5 : Int), V.int ((10 : Int) ^ Int.toNat (17 : Int))])) n5
    have hp3 : upd H_0 p1 (HO.lst [V.int (0 : Int), V.int (0 : Int), V.int (1 : Int), V.int (2 : Int), V.int (5 : Int), V.int ((10 : Int) ^ Int.toNat (17 : Int))]) p1 = some (HO.lst [V.int (0 : Int), V.int (0 : Int), V.int (1 : Int), V.int (2 : Int), V.int (5 : Int), V.int ((10 : Int) ^ Int.toNat (17 : Int))]) := upd_same
    generalize upd H_0 p1 (HO.lst [V.int (0 : Int), V.int (0 : Int), V.int (1 : Int), V.int (2 : Int), V.int (5 : Int), V.int ((10 : Int) ^ Int.toNat (17 : Int))]) = H6 at e2 hp3 ⊢
    have h4 : rep ms H6 (D.lst (([(0 : Int), (0 : Int), (1 : Int), (2 : Int), (5 : Int), ((10 : Int) ^ Int.toNat (17 : Int))] : List Int).map (fun y_ : Int => (D.v (V.int y_))))) (.ref p1) := rep_lst_mk hW n5 e2 hp3 (repL_cons rep_v (repL_cons rep_v (repL_cons rep_v (repL_cons rep_v (repL_cons rep_v (repL_cons rep_v repL_nil))))))
    replace hW := hW.ret0 e2
    refine ⟨ms, ap, _, ([(0 : Int), (0 : Int), (1 : Int), (2 : Int), (5 : Int), ((10 : Int) ^ Int.toNat (17 : Int))] : List Int), _, rfl, hW.enterP, h4, hM, fun r7 u10 H11 hM e9 h8 => ?_⟩
    replace h4 := rep_ret hW e9 h4
    replace hW := hW.retP e9
    obtain rfl := of_v h8
    refine ⟨_, rfl, ?_⟩
    refine ⟨_, rfl, ?_⟩
    refine ⟨_, rfl, ?_⟩
    refine ⟨_, _, rfl, rfl, ?_⟩
    refine ⟨ms, ap, ((1 : Int) + r7), _, rfl, hW.enterP, hM, fun r12 u15 H16 hM e14 h13 => ?_⟩
    replace h4 := rep_ret hW e14 h4
    replace hW := hW.retP e14
    obtain rfl := of_v h13
    refine ⟨_, _, rfl, rfl, ?_⟩
    refine ⟨_, rfl, ?_⟩
    refine ⟨_, rfl, ?_⟩
    refine ⟨_, _, rfl, rfl, ?_⟩
    refine ⟨ms, ap, (x_most + (1 : Int)), _, rfl, hW.enterP, hM, fun r17 u20 H21 hM e19 h18 => ?_⟩
    replace h4 := rep_ret hW e19 h4
    replace hW := hW.retP e19
    obtain rfl := of_v h18
    refine ⟨_, rfl, ?_⟩
    refine fun L22 nl23 => ?_
    have nm37 := nm_new hW nl23
    refine lc_rangeG (L := L22) (fun n_ ys_ h_ => Wd (L22 :: ms) [ap] [] H_0 h_ ∧ Keep (L22 :: ms) H21 h_ ∧ MutO (L22 :: ms) [ap] H_0 h_ L22 (D.lst (ys_.map (fun y_ : Int => (D.v (V.int y_))))) ∧ ys_.length ≤ n_) (lo := (0 : Int)) (hi := r17) (N := Int.toNat r17) (by simp) hM ⟨wd_cell hW nl23, keep_cell nl23 Keep.refl, mo_newL (ds := []) hW nl23 repL_nil, Nat.le_refl _⟩ ?_ ?_
    · skip
      rintro x33  n24 ys25 k26 H38 hn ⟨hW, hk27, mu28, ln29⟩ hM Nx32 hN30
      replace h4 := rep_keep hk27 (rep_new nl23 h4)
      refine ⟨rfl, ?_⟩
      refine tyes_of ?_
      refine ⟨_, rfl, ?_⟩
      refine ⟨(L22 :: ms), ap, _, rfl, hW.enterP, hM, fun r39 u42 H43 hM e41 h40 => ?_⟩
      replace h4 := rep_ret hW e41 h4
      replace hk27 := keep_ret hW e41 hk27
      replace mu28 := mo_ret hW e41 mu28
      replace hW := hW.retP e41
      obtain rfl := of_v h40
      refine mo_end mu28 hn (by rw [List.length_map]; exact ln29) fun vs44 hr45 => ?_
      have mk47 := mo_setL mu28 (repL_snoc (e := (fun y_ : Int => (D.v (V.int y_)))) (xs := ys25) (y := r39) hr45 rep_v)
      replace h4 := rep_put (o := .lst (vs44 ++ [V.int r39])) mu28.im h4
      replace hk27 := keep_put (o := .lst (vs44 ++ [V.int r39])) mu28.im hk27
      replace hW := wd_put (o := .lst (vs44 ++ [V.int r39])) hW mu28
      replace mu28 := mk47
      generalize upd H43 L22 (.lst (vs44 ++ [V.int r39])) = H48 at *
      replace mu28 : MutO (L22 :: ms) [ap] H_0 H48 L22 (D.lst ((ys25 ++ [r39]).map (fun y_ : Int => (D.v (V.int y_))))) := mu28
      clear mk47
      exact hN30 r39 _ hM ⟨hW, hk27, mu28, by rw [List.length_append]; exact Nat.add_le_add_right ln29 1⟩
    · skip
      rintro n24 ys49 H50 hM ⟨hW, hk27, mu28, ln29⟩
      replace h4 := rep_keep hk27 (rep_new nl23 h4)
      clear hk27 ln29
      have h51 := mo_rep_dr dr_here nm37 mu28
      replace hW := wd_dr dr_here mu28.hp hW
      replace h4 := rep_dr dr_here h4
      clear mu28
      refine ⟨(by show 0 ≤ sizeLine; decide), ?_⟩
      intro L52 nl53
      have nm54 := nm_new hW nl53
      have mu55 := mo_newL (ds := ([] : List (Int × Int × Int)).map (fun y_ : (Int × Int × Int) => (D.tup [(D.v (V.int y_.1)), (D.v (V.int y_.2.1)), (D.v (V.int y_.2.2))]))) (vs := []) hW nl53 repL_nil
      replace h4 := rep_cell (o := .lst []) nl53 h4
      replace h51 := rep_cell (o := .lst []) nl53 h51
      replace hW := wd_cell (o := .lst []) hW nl53
      generalize upd H50 L52 (.lst []) = H56 at *
      replace mu55 : MutO (L52 :: ms) [ap] H_0 H56 L52 (D.lst (([] : List (Int × Int × Int)).map (fun y_ : (Int × Int × Int) => (D.tup [(D.v (V.int y_.1)), (D.v (V.int y_.2.1)), (D.v (V.int y_.2.2))])))) := mu55
      refine ⟨_, rfl, ?_⟩
      refine ⟨(by show 6 ≤ sizeLine; decide), ?_⟩
      intro p57 n61
      have e58 := Rx.Ext.new (H := H56) (o := (HO.lst [V.int (1 : Int), V.int (1 : Int), V.int (2 : Int), V.int (3 : Int), V.int (4 : Int), V.int (6 : Int)])) n61
      have hp59 : upd H56 p57 (HO.lst [V.int (1 : Int), V.int (1 : Int), V.int (2 : Int), V.int (3 : Int), V.int (4 : Int), V.int (6 : Int)]) p57 = some (HO.lst [V.int (1 : Int), V.int (1 : Int), V.int (2 : Int), V.int (3 : Int), V.int (4 : Int), V.int (6 : Int)]) := upd_same
      generalize upd H56 p57 (HO.lst [V.int (1 : Int), V.int (1 : Int), V.int (2 : Int), V.int (3 : Int), V.int (4 : Int), V.int (6 : Int)]) = H62 at e58 hp59 ⊢
      have h60 : rep (L52 :: ms) H62 (D.lst (([(1 : Int), (1 : Int), (2 : Int), (3 : Int), (4 : Int), (6 : Int)] : List Int).map (fun y_ : Int => (D.v (V.int y_))))) (.ref p57) := rep_lst_mk hW n61 e58 hp59 (repL_cons rep_v (repL_cons rep_v (repL_cons rep_v (repL_cons rep_v (repL_cons rep_v (repL_cons rep_v repL_nil))))))
      replace h4 := rep_ext e58 h4
      replace h51 := rep_ext e58 h51
      replace mu55 := mo_ext e58 mu55
      replace hW := hW.ret0 e58
      refine ⟨(L52 :: ms), ap, _, ([(1 : Int), (1 : Int), (2 : Int), (3 : Int), (4 : Int), (6 : Int)] : List Int), _, rfl, hW.enterP, h60, hM, fun r63 u66 H67 hM e65 h64 => ?_⟩
      replace h4 := rep_ret hW e65 h4
      replace h51 := rep_ret hW e65 h51
      replace h60 := rep_ret hW e65 h60
      replace mu55 := mo_ret hW e65 mu55
      replace hW := hW.retP e65
      obtain rfl := of_v h64
      refine ⟨_, rfl, ?_⟩
      refine for_rangeG (S := (List (Int × Int × Int))) (lo := (0 : Int)) (hi := r63) (N := Int.toNat r63) (fun (s : (List (Int × Int × Int))) σ_ h_ => ∃ (w_0 : Option V), ∃ (w_1 : Option V), σ_ = [some (V.ref ap), some (V.int x_most), some (V.int (r7 + r12)), some (V.ref L22), some (V.ref L52), w_0, w_1] ∧ Wd (L52 :: ms) [ap] [] H_0 h_ ∧ Keep (L52 :: ms) H67 h_ ∧ MutO (L52 :: ms) [ap] H_0 h_ L52 (D.lst (s.map (fun y_ : (Int × Int × Int) => (D.tup [(D.v (V.int y_.1)), (D.v (V.int y_.2.1)), (D.v (V.int y_.2.2))]))))) (([] : List (Int × Int × Int))) (by simp) hM ⟨_, _, rfl, hW, Keep.refl, mu55⟩ ?_ ?_
      · skip
        clear mu55
        rintro x68 s70 k71 _ H79 ⟨w76, w77, rfl, hW, hk72, mu78⟩ hM Nx74 hN75
        replace h4 := rep_keep hk72 h4
        replace h51 := rep_keep hk72 h51
        replace h60 := rep_keep hk72 h60
        refine ⟨_, rfl, ?_⟩
        refine ⟨(L52 :: ms), ap, (4 : Int), _, rfl, hW.enterP, hM, fun r80 u83 H84 hM e82 h81 => ?_⟩
        replace h4 := rep_ret hW e82 h4
        replace h51 := rep_ret hW e82 h51
        replace h60 := rep_ret hW e82 h60
        replace hk72 := keep_ret hW e82 hk72
        replace mu78 := mo_ret hW e82 mu78
        replace hW := hW.retP e82
        obtain rfl := of_v h81
        refine ⟨_, rfl, ?_⟩
        refine ⟨mo_tyL mu78, ?_⟩
        obtain ⟨KB85, hM, hKKB85⟩ := hM
        refine ⟨fun v H1 => ∃ r : Int, KB85 r ∧ Wd (L52 :: ms) [ap] [] H_0 H1 ∧ Keep (L52 :: ms) H84 H1 ∧ rep (L52 :: ms) H1 (D.v (V.int r)) v ∧ MutO (L52 :: ms) [ap] H_0 H1 L52 (D.lst (s70.map (fun y_ : (Int × Int × Int) => (D.tup [(D.v (V.int y_.1)), (D.v (V.int y_.2.1)), (D.v (V.int y_.2.2))])))), ?_, ?_⟩
        · skip
          have hj87 := Keep.refl (ms := (L52 :: ms)) (H := H84)
          refine ⟨_, rfl, ?_⟩
          refine ⟨_, _, rfl, rfl, ?_⟩
          refine ⟨_, rfl, ?_⟩
          refine ite3 hM (fun hM => ?_) (fun hM => ?_)
          · skip
            refine ⟨_, rfl, ?_⟩
            refine ⟨(L52 :: ms), ap, _, rfl, hW.enterP, hM, fun r88 u91 H92 hM e90 h89 => ?_⟩
            replace h4 := rep_ret hW e90 h4
            replace h51 := rep_ret hW e90 h51
            replace h60 := rep_ret hW e90 h60
            replace hk72 := keep_ret hW e90 hk72
            replace hj87 := keep_ret hW e90 hj87
            replace mu78 := mo_ret hW e90 mu78
            replace hW := hW.retP e90
            obtain rfl := of_v h89
            exact ⟨r88, hM, hW, hj87, rep_v, mu78⟩
          · skip
            exact ⟨(0 : Int), hM, hW, hj87, rep_v, mu78⟩
        · skip
          clear mu78
          rintro u95 Hj86 ⟨r93, hr, hW, hj87, h94, mu96⟩
          replace hM := hKKB85 r93 hr
          replace h4 := rep_keep hj87 h4
          replace h51 := rep_keep hj87 h51
          replace h60 := rep_keep hj87 h60
          replace hk72 := Keep.trans hk72 hj87
          obtain rfl := of_v h94
          obtain ⟨KB97, hM, hKKB97⟩ := hM
          refine ⟨fun v H1 => ∃ r : Int, KB97 r ∧ Wd (L52 :: ms) [ap] [] H_0 H1 ∧ Keep (L52 :: ms) Hj86 H1 ∧ rep (L52 :: ms) H1 (D.v (V.int r)) v ∧ MutO (L52 :: ms) [ap] H_0 H1 L52 (D.lst (s70.map (fun y_ : (Int × Int × Int) => (D.tup [(D.v (V.int y_.1)), (D.v (V.int y_.2.1)), (D.v (V.int y_.2.2))])))), ?_, ?_⟩
          · skip
            have hj99 := Keep.refl (ms := (L52 :: ms)) (H := Hj86)
            refine ⟨_, rfl, ?_⟩
            refine ⟨_, _, rfl, rfl, ?_⟩
            refine ⟨_, rfl, ?_⟩
            refine ite3 hM (fun hM => ?_) (fun hM => ?_)
            · skip
              refine ⟨_, rfl, ?_⟩
              refine ⟨(L52 :: ms), ap, _, rfl, hW.enterP, hM, fun r100 u103 H104 hM e102 h101 => ?_⟩
              replace h4 := rep_ret hW e102 h4
              replace h51 := rep_ret hW e102 h51
              replace h60 := rep_ret hW e102 h60
              replace hk72 := keep_ret hW e102 hk72
              replace hj99 := keep_ret hW e102 hj99
              replace mu96 := mo_ret hW e102 mu96
              replace hW := hW.retP e102
              obtain rfl := of_v h101
              exact ⟨r100, hM, hW, hj99, rep_v, mu96⟩
            · skip
              exact ⟨(0 : Int), hM, hW, hj99, rep_v, mu96⟩
          · skip
            clear mu96
            rintro u107 Hj98 ⟨r105, hr, hW, hj99, h106, mu108⟩
            replace hM := hKKB97 r105 hr
            replace h4 := rep_keep hj99 h4
            replace h51 := rep_keep hj99 h51
            replace h60 := rep_keep hj99 h60
            replace hk72 := Keep.trans hk72 hj99
            obtain rfl := of_v h106
            refine ⟨_, rfl, ?_⟩
            refine ⟨(L52 :: ms), ap, _, rfl, hW.enterP, hM, fun r109 u112 H113 hM e111 h110 => ?_⟩
            replace h4 := rep_ret hW e111 h4
            replace h51 := rep_ret hW e111 h51
            replace h60 := rep_ret hW e111 h60
            replace hk72 := keep_ret hW e111 hk72
            replace mu108 := mo_ret hW e111 mu108
            replace hW := hW.retP e111
            obtain rfl := of_v h110
            refine ⟨(by show 3 ≤ sizeLine; decide), ?_⟩
            intro p114 n118
            have e115 := Rx.Ext.new (H := H113) (o := (HO.tup [V.int r93, V.int r105, V.int r109])) n118
            have hp116 : upd H113 p114 (HO.tup [V.int r93, V.int r105, V.int r109]) p114 = some (HO.tup [V.int r93, V.int r105, V.int r109]) := upd_same
            generalize upd H113 p114 (HO.tup [V.int r93, V.int r105, V.int r109]) = H119 at e115 hp116 ⊢
            have h117 : rep (L52 :: ms) H119 (D.tup [(D.v (V.int r93)), (D.v (V.int r105)), (D.v (V.int r109))]) (.ref p114) := rep_tup_mk hW n118 e115 hp116 (repL_cons rep_v (repL_cons rep_v (repL_cons rep_v repL_nil)))
            replace h4 := rep_ext e115 h4
            replace h51 := rep_ext e115 h51
            replace h60 := rep_ext e115 h60
            replace hk72 := keep_ext e115 hk72
            replace mu108 := mo_ext e115 mu108
            replace hW := hW.ret0 e115
            obtain ⟨g120, hM⟩ := hM
            apply mo_appU mu108 (by rw [List.length_map]; exact g120)
            intro vs121 hr123
            have mk125 := mo_setL mu108 (repL_snoc (e := (fun y_ : (Int × Int × Int) => (D.tup [(D.v (V.int y_.1)), (D.v (V.int y_.2.1)), (D.v (V.int y_.2.2))]))) (xs := s70) (y := (r93, r105, r109)) hr123 h117)
            replace h4 := rep_put (o := .lst (vs121 ++ [(V.ref p114)])) mu108.im h4
            replace h51 := rep_put (o := .lst (vs121 ++ [(V.ref p114)])) mu108.im h51
            replace h60 := rep_put (o := .lst (vs121 ++ [(V.ref p114)])) mu108.im h60
            replace hk72 := keep_put (o := .lst (vs121 ++ [(V.ref p114)])) mu108.im hk72
            replace h117 := rep_put (o := .lst (vs121 ++ [(V.ref p114)])) mu108.im h117
            replace hW := wd_put (o := .lst (vs121 ++ [(V.ref p114)])) hW mu108
            replace mu108 := mk125
            generalize upd H119 L52 (.lst (vs121 ++ [(V.ref p114)])) = H126 at *
            replace mu108 : MutO (L52 :: ms) [ap] H_0 H126 L52 (D.lst ((s70 ++ [(r93, r105, r109)]).map (fun y_ : (Int × Int × Int) => (D.tup [(D.v (V.int y_.1)), (D.v (V.int y_.2.1)), (D.v (V.int y_.2.2))])))) := mu108
            clear mk125
            exact hN75 ((s70 ++ [(r93, r105, r109)])) _ _ hM ⟨_, _, rfl, hW, hk72, mu108⟩
      · skip
        clear mu55
        rintro s127 _ H132 hM ⟨w129, w130, rfl, hW, hk128, mu131⟩
        replace h4 := rep_keep hk128 h4
        replace h51 := rep_keep hk128 h51
        replace h60 := rep_keep hk128 h60
        have h133 := mo_rep_dr dr_here nm54 mu131
        replace hW := wd_dr dr_here mu131.hp hW
        replace h4 := rep_dr dr_here h4
        replace h51 := rep_dr dr_here h51
        replace h60 := rep_dr dr_here h60
        clear mu131
        refine ⟨_, rfl, ?_⟩
        refine ⟨_, rfl, ?_⟩
        refine ⟨_, rfl, ?_⟩
        refine ⟨(by show 3 ≤ sizeLine; decide), ?_⟩
        intro p134 n138
        have e135 := Rx.Ext.new (H := H132) (o := (HO.tup [V.int (r7 + r12), (V.ref L22), (V.ref L52)])) n138
        have hp136 : upd H132 p134 (HO.tup [V.int (r7 + r12), (V.ref L22), (V.ref L52)]) p134 = some (HO.tup [V.int (r7 + r12), (V.ref L22), (V.ref L52)]) := upd_same
        generalize upd H132 p134 (HO.tup [V.int (r7 + r12), (V.ref L22), (V.ref L52)]) = H139 at e135 hp136 ⊢
        have h137 : rep ms H139 (D.tup [(D.v (V.int (r7 + r12))), (D.lst (ys49.map (fun y_ : Int => (D.v (V.int y_))))), (D.lst (s127.map (fun y_ : (Int × Int × Int) => (D.tup [(D.v (V.int y_.1)), (D.v (V.int y_.2.1)), (D.v (V.int y_.2.2))]))))]) (.ref p134) := rep_tup_mk hW n138 e135 hp136 (repL_cons rep_v (repL_cons h51 (repL_cons h133 repL_nil)))
        replace h4 := rep_ext e135 h4
        replace h51 := rep_ext e135 h51
        replace h60 := rep_ext e135 h60
        replace h133 := rep_ext e135 h133
        replace hW := hW.ret0 e135
        exact hQ ((r7 + r12), ys49, s127) _ _ hM hW.out h137
def M_valueL (x_parts_here : (Int × (List Int) × (List (Int × Int × Int)))) (x_place : Int) (KM : Int → Prop) : Prop :=
  (if (decide (x_place < (x_parts_here.1 + (x_parts_here.2.1.length : Int)))) = true then (0 ≤ (x_place - x_parts_here.1) ∧ ∃ g16 : Int.toNat (x_place - x_parts_here.1) < x_parts_here.2.1.length, ∀ x18, x18 = x_parts_here.2.1[Int.toNat (x_place - x_parts_here.1)]'g16 → (KM x18)) else (CDiv x_place (x_parts_here.2.2.length : Int) ∧ (0 ≤ (x_place % (x_parts_here.2.2.length : Int)) ∧ ∃ g38 : Int.toNat (x_place % (x_parts_here.2.2.length : Int)) < x_parts_here.2.2.length, ∀ x40, x40 = x_parts_here.2.2[Int.toNat (x_place % (x_parts_here.2.2.length : Int))]'g38 → (CMulW x40.1 (x_place / (x_parts_here.2.2.length : Int)) ∧ (CMulW ((x40.1 * (x_place / (x_parts_here.2.2.length : Int))) + x40.2.1) (x_place / (x_parts_here.2.2.length : Int)) ∧ (KM ((((x40.1 * (x_place / (x_parts_here.2.2.length : Int))) + x40.2.1) * (x_place / (x_parts_here.2.2.length : Int))) + x40.2.2)))))))
def sp_valueL (A : Ad) : Sp := fun vs H Q _ => ∃ (ms : List Addr) (v_parts_here : V) (x_parts_here : (Int × (List Int) × (List (Int × Int × Int)))) (x_place : Int) (KM : Int → Prop), vs = [v_parts_here, V.int x_place] ∧ Wd ms [] [] H H ∧ rep ms H (D.tup [(D.v (V.int x_parts_here.1)), (D.lst (x_parts_here.2.1.map (fun y_ : Int => (D.v (V.int y_))))), (D.lst (x_parts_here.2.2.map (fun y_ : (Int × Int × Int) => (D.tup [(D.v (V.int y_.1)), (D.v (V.int y_.2.1)), (D.v (V.int y_.2.2))]))))]) v_parts_here ∧ M_valueL x_parts_here x_place KM ∧ ∀ (r : Int) (u : V) (H1 : Hp), KM r → Ret [] H H1 → rep ms H1 (D.v (V.int r)) u → Q u H1
set_option maxHeartbeats 16000000 in
theorem ok_valueL {P : Program} {w : World} {K : PySem.W.Frag} {mg : Str → Option Value} {base : Heap} {A : Ad} (T : Txt w K mg A) : FnOk P w K mg base CX0 1 A.a_valueL A.d_valueL ["_law_parts_here", "_law_place"] (sp_valueL A) := by
  refine T.F_valueL.ok sc_valueL (fun vs H Q E h => ?_) (fun cdv A_ outer s_ H_0 vs Q E hr h => ?_)
  · obtain ⟨ms, v_parts_here, x_parts_here, x_place, KM, rfl, _⟩ := h
    rfl
  · obtain ⟨ms, v_parts_here, x_parts_here, x_place, KM, rfl, hW, h_parts_here, hM, hQ⟩ := h
    unfold M_valueL at hM
    refine ⟨_, (pss_cons (ps_asg (pv 0) (pg_tup rfl (pgs_cons (pg_name (i := 2) sc_valueL.nd rfl (by first | exact Or.inl rfl | exact Or.inr rfl)) (pgs_cons (pg_name (i := 3) sc_valueL.nd rfl (by first | exact Or.inl rfl | exact Or.inr rfl)) (pgs_cons (pg_name (i := 4) sc_valueL.nd rfl (by first | exact Or.inl rfl | exact Or.inr rfl)) pgs_nil))))) (pss_cons (ps_if (pt_cmpR op_lt (pv 1) (pe_op op_add (pv 2) (pe_callB (call_lenK (K := K) rfl) (by rfl) T.z_len PySem.boot_len (pa_cons (pv 3) pa_nil))) (nomark _)) (pss_one (ps_ret (pe_ix (ix_listK (K := K) rfl) (pv 3) (pe_op op_sub (pv 1) (pv 2)) (fun _ _ => rfl)))) pss_nil) (pss_cons (ps_asg (pe_callB call_divmod (by rfl) T.z_divmod (by decide +kernel) (pa_cons (pv 1) (pa_cons (pe_callB (call_lenK (K := K) rfl) (by rfl) T.z_len PySem.boot_len (pa_cons (pv 4) pa_nil)) pa_nil))) (pg_tup rfl (pgs_cons (pg_name (i := 5) sc_valueL.nd rfl (by first | exact Or.inl rfl | exact Or.inr rfl)) (pgs_cons (pg_name (i := 6) sc_valueL.nd rfl (by first | exact Or.inl rfl | exact Or.inr rfl)) pgs_nil)))) (pss_cons (ps_asg (pe_ix (ix_listK (K := K) rfl) (pv 4) (pv 6) (fun _ _ => rfl)) (pg_tup rfl (pgs_cons (pg_name (i := 7) sc_valueL.nd rfl (by first | exact Or.inl rfl | exact Or.inr rfl)) (pgs_cons (pg_name (i := 8) sc_valueL.nd rfl (by first | exact Or.inl rfl | exact Or.inr rfl)) (pgs_cons (pg_name (i := 9) sc_valueL.nd rfl (by first | exact Or.inl rfl | exact Or.inr rfl)) pgs_nil))))) (pss_one (ps_ret (pe_op op_add (pe_op op_mulW (pe_op op_add (pe_op op_mulW (pv 7) (pv 5)) (pv 8)) (pv 5)) (pv 9)))))))), ?_⟩
    refine ⟨_, rfl, ?_⟩
    apply rep_gtup h_parts_here rfl
    intro vs1 hv2
    obtain ⟨u3, us4, rfl, h5, hv6⟩ := repL_uncons hv2
    obtain rfl := of_v h5
    obtain ⟨u7, us8, rfl, h9, hv10⟩ := repL_uncons hv6
    obtain ⟨u11, us12, rfl, h13, hv14⟩ := repL_uncons hv10
    obtain rfl := repL_empty hv14
    refine ⟨_, _, rfl, ?_⟩
    refine ⟨_, _, rfl, ?_⟩
    refine ⟨_, _, rfl, ?_⟩
    refine ⟨rfl, ?_⟩
    refine ⟨_, rfl, ?_⟩
    refine ⟨_, rfl, ?_⟩
    refine ⟨_, rfl, ?_⟩
    apply rep_lenL (e := (fun y_ : Int => (D.v (V.int y_)))) (xs := x_parts_here.2.1) h9
    refine ⟨_, _, rfl, rfl, ?_⟩
    refine ⟨_, _, rfl, rfl, ?_⟩
    refine ⟨_, rfl, ?_⟩
    refine ite3 hM (fun hM => ?_) (fun hM => ?_)
    · skip
      refine ⟨_, rfl, ?_⟩
      refine ⟨_, rfl, ?_⟩
      refine ⟨_, rfl, ?_⟩
      refine ⟨_, _, rfl, rfl, ?_⟩
      obtain ⟨g15, g16, hM⟩ := hM
      apply rep_ixL (e := (fun y_ : Int => (D.v (V.int y_)))) (xs := x_parts_here.2.1) h9 g15 g16
      intro u19 h17
      obtain ⟨x18, x18e⟩ : ∃ x_, x_ = x_parts_here.2.1[Int.toNat (x_place - x_parts_here.1)]'g16 := ⟨_, rfl⟩
      rw [← x18e] at h17
      replace hM := hM x18 x18e
      obtain rfl := of_v h17
      exact hQ x18 _ _ hM hW.out rep_v
    · skip
      refine ⟨_, rfl, ?_⟩
      refine ⟨_, rfl, ?_⟩
      apply rep_lenL (e := (fun y_ : (Int × Int × Int) => (D.tup [(D.v (V.int y_.1)), (D.v (V.int y_.2.1)), (D.v (V.int y_.2.2))]))) (xs := x_parts_here.2.2) h13
      obtain ⟨g20, hM⟩ := hM
      refine ⟨_, _, rfl, g20, ?_⟩
      intro p21 n25
      have e22 := Rx.Ext.new (H := H_0) (o := (HO.tup [V.int (x_place / (x_parts_here.2.2.length : Int)), V.int (x_place % (x_parts_here.2.2.length : Int))])) n25
      have hp23 : upd H_0 p21 (HO.tup [V.int (x_place / (x_parts_here.2.2.length : Int)), V.int (x_place % (x_parts_here.2.2.length : Int))]) p21 = some (HO.tup [V.int (x_place / (x_parts_here.2.2.length : Int)), V.int (x_place % (x_parts_here.2.2.length : Int))]) := upd_same
      generalize upd H_0 p21 (HO.tup [V.int (x_place / (x_parts_here.2.2.length : Int)), V.int (x_place % (x_parts_here.2.2.length : Int))]) = H26 at e22 hp23 ⊢
      have h24 : rep ms _ (D.tup [D.v (V.int (x_place / (x_parts_here.2.2.length : Int))), D.v (V.int (x_place % (x_parts_here.2.2.length : Int)))]) (.ref p21) := rep_tup_mk hW n25 e22 hp23 (repL_cons rep_v (repL_cons rep_v repL_nil))
      replace h_parts_here := rep_ext e22 h_parts_here
      replace h9 := rep_ext e22 h9
      replace h13 := rep_ext e22 h13
      replace hW := hW.ret0 e22
      apply rep_gtup h24 rfl
      intro vs27 hv28
      obtain ⟨u29, us30, rfl, h31, hv32⟩ := repL_uncons hv28
      obtain rfl := of_v h31
      obtain ⟨u33, us34, rfl, h35, hv36⟩ := repL_uncons hv32
      obtain rfl := of_v h35
      obtain rfl := repL_empty hv36
      refine ⟨_, _, rfl, ?_⟩
      refine ⟨_, _, rfl, ?_⟩
      refine ⟨rfl, ?_⟩
      refine ⟨_, rfl, ?_⟩
      refine ⟨_, rfl, ?_⟩
      obtain ⟨g37, g38, hM⟩ := hM
      apply rep_ixL (e := (fun y_ : (Int × Int × Int) => (D.tup [(D.v (V.int y_.1)), (D.v (V.int y_.2.1)), (D.v (V.int y_.2.2))]))) (xs := x_parts_here.2.2) h13 g37 g38
      intro u41 h39
      obtain ⟨x40, x40e⟩ : ∃ x_, x_ = x_parts_here.2.2[Int.toNat (x_place % (x_parts_here.2.2.length : Int))]'g38 := ⟨_, rfl⟩
      rw [← x40e] at h39
      replace hM := hM x40 x40e
      apply rep_gtup h39 rfl
      intro vs42 hv43
      obtain ⟨u44, us45, rfl, h46, hv47⟩ := repL_uncons hv43
      obtain rfl := of_v h46
      obtain ⟨u48, us49, rfl, h50, hv51⟩ := repL_uncons hv47
      obtain rfl := of_v h50
      obtain ⟨u52, us53, rfl, h54, hv55⟩ := repL_uncons hv51
      obtain rfl := of_v h54
      obtain rfl := repL_empty hv55
      refine ⟨_, _, rfl, ?_⟩
      refine ⟨_, _, rfl, ?_⟩
      refine ⟨_, _, rfl, ?_⟩
      refine ⟨rfl, ?_⟩
      refine ⟨_, rfl, ?_⟩
      refine ⟨_, rfl, ?_⟩
      obtain ⟨g56, hM⟩ := hM
      refine ⟨_, _, rfl, rfl, g56, ?_⟩
      refine ⟨_, rfl, ?_⟩
      refine ⟨_, _, rfl, rfl, ?_⟩
      refine ⟨_, rfl, ?_⟩
      obtain ⟨g57, hM⟩ := hM
      refine ⟨_, _, rfl, rfl, g57, ?_⟩
      refine ⟨_, rfl, ?_⟩
      refine ⟨_, _, rfl, rfl, ?_⟩
      exact hQ ((((x40.1 * (x_place / (x_parts_here.2.2.length : Int))) + x40.2.1) * (x_place / (x_parts_here.2.2.length : Int))) + x40.2.2) _ _ hM hW.out rep_v
def M_wider (x_parts_here : (Int × (List Int) × (List (Int × Int × Int)))) (x_times : Int) (x_more : Int) (KM : (Int × (List Int) × (List (Int × Int × Int))) → Prop) : Prop :=
  (CMulW (x_parts_here.2.2.length : Int) x_times ∧ (forC (fun (x26 : Int) (s28 : (List (Int × Int × Int))) (k29 : ((List (Int × Int × Int))) → Prop) => ((rangeI (0 : Int) (3 : Int)).length < 100000 ∧ mapC (fun (x50 : Int) (k43 : Int → Prop) => (CMulW (x_parts_here.2.2.length : Int) x_times ∧ (CMulW ((x_parts_here.2.2.length : Int) * x_times) x50 ∧ (M_valueL ((0 : Int), ([] : List Int), x_parts_here.2.2) (x26 + (((x_parts_here.2.2.length : Int) * x_times) * x50)) fun r73 => (k43 r73))))) (rangeI (0 : Int) (3 : Int)) [] fun ys83 => (0 ≤ (2 : Int) ∧ ∃ g88 : Int.toNat (2 : Int) < ys83.length, ∀ x90, x90 = ys83[Int.toNat (2 : Int)]'g88 → (0 ≤ (1 : Int) ∧ ∃ g93 : Int.toNat (1 : Int) < ys83.length, ∀ x95, x95 = ys83[Int.toNat (1 : Int)]'g93 → (0 ≤ (0 : Int) ∧ ∃ g98 : Int.toNat (0 : Int) < ys83.length, ∀ x100, x100 = ys83[Int.toNat (0 : Int)]'g98 → (0 ≤ (1 : Int) ∧ ∃ g103 : Int.toNat (1 : Int) < ys83.length, ∀ x105, x105 = ys83[Int.toNat (1 : Int)]'g103 → (0 ≤ (0 : Int) ∧ ∃ g108 : Int.toNat (0 : Int) < ys83.length, ∀ x110, x110 = ys83[Int.toNat (0 : Int)]'g108 → (0 ≤ (0 : Int) ∧ ∃ g113 : Int.toNat (0 : Int) < ys83.length, ∀ x115, x115 = ys83[Int.toNat (0 : Int)]'g113 → (s28.length < 16777216 ∧ (k29 ((s28 ++ [((((x90 - ((2 : Int) * x95)) + x100) / (2 : Int)), ((x105 - x110) - (((x90 - ((2 : Int) * x95)) + x100) / (2 : Int))), x115)])))))))))))) (rangeI (0 : Int) ((x_parts_here.2.2.length : Int) * x_times)) (([] : List (Int × Int × Int))) fun s130 => ((rangeI (0 : Int) x_more).length < 100000 ∧ mapC (fun (x148 : Int) (k141 : Int → Prop) => (M_valueL x_parts_here ((x_parts_here.1 + (x_parts_here.2.1.length : Int)) + x148) fun r156 => (k141 r156))) (rangeI (0 : Int) x_more) [] fun ys166 => (x_parts_here.2.1.length + ys166.length ≤ sizeLine ∧ (KM (x_parts_here.1, (x_parts_here.2.1 ++ ys166), s130))))))
def sp_wider (A : Ad) : Sp := fun vs H Q _ => ∃ (ms : List Addr) (v_parts_here : V) (x_parts_here : (Int × (List Int) × (List (Int × Int × Int)))) (x_times : Int) (x_more : Int) (KM : (Int × (List Int) × (List (Int × Int × Int))) → Prop), vs = [v_parts_here, V.int x_times, V.int x_more] ∧ Wd ms [] [] H H ∧ rep ms H (D.tup [(D.v (V.int x_parts_here.1)), (D.lst (x_parts_here.2.1.map (fun y_ : Int => (D.v (V.int y_))))), (D.lst (x_parts_here.2.2.map (fun y_ : (Int × Int × Int) => (D.tup [(D.v (V.int y_.1)), (D.v (V.int y_.2.1)), (D.v (V.int y_.2.2))]))))]) v_parts_here ∧ M_wider x_parts_here x_times x_more KM ∧ ∀ (r : (Int × (List Int) × (List (Int × Int × Int)))) (u : V) (H1 : Hp), KM r → Ret [] H H1 → rep ms H1 (D.tup [(D.v (V.int r.1)), (D.lst (r.2.1.map (fun y_ : Int => (D.v (V.int y_))))), (D.lst (r.2.2.map (fun y_ : (Int × Int × Int) => (D.tup [(D.v (V.int y_.1)), (D.v (V.int y_.2.1)), (D.v (V.int y_.2.2))]))))]) u → (∀ (p_ : Addr) (vs_ : List V), u = V.ref p_ → H1 p_ = some (.tup vs_) → ∃ (a_ b_ : Addr) (x_ : V), vs_ = [x_, V.ref a_, V.ref b_] ∧ H a_ = none ∧ H b_ = none ∧ a_ ≠ b_) → Q u H1
set_option maxHeartbeats 16000000 in
theorem ok_wider {P : Program} {w : World} {K : PySem.W.Frag} {mg : Str → Option Value} {base : Heap} {A : Ad} (T : Txt w K mg A) : FnOk P w K mg base CX0 2 A.a_wider A.d_wider ["_law_parts_here", "_law_times", "_law_more"] (sp_wider A) := by
  refine T.F_wider.ok sc_wider (fun vs H Q E h => ?_) (fun cdv A_ outer s_ H_0 vs Q E hr h => ?_)
  · obtain ⟨ms, v_parts_here, x_parts_here, x_times, x_more, KM, rfl, _⟩ := h
    rfl
  · obtain ⟨ms, v_parts_here, x_parts_here, x_times, x_more, KM, rfl, hW, h_parts_here, hM, hQ⟩ := h
    unfold M_wider at hM
    refine ⟨_, (pss_cons (ps_asg (pv 0) (pg_tup rfl (pgs_cons (pg_name (i := 3) sc_wider.nd rfl (by first | exact Or.inl rfl | exact Or.inr rfl)) (pgs_cons (pg_name (i := 4) sc_wider.nd rfl (by first | exact Or.inl rfl | exact Or.inr rfl)) (pgs_cons (pg_name (i := 5) sc_wider.nd rfl (by first | exact Or.inl rfl | exact Or.inr rfl)) pgs_nil))))) (pss_cons (ps_asg (pe_tup (pa_cons (pe_op op_add (pv 3) (pe_callB (call_lenK (K := K) rfl) (by rfl) T.z_len PySem.boot_len (pa_cons (pv 4) pa_nil))) (pa_cons (pe_lst pa_nil) (pa_cons (pe_callB (call_lenK (K := K) rfl) (by rfl) T.z_len PySem.boot_len (pa_cons (pv 5) pa_nil)) pa_nil)))) (pg_tup rfl (pgs_cons (pg_name (i := 6) sc_wider.nd rfl (by first | exact Or.inl rfl | exact Or.inr rfl)) (pgs_cons (pg_name (i := 7) sc_wider.nd rfl (by first | exact Or.inl rfl | exact Or.inr rfl)) (pgs_cons (pg_name (i := 8) sc_wider.nd rfl (by first | exact Or.inl rfl | exact Or.inr rfl)) pgs_nil))))) (pss_cons (ps_for PassesOwn.never rfl (pi_rangeW1 (by rfl) T.z_range (pa_cons (pe_op op_mulW (pv 8) (pv 1)) pa_nil)) (pg_name (i := 9) sc_wider.nd rfl (by first | exact Or.inl rfl | exact Or.inr rfl)) (pss_cons (ps_setLc (i := 10) (own := [("_law_turn", 12)]) (g := gName 12) rfl sc_wider.nd rfl rfl (sw_true rfl rfl rfl (by decide +kernel)) (pi_rangeW1 (by rfl) T.z_range (pa_cons pe_int pa_nil)) (blkOk_by (N := ["_law_parts_here", "_law_times", "_law_more", "_law_first", "_law_early", "_law_rows", "_law_begin", "_law_later_here", "_law_size", "_law_rest", "_law_told", "_law_a", "_law_turn", "_law_step"]) (sc := defScope s_wider) (by decide +kernel)) (fun _ _ _ _ _ => pg_name (i := 12) sc_wider.nd rfl (by first | exact Or.inl rfl | exact Or.inr rfl)) (fun _ _ _ _ _ => pts_nil) (fun _ _ _ _ _ => (pe_call (ok_valueL T) (hr.mono (by decide)) (by rfl) T.g_valueL T.F_valueL.kp T.b_valueL .nil pass0 (pa_cons (pe_tup (pa_cons pe_int (pa_cons (pe_lst pa_nil) (pa_cons (pv 5) pa_nil)))) (pa_cons (pe_op op_add (pv 9) (pe_op op_mulW (pe_op op_mulW (pv 8) (pv 1)) (pv 12))) pa_nil))))) (pss_cons (ps_set (i := 11) sc_wider.nd rfl (by first | exact Or.inl rfl | exact Or.inr rfl) (pe_op op_fdivW (pe_op op_add (pe_op op_sub (pe_ix (ix_listK (K := K) rfl) (pv 10) pe_int (fun _ _ => rfl)) (pe_op op_mul pe_int (pe_ix (ix_listK (K := K) rfl) (pv 10) pe_int (fun _ _ => rfl)))) (pe_ix (ix_listK (K := K) rfl) (pv 10) pe_int (fun _ _ => rfl))) pe_int)) (pss_one (ps_expr (pe_bmK (K := K) rfl PySem.F.plainAttrs_list PySem.F.slot_list_append PySem.F.type_list_append mt_append (pv 7) (pa_cons (pe_tup (pa_cons (pv 11) (pa_cons (pe_op op_sub (pe_op op_sub (pe_ix (ix_listK (K := K) rfl) (pv 10) pe_int (fun _ _ => rfl)) (pe_ix (ix_listK (K := K) rfl) (pv 10) pe_int (fun _ _ => rfl))) (pv 11)) (pa_cons (pe_ix (ix_listK (K := K) rfl) (pv 10) pe_int (fun _ _ => rfl)) pa_nil)))) pa_nil))))))) (pss_one (ps_ret (pe_tup (pa_cons (pv 3) (pa_cons (pe_op op_cat (pv 4) (pe_lc (own := [("_law_step", 13)]) (g := gName 13) rfl sc_wider.nd (pi_rangeW1 (by rfl) T.z_range (pa_cons (pv 2) pa_nil)) (blkOk_by (N := ["_law_parts_here", "_law_times", "_law_more", "_law_first", "_law_early", "_law_rows", "_law_begin", "_law_later_here", "_law_size", "_law_rest", "_law_told", "_law_a", "_law_turn", "_law_step"]) (sc := defScope s_wider) (by decide +kernel)) (fun _ _ _ _ _ => pg_name (i := 13) sc_wider.nd rfl (by first | exact Or.inl rfl | exact Or.inr rfl)) (fun _ _ _ _ _ => pts_nil) (fun _ _ _ _ _ => (pe_call (ok_valueL T) (hr.mono (by decide)) (by rfl) T.g_valueL T.F_valueL.kp T.b_valueL .nil pass0 (pa_cons (pv 0) (pa_cons (pe_op op_add (pv 6) (pv 13)) pa_nil)))))) (pa_cons (pv 7) pa_nil))))))))), ?_⟩
    refine ⟨_, rfl, ?_⟩
    apply rep_gtup h_parts_here rfl
    intro vs1 hv2
    obtain ⟨u3, us4, rfl, h5, hv6⟩ := repL_uncons hv2
    obtain rfl := of_v h5
    obtain ⟨u7, us8, rfl, h9, hv10⟩ := repL_uncons hv6
    obtain ⟨u11, us12, rfl, h13, hv14⟩ := repL_uncons hv10
    obtain rfl := repL_empty hv14
    refine ⟨_, _, rfl, ?_⟩
    refine ⟨_, _, rfl, ?_⟩
    refine ⟨_, _, rfl, ?_⟩
    refine ⟨rfl, ?_⟩
    refine ⟨_, rfl, ?_⟩
    refine ⟨_, rfl, ?_⟩
    apply rep_lenL (e := (fun y_ : Int => (D.v (V.int y_)))) (xs := x_parts_here.2.1) h9
    refine ⟨_, _, rfl, rfl, ?_⟩
    refine ⟨(by show 0 ≤ sizeLine; decide), ?_⟩
    intro L15 nl16
    have nm17 := nm_new hW nl16
    have mu18 := mo_newL (ds := ([] : List (Int × Int × Int)).map (fun y_ : (Int × Int × Int) => (D.tup [(D.v (V.int y_.1)), (D.v (V.int y_.2.1)), (D.v (V.int y_.2.2))]))) (vs := []) hW nl16 repL_nil
    replace h_parts_here := rep_cell (o := .lst []) nl16 h_parts_here
    replace h9 := rep_cell (o := .lst []) nl16 h9
    replace h13 := rep_cell (o := .lst []) nl16 h13
    replace hW := wd_cell (o := .lst []) hW nl16
    generalize upd H_0 L15 (.lst []) = H19 at *
    replace mu18 : MutO (L15 :: ms) [] H_0 H19 L15 (D.lst (([] : List (Int × Int × Int)).map (fun y_ : (Int × Int × Int) => (D.tup [(D.v (V.int y_.1)), (D.v (V.int y_.2.1)), (D.v (V.int y_.2.2))])))) := mu18
    refine ⟨_, rfl, ?_⟩
    apply rep_lenL (e := (fun y_ : (Int × Int × Int) => (D.tup [(D.v (V.int y_.1)), (D.v (V.int y_.2.1)), (D.v (V.int y_.2.2))]))) (xs := x_parts_here.2.2) h13
    refine ⟨(by show 3 ≤ sizeLine; decide), ?_⟩
    intro p20 n23
    have e21 := Rx.Ext.new (H := H19) (o := (HO.tup [V.int (x_parts_here.1 + (x_parts_here.2.1.length : Int)), (V.ref L15), V.int (x_parts_here.2.2.length : Int)])) n23
    have hp22 : upd H19 p20 (HO.tup [V.int (x_parts_here.1 + (x_parts_here.2.1.length : Int)), (V.ref L15), V.int (x_parts_here.2.2.length : Int)]) p20 = some (HO.tup [V.int (x_parts_here.1 + (x_parts_here.2.1.length : Int)), (V.ref L15), V.int (x_parts_here.2.2.length : Int)]) := upd_same
    generalize upd H19 p20 (HO.tup [V.int (x_parts_here.1 + (x_parts_here.2.1.length : Int)), (V.ref L15), V.int (x_parts_here.2.2.length : Int)]) = H24 at e21 hp22 ⊢
    replace h_parts_here := rep_ext e21 h_parts_here
    replace h9 := rep_ext e21 h9
    replace h13 := rep_ext e21 h13
    replace mu18 := mo_ext e21 mu18
    replace hW := hW.ret0 e21
    refine ⟨_, _, rfl, .inl (.inl hp22), rfl, ?_⟩
    refine ⟨_, _, rfl, ?_⟩
    refine ⟨_, _, rfl, ?_⟩
    refine ⟨_, _, rfl, ?_⟩
    refine ⟨rfl, ?_⟩
    refine ⟨_, rfl, ?_⟩
    refine ⟨_, rfl, ?_⟩
    obtain ⟨g25, hM⟩ := hM
    refine ⟨_, _, rfl, rfl, g25, ?_⟩
    refine ⟨_, rfl, ?_⟩
    refine for_rangeG (S := (List (Int × Int × Int))) (lo := (0 : Int)) (hi := ((x_parts_here.2.2.length : Int) * x_times)) (N := Int.toNat ((x_parts_here.2.2.length : Int) * x_times)) (fun (s : (List (Int × Int × Int))) σ_ h_ => ∃ (w_0 : Option V), ∃ (w_1 : Option V), ∃ (w_2 : Option V), σ_ = [some v_parts_here, some (V.int x_times), some (V.int x_more), some (V.int x_parts_here.1), some u7, some u11, some (V.int (x_parts_here.1 + (x_parts_here.2.1.length : Int))), some (V.ref L15), some (V.int (x_parts_here.2.2.length : Int)), w_0, w_1, w_2, none, none] ∧ Wd (L15 :: ms) [] [] H_0 h_ ∧ Keep (L15 :: ms) H24 h_ ∧ MutO (L15 :: ms) [] H_0 h_ L15 (D.lst (s.map (fun y_ : (Int × Int × Int) => (D.tup [(D.v (V.int y_.1)), (D.v (V.int y_.2.1)), (D.v (V.int y_.2.2))]))))) (([] : List (Int × Int × Int))) (by simp) hM ⟨_, _, _, rfl, hW, Keep.refl, mu18⟩ ?_ ?_
    · skip
      clear mu18
      rintro x26 s28 k29 _ H38 ⟨w34, w35, w36, rfl, hW, hk30, mu37⟩ hM Nx32 hN33
      replace h_parts_here := rep_keep hk30 h_parts_here
      replace h9 := rep_keep hk30 h9
      replace h13 := rep_keep hk30 h13
      refine ⟨_, rfl, ?_⟩
      refine fun L39 nl40 => ?_
      have nm54 := nm_new hW nl40
      have kn55 := keep_none (w := hW) nl40 hk30
      have ne56 := mo_ne nl40 mu37
      refine lc_rangeG (L := L39) (fun n_ ys_ h_ => Wd (L39 :: (L15 :: ms)) [] [] H_0 h_ ∧ Keep (L39 :: (L15 :: ms)) H38 h_ ∧ MutO (L39 :: (L15 :: ms)) [] H_0 h_ L39 (D.lst (ys_.map (fun y_ : Int => (D.v (V.int y_))))) ∧ ys_.length ≤ n_ ∧ MutO (L39 :: (L15 :: ms)) [] H_0 h_ L15 (D.lst (s28.map (fun y_ : (Int × Int × Int) => (D.tup [(D.v (V.int y_.1)), (D.v (V.int y_.2.1)), (D.v (V.int y_.2.2))]))))) (lo := (0 : Int)) (hi := (3 : Int)) (N := Int.toNat (3 : Int)) (by simp) hM ⟨wd_cell hW nl40, keep_cell nl40 Keep.refl, mo_newL (ds := []) hW nl40 repL_nil, Nat.le_refl _, mo_cell nl40 mu37⟩ ?_ ?_
      · skip
        clear mu37
        rintro x50  n41 ys42 k43 H57 hn ⟨hW, hk44, mu45, ln46, mu58⟩ hM Nx49 hN47
        replace h_parts_here := rep_keep hk44 (rep_new nl40 h_parts_here)
        replace h9 := rep_keep hk44 (rep_new nl40 h9)
        replace h13 := rep_keep hk44 (rep_new nl40 h13)
        replace hk30 := Keep.trans (Keep.new hk30) hk44
        refine ⟨rfl, ?_⟩
        refine tyes_of ?_
        refine ⟨(by show 0 ≤ sizeLine; decide), ?_⟩
        intro p59 n63
        have e60 := Rx.Ext.new (H := H57) (o := (HO.lst [])) n63
        have hp61 : upd H57 p59 (HO.lst []) p59 = some (HO.lst []) := upd_same
        generalize upd H57 p59 (HO.lst []) = H64 at e60 hp61 ⊢
        have h62 : rep (L39 :: (L15 :: ms)) H64 (D.lst (([] : List Int).map (fun y_ : Int => (D.v (V.int y_))))) (.ref p59) := rep_lst_mk hW n63 e60 hp61 repL_nil
        replace h_parts_here := rep_ext e60 h_parts_here
        replace h9 := rep_ext e60 h9
        replace h13 := rep_ext e60 h13
        replace hk30 := keep_ext e60 hk30
        replace hk44 := keep_ext e60 hk44
        replace mu58 := mo_ext e60 mu58
        replace mu45 := mo_ext e60 mu45
        replace hW := hW.ret0 e60
        refine ⟨_, rfl, ?_⟩
        refine ⟨(by show 3 ≤ sizeLine; decide), ?_⟩
        intro p65 n69
        have e66 := Rx.Ext.new (H := H64) (o := (HO.tup [V.int (0 : Int), (V.ref p59), u11])) n69
        have hp67 : upd H64 p65 (HO.tup [V.int (0 : Int), (V.ref p59), u11]) p65 = some (HO.tup [V.int (0 : Int), (V.ref p59), u11]) := upd_same
        generalize upd H64 p65 (HO.tup [V.int (0 : Int), (V.ref p59), u11]) = H70 at e66 hp67 ⊢
        have h68 : rep (L39 :: (L15 :: ms)) H70 (D.tup [(D.v (V.int (0 : Int))), (D.lst (([] : List Int).map (fun y_ : Int => (D.v (V.int y_))))), (D.lst (x_parts_here.2.2.map (fun y_ : (Int × Int × Int) => (D.tup [(D.v (V.int y_.1)), (D.v (V.int y_.2.1)), (D.v (V.int y_.2.2))]))))]) (.ref p65) := rep_tup_mk hW n69 e66 hp67 (repL_cons rep_v (repL_cons h62 (repL_cons h13 repL_nil)))
        replace h_parts_here := rep_ext e66 h_parts_here
        replace h9 := rep_ext e66 h9
        replace h13 := rep_ext e66 h13
        replace hk30 := keep_ext e66 hk30
        replace hk44 := keep_ext e66 hk44
        replace h62 := rep_ext e66 h62
        replace mu58 := mo_ext e66 mu58
        replace mu45 := mo_ext e66 mu45
        replace hW := hW.ret0 e66
        refine ⟨_, rfl, ?_⟩
        refine ⟨_, rfl, ?_⟩
        refine ⟨_, rfl, ?_⟩
        obtain ⟨g71, hM⟩ := hM
        refine ⟨_, _, rfl, rfl, g71, ?_⟩
        refine ⟨_, rfl, ?_⟩
        obtain ⟨g72, hM⟩ := hM
        refine ⟨_, _, rfl, rfl, g72, ?_⟩
        refine ⟨_, _, rfl, rfl, ?_⟩
        refine ⟨(L39 :: (L15 :: ms)), _, ((0 : Int), ([] : List Int), x_parts_here.2.2), (x26 + (((x_parts_here.2.2.length : Int) * x_times) * x50)), _, rfl, hW.enter0, h68, hM, fun r73 u76 H77 hM e75 h74 => ?_⟩
        replace h_parts_here := rep_ext e75 h_parts_here
        replace h9 := rep_ext e75 h9
        replace h13 := rep_ext e75 h13
        replace hk30 := keep_ext e75 hk30
        replace hk44 := keep_ext e75 hk44
        replace h62 := rep_ext e75 h62
        replace h68 := rep_ext e75 h68
        replace mu58 := mo_ext e75 mu58
        replace mu45 := mo_ext e75 mu45
        replace hW := hW.ret0 e75
        obtain rfl := of_v h74
        refine mo_end mu45 hn (by rw [List.length_map]; exact ln46) fun vs78 hr79 => ?_
        have mk81 := mo_setL mu45 (repL_snoc (e := (fun y_ : Int => (D.v (V.int y_)))) (xs := ys42) (y := r73) hr79 rep_v)
        replace mu58 := mo_put (o := .lst (vs78 ++ [V.int r73])) mu45.im ne56 mu58
        replace h_parts_here := rep_put (o := .lst (vs78 ++ [V.int r73])) mu45.im h_parts_here
        replace h9 := rep_put (o := .lst (vs78 ++ [V.int r73])) mu45.im h9
        replace h13 := rep_put (o := .lst (vs78 ++ [V.int r73])) mu45.im h13
        replace hk30 := keep_put (o := .lst (vs78 ++ [V.int r73])) mu45.im hk30
        replace hk44 := keep_put (o := .lst (vs78 ++ [V.int r73])) mu45.im hk44
        replace h62 := rep_put (o := .lst (vs78 ++ [V.int r73])) mu45.im h62
        replace h68 := rep_put (o := .lst (vs78 ++ [V.int r73])) mu45.im h68
        replace hW := wd_put (o := .lst (vs78 ++ [V.int r73])) hW mu45
        replace mu45 := mk81
        generalize upd H77 L39 (.lst (vs78 ++ [V.int r73])) = H82 at *
        replace mu45 : MutO (L39 :: (L15 :: ms)) [] H_0 H82 L39 (D.lst ((ys42 ++ [r73]).map (fun y_ : Int => (D.v (V.int y_))))) := mu45
        clear mk81
        exact hN47 r73 _ hM ⟨hW, hk44, mu45, by rw [List.length_append]; exact Nat.add_le_add_right ln46 1, mu58⟩
      · skip
        clear mu37
        rintro n41 ys83 H84 hM ⟨hW, hk44, mu45, ln46, mu85⟩
        replace h_parts_here := rep_keep hk44 (rep_new nl40 h_parts_here)
        replace h9 := rep_keep hk44 (rep_new nl40 h9)
        replace h13 := rep_keep hk44 (rep_new nl40 h13)
        replace hk30 := Keep.trans (Keep.new hk30) hk44
        clear hk44 ln46
        have h86 := mo_rep_dr dr_here nm54 mu45
        replace hW := wd_dr dr_here mu45.hp hW
        replace h_parts_here := rep_dr dr_here h_parts_here
        replace h9 := rep_dr dr_here h9
        replace h13 := rep_dr dr_here h13
        replace hk30 := keep_dr dr_here kn55 hk30
        replace mu85 := mo_dr dr_here ne56 mu85
        clear mu45
        refine ⟨_, rfl, ?_⟩
        obtain ⟨g87, g88, hM⟩ := hM
        apply rep_ixL (e := (fun y_ : Int => (D.v (V.int y_)))) (xs := ys83) h86 g87 g88
        intro u91 h89
        obtain ⟨x90, x90e⟩ : ∃ x_, x_ = ys83[Int.toNat (2 : Int)]'g88 := ⟨_, rfl⟩
        rw [← x90e] at h89
        replace hM := hM x90 x90e
        obtain rfl := of_v h89
        refine ⟨_, rfl, ?_⟩
        obtain ⟨g92, g93, hM⟩ := hM
        apply rep_ixL (e := (fun y_ : Int => (D.v (V.int y_)))) (xs := ys83) h86 g92 g93
        intro u96 h94
        obtain ⟨x95, x95e⟩ : ∃ x_, x_ = ys83[Int.toNat (1 : Int)]'g93 := ⟨_, rfl⟩
        rw [← x95e] at h94
        replace hM := hM x95 x95e
        obtain rfl := of_v h94
        refine ⟨_, _, rfl, rfl, .inl ⟨by decide, by decide⟩, ?_⟩
        refine ⟨_, _, rfl, rfl, ?_⟩
        refine ⟨_, rfl, ?_⟩
        obtain ⟨g97, g98, hM⟩ := hM
        apply rep_ixL (e := (fun y_ : Int => (D.v (V.int y_)))) (xs := ys83) h86 g97 g98
        intro u101 h99
        obtain ⟨x100, x100e⟩ : ∃ x_, x_ = ys83[Int.toNat (0 : Int)]'g98 := ⟨_, rfl⟩
        rw [← x100e] at h99
        replace hM := hM x100 x100e
        obtain rfl := of_v h99
        refine ⟨_, _, rfl, rfl, ?_⟩
        refine ⟨_, _, rfl, rfl, ⟨by decide, by decide⟩, ?_⟩
        refine ⟨_, rfl, ?_⟩
        refine ⟨mo_tyL mu85, ?_⟩
        refine ⟨_, rfl, ?_⟩
        refine ⟨_, rfl, ?_⟩
        obtain ⟨g102, g103, hM⟩ := hM
        apply rep_ixL (e := (fun y_ : Int => (D.v (V.int y_)))) (xs := ys83) h86 g102 g103
        intro u106 h104
        obtain ⟨x105, x105e⟩ : ∃ x_, x_ = ys83[Int.toNat (1 : Int)]'g103 := ⟨_, rfl⟩
        rw [← x105e] at h104
        replace hM := hM x105 x105e
        obtain rfl := of_v h104
        refine ⟨_, rfl, ?_⟩
        obtain ⟨g107, g108, hM⟩ := hM
        apply rep_ixL (e := (fun y_ : Int => (D.v (V.int y_)))) (xs := ys83) h86 g107 g108
        intro u111 h109
        obtain ⟨x110, x110e⟩ : ∃ x_, x_ = ys83[Int.toNat (0 : Int)]'g108 := ⟨_, rfl⟩
        rw [← x110e] at h109
        replace hM := hM x110 x110e
        obtain rfl := of_v h109
        refine ⟨_, _, rfl, rfl, ?_⟩
        refine ⟨_, rfl, ?_⟩
        refine ⟨_, _, rfl, rfl, ?_⟩
        refine ⟨_, rfl, ?_⟩
        obtain ⟨g112, g113, hM⟩ := hM
        apply rep_ixL (e := (fun y_ : Int => (D.v (V.int y_)))) (xs := ys83) h86 g112 g113
        intro u116 h114
        obtain ⟨x115, x115e⟩ : ∃ x_, x_ = ys83[Int.toNat (0 : Int)]'g113 := ⟨_, rfl⟩
        rw [← x115e] at h114
        replace hM := hM x115 x115e
        obtain rfl := of_v h114
        refine ⟨(by show 3 ≤ sizeLine; decide), ?_⟩
        intro p117 n121
        have e118 := Rx.Ext.new (H := H84) (o := (HO.tup [V.int (((x90 - ((2 : Int) * x95)) + x100) / (2 : Int)), V.int ((x105 - x110) - (((x90 - ((2 : Int) * x95)) + x100) / (2 : Int))), V.int x115])) n121
        have hp119 : upd H84 p117 (HO.tup [V.int (((x90 - ((2 : Int) * x95)) + x100) / (2 : Int)), V.int ((x105 - x110) - (((x90 - ((2 : Int) * x95)) + x100) / (2 : Int))), V.int x115]) p117 = some (HO.tup [V.int (((x90 - ((2 : Int) * x95)) + x100) / (2 : Int)), V.int ((x105 - x110) - (((x90 - ((2 : Int) * x95)) + x100) / (2 : Int))), V.int x115]) := upd_same
        generalize upd H84 p117 (HO.tup [V.int (((x90 - ((2 : Int) * x95)) + x100) / (2 : Int)), V.int ((x105 - x110) - (((x90 - ((2 : Int) * x95)) + x100) / (2 : Int))), V.int x115]) = H122 at e118 hp119 ⊢
        have h120 : rep (L15 :: ms) H122 (D.tup [(D.v (V.int (((x90 - ((2 : Int) * x95)) + x100) / (2 : Int)))), (D.v (V.int ((x105 - x110) - (((x90 - ((2 : Int) * x95)) + x100) / (2 : Int))))), (D.v (V.int x115))]) (.ref p117) := rep_tup_mk hW n121 e118 hp119 (repL_cons rep_v (repL_cons rep_v (repL_cons rep_v repL_nil)))
        replace h_parts_here := rep_ext e118 h_parts_here
        replace h9 := rep_ext e118 h9
        replace h13 := rep_ext e118 h13
        replace hk30 := keep_ext e118 hk30
        replace h86 := rep_ext e118 h86
        replace mu85 := mo_ext e118 mu85
        replace hW := hW.ret0 e118
        obtain ⟨g123, hM⟩ := hM
        apply mo_appU mu85 (by rw [List.length_map]; exact g123)
        intro vs124 hr126
        have mk128 := mo_setL mu85 (repL_snoc (e := (fun y_ : (Int × Int × Int) => (D.tup [(D.v (V.int y_.1)), (D.v (V.int y_.2.1)), (D.v (V.int y_.2.2))]))) (xs := s28) (y := ((((x90 - ((2 : Int) * x95)) + x100) / (2 : Int)), ((x105 - x110) - (((x90 - ((2 : Int) * x95)) + x100) / (2 : Int))), x115)) hr126 h120)
        replace h_parts_here := rep_put (o := .lst (vs124 ++ [(V.ref p117)])) mu85.im h_parts_here
        replace h9 := rep_put (o := .lst (vs124 ++ [(V.ref p117)])) mu85.im h9
        replace h13 := rep_put (o := .lst (vs124 ++ [(V.ref p117)])) mu85.im h13
        replace hk30 := keep_put (o := .lst (vs124 ++ [(V.ref p117)])) mu85.im hk30
        replace h86 := rep_put (o := .lst (vs124 ++ [(V.ref p117)])) mu85.im h86
        replace h120 := rep_put (o := .lst (vs124 ++ [(V.ref p117)])) mu85.im h120
        replace hW := wd_put (o := .lst (vs124 ++ [(V.ref p117)])) hW mu85
        replace mu85 := mk128
        generalize upd H122 L15 (.lst (vs124 ++ [(V.ref p117)])) = H129 at *
        replace mu85 : MutO (L15 :: ms) [] H_0 H129 L15 (D.lst ((s28 ++ [((((x90 - ((2 : Int) * x95)) + x100) / (2 : Int)), ((x105 - x110) - (((x90 - ((2 : Int) * x95)) + x100) / (2 : Int))), x115)]).map (fun y_ : (Int × Int × Int) => (D.tup [(D.v (V.int y_.1)), (D.v (V.int y_.2.1)), (D.v (V.int y_.2.2))])))) := mu85
        clear mk128
        exact hN33 ((s28 ++ [((((x90 - ((2 : Int) * x95)) + x100) / (2 : Int)), ((x105 - x110) - (((x90 - ((2 : Int) * x95)) + x100) / (2 : Int))), x115)])) _ _ hM ⟨_, _, _, rfl, hW, hk30, mu85⟩
    · skip
      clear mu18
      rintro s130 _ H136 hM ⟨w132, w133, w134, rfl, hW, hk131, mu135⟩
      replace h_parts_here := rep_keep hk131 h_parts_here
      replace h9 := rep_keep hk131 h9
      replace h13 := rep_keep hk131 h13
      refine ⟨_, rfl, ?_⟩
      refine ⟨_, rfl, ?_⟩
      refine ⟨_, rfl, ?_⟩
      refine ⟨_, rfl, ?_⟩
      refine fun L137 nl138 => ?_
      have nm152 := nm_new hW nl138
      have ne153 := mo_ne nl138 mu135
      refine lc_rangeG (L := L137) (fun n_ ys_ h_ => Wd (L137 :: (L15 :: ms)) [] [] H_0 h_ ∧ Keep (L137 :: (L15 :: ms)) H136 h_ ∧ MutO (L137 :: (L15 :: ms)) [] H_0 h_ L137 (D.lst (ys_.map (fun y_ : Int => (D.v (V.int y_))))) ∧ ys_.length ≤ n_ ∧ MutO (L137 :: (L15 :: ms)) [] H_0 h_ L15 (D.lst (s130.map (fun y_ : (Int × Int × Int) => (D.tup [(D.v (V.int y_.1)), (D.v (V.int y_.2.1)), (D.v (V.int y_.2.2))]))))) (lo := (0 : Int)) (hi := x_more) (N := Int.toNat x_more) (by simp) hM ⟨wd_cell hW nl138, keep_cell nl138 Keep.refl, mo_newL (ds := []) hW nl138 repL_nil, Nat.le_refl _, mo_cell nl138 mu135⟩ ?_ ?_
      · skip
        clear mu135
        rintro x148  n139 ys140 k141 H154 hn ⟨hW, hk142, mu143, ln144, mu155⟩ hM Nx147 hN145
        replace h_parts_here := rep_keep hk142 (rep_new nl138 h_parts_here)
        replace h9 := rep_keep hk142 (rep_new nl138 h9)
        replace h13 := rep_keep hk142 (rep_new nl138 h13)
        refine ⟨rfl, ?_⟩
        refine tyes_of ?_
        refine ⟨_, rfl, ?_⟩
        refine ⟨_, rfl, ?_⟩
        refine ⟨_, rfl, ?_⟩
        refine ⟨_, _, rfl, rfl, ?_⟩
        refine ⟨(L137 :: (L15 :: ms)), _, x_parts_here, ((x_parts_here.1 + (x_parts_here.2.1.length : Int)) + x148), _, rfl, hW.enter0, h_parts_here, hM, fun r156 u159 H160 hM e158 h157 => ?_⟩
        replace h_parts_here := rep_ext e158 h_parts_here
        replace h9 := rep_ext e158 h9
        replace h13 := rep_ext e158 h13
        replace hk142 := keep_ext e158 hk142
        replace mu155 := mo_ext e158 mu155
        replace mu143 := mo_ext e158 mu143
        replace hW := hW.ret0 e158
        obtain rfl := of_v h157
        refine mo_end mu143 hn (by rw [List.length_map]; exact ln144) fun vs161 hr162 => ?_
        have mk164 := mo_setL mu143 (repL_snoc (e := (fun y_ : Int => (D.v (V.int y_)))) (xs := ys140) (y := r156) hr162 rep_v)
        replace mu155 := mo_put (o := .lst (vs161 ++ [V.int r156])) mu143.im ne153 mu155
        replace h_parts_here := rep_put (o := .lst (vs161 ++ [V.int r156])) mu143.im h_parts_here
        replace h9 := rep_put (o := .lst (vs161 ++ [V.int r156])) mu143.im h9
        replace h13 := rep_put (o := .lst (vs161 ++ [V.int r156])) mu143.im h13
        replace hk142 := keep_put (o := .lst (vs161 ++ [V.int r156])) mu143.im hk142
        replace hW := wd_put (o := .lst (vs161 ++ [V.int r156])) hW mu143
        replace mu143 := mk164
        generalize upd H160 L137 (.lst (vs161 ++ [V.int r156])) = H165 at *
        replace mu143 : MutO (L137 :: (L15 :: ms)) [] H_0 H165 L137 (D.lst ((ys140 ++ [r156]).map (fun y_ : Int => (D.v (V.int y_))))) := mu143
        clear mk164
        exact hN145 r156 _ hM ⟨hW, hk142, mu143, by rw [List.length_append]; exact Nat.add_le_add_right ln144 1, mu155⟩
      · skip
        clear mu135
        rintro n139 ys166 H167 hM ⟨hW, hk142, mu143, ln144, mu168⟩
        replace h_parts_here := rep_keep hk142 (rep_new nl138 h_parts_here)
        replace h9 := rep_keep hk142 (rep_new nl138 h9)
        replace h13 := rep_keep hk142 (rep_new nl138 h13)
        clear hk142 ln144
        have h169 := mo_rep_dr dr_here nm152 mu143
        replace hW := wd_dr dr_here mu143.hp hW
        replace h_parts_here := rep_dr dr_here h_parts_here
        replace h9 := rep_dr dr_here h9
        replace h13 := rep_dr dr_here h13
        replace mu168 := mo_dr dr_here ne153 mu168
        clear mu143
        obtain ⟨g170, hM⟩ := hM
        apply rep_catU (xs := x_parts_here.2.1) (ys := ys166) (e := (fun y_ : Int => (D.v (V.int y_)))) h9 h169 g170
        intro vs173 us174 h175 h176 L171 nl172
        have nm177 := nm_new hW nl172
        have mu178 := mo_newL (ds := (x_parts_here.2.1 ++ ys166).map (fun y_ : Int => (D.v (V.int y_)))) (vs := vs173 ++ us174) hW nl172 (repL_cat (e := (fun y_ : Int => (D.v (V.int y_)))) (xs := x_parts_here.2.1) (ys := ys166) h175 h176)
        have ne179 := mo_ne nl172 mu168
        replace mu168 := mo_cell (o := .lst (vs173 ++ us174)) nl172 mu168
        replace h_parts_here := rep_cell (o := .lst (vs173 ++ us174)) nl172 h_parts_here
        replace h9 := rep_cell (o := .lst (vs173 ++ us174)) nl172 h9
        replace h13 := rep_cell (o := .lst (vs173 ++ us174)) nl172 h13
        replace h169 := rep_cell (o := .lst (vs173 ++ us174)) nl172 h169
        replace hW := wd_cell (o := .lst (vs173 ++ us174)) hW nl172
        generalize upd H167 L171 (.lst (vs173 ++ us174)) = H180 at *
        replace mu178 : MutO (L171 :: (L15 :: ms)) [] H_0 H180 L171 (D.lst ((x_parts_here.2.1 ++ ys166).map (fun y_ : Int => (D.v (V.int y_))))) := mu178
        refine ⟨_, rfl, ?_⟩
        have fr181 := MutO.h0 mu178
        have fr182 := MutO.h0 mu168
        have fr183 : L171 ≠ L15 := Ne.symm ne179
        have h184 := mo_rep_dr dr_here nm177 mu178
        replace hW := wd_dr dr_here mu178.hp hW
        replace h_parts_here := rep_dr dr_here h_parts_here
        replace h9 := rep_dr dr_here h9
        replace h13 := rep_dr dr_here h13
        replace h169 := rep_dr dr_here h169
        replace mu168 := mo_dr dr_here ne179 mu168
        clear mu178
        have h185 := mo_rep_dr dr_here nm17 mu168
        replace hW := wd_dr dr_here mu168.hp hW
        replace h_parts_here := rep_dr dr_here h_parts_here
        replace h9 := rep_dr dr_here h9
        replace h13 := rep_dr dr_here h13
        replace h169 := rep_dr dr_here h169
        replace h184 := rep_dr dr_here h184
        clear mu168
        refine ⟨(by show 3 ≤ sizeLine; decide), ?_⟩
        intro p186 n190
        have e187 := Rx.Ext.new (H := H180) (o := (HO.tup [V.int x_parts_here.1, (V.ref L171), (V.ref L15)])) n190
        have hp188 : upd H180 p186 (HO.tup [V.int x_parts_here.1, (V.ref L171), (V.ref L15)]) p186 = some (HO.tup [V.int x_parts_here.1, (V.ref L171), (V.ref L15)]) := upd_same
        generalize upd H180 p186 (HO.tup [V.int x_parts_here.1, (V.ref L171), (V.ref L15)]) = H191 at e187 hp188 ⊢
        have h189 : rep ms H191 (D.tup [(D.v (V.int x_parts_here.1)), (D.lst ((x_parts_here.2.1 ++ ys166).map (fun y_ : Int => (D.v (V.int y_))))), (D.lst (s130.map (fun y_ : (Int × Int × Int) => (D.tup [(D.v (V.int y_.1)), (D.v (V.int y_.2.1)), (D.v (V.int y_.2.2))]))))]) (.ref p186) := rep_tup_mk hW n190 e187 hp188 (repL_cons rep_v (repL_cons h184 (repL_cons h185 repL_nil)))
        replace h_parts_here := rep_ext e187 h_parts_here
        replace h9 := rep_ext e187 h9
        replace h13 := rep_ext e187 h13
        replace h169 := rep_ext e187 h169
        replace h184 := rep_ext e187 h184
        replace h185 := rep_ext e187 h185
        replace hW := hW.ret0 e187
        exact hQ (x_parts_here.1, (x_parts_here.2.1 ++ ys166), s130) _ _ hM hW.out h189 (fun p_ vs_ z1_ z2_ => by cases z1_; rw [hp188] at z2_; cases z2_; exact ⟨_, _, _, rfl, fr181, fr182, fr183⟩)
def M_later (x_parts_here : (Int × (List Int) × (List (Int × Int × Int)))) (x_more : Int) (KM : (Int × (List Int) × (List (Int × Int × Int))) → Prop) : Prop :=
  (KM ((x_parts_here.1 + x_more), (cutM x_parts_here.2.1 (some x_more) none), x_parts_here.2.2))
def sp_later (A : Ad) : Sp := fun vs H Q _ => ∃ (ms : List Addr) (v_parts_here : V) (x_parts_here : (Int × (List Int) × (List (Int × Int × Int)))) (x_more : Int) (KM : (Int × (List Int) × (List (Int × Int × Int))) → Prop), vs = [v_parts_here, V.int x_more] ∧ Wd ms [] [] H H ∧ rep ms H (D.tup [(D.v (V.int x_parts_here.1)), (D.lst (x_parts_here.2.1.map (fun y_ : Int => (D.v (V.int y_))))), (D.lst (x_parts_here.2.2.map (fun y_ : (Int × Int × Int) => (D.tup [(D.v (V.int y_.1)), (D.v (V.int y_.2.1)), (D.v (V.int y_.2.2))]))))]) v_parts_here ∧ M_later x_parts_here x_more KM ∧ ∀ (r : (Int × (List Int) × (List (Int × Int × Int)))) (u : V) (H1 : Hp), KM r → Ret [] H H1 → rep ms H1 (D.tup [(D.v (V.int r.1)), (D.lst (r.2.1.map (fun y_ : Int => (D.v (V.int y_))))), (D.lst (r.2.2.map (fun y_ : (Int × Int × Int) => (D.tup [(D.v (V.int y_.1)), (D.v (V.int y_.2.1)), (D.v (V.int y_.2.2))]))))]) u → Q u H1
set_option maxHeartbeats 16000000 in
theorem ok_later {P : Program} {w : World} {K : PySem.W.Frag} {mg : Str → Option Value} {base : Heap} {A : Ad} (T : Txt w K mg A) : FnOk P w K mg base CX0 1 A.a_later A.d_later ["_law_parts_here", "_law_more"] (sp_later A) := by
  refine T.F_later.ok sc_later (fun vs H Q E h => ?_) (fun cdv A_ outer s_ H_0 vs Q E hr h => ?_)
  · obtain ⟨ms, v_parts_here, x_parts_here, x_more, KM, rfl, _⟩ := h
    rfl
  · obtain ⟨ms, v_parts_here, x_parts_here, x_more, KM, rfl, hW, h_parts_here, hM, hQ⟩ := h
    unfold M_later at hM
    refine ⟨_, (pss_cons (ps_asg (pv 0) (pg_tup rfl (pgs_cons (pg_name (i := 2) sc_later.nd rfl (by first | exact Or.inl rfl | exact Or.inr rfl)) (pgs_cons (pg_name (i := 3) sc_later.nd rfl (by first | exact Or.inl rfl | exact Or.inr rfl)) (pgs_cons (pg_name (i := 4) sc_later.nd rfl (by first | exact Or.inl rfl | exact Or.inr rfl)) pgs_nil))))) (pss_one (ps_ret (pe_tup (pa_cons (pe_op op_add (pv 2) (pv 1)) (pa_cons (pe_slice (sl_listK (K := K) rfl) (pv 3) (po_some (pv 1)) po_none) (pa_cons (pv 4) pa_nil))))))), ?_⟩
    refine ⟨_, rfl, ?_⟩
    apply rep_gtup h_parts_here rfl
    intro vs1 hv2
    obtain ⟨u3, us4, rfl, h5, hv6⟩ := repL_uncons hv2
    obtain rfl := of_v h5
    obtain ⟨u7, us8, rfl, h9, hv10⟩ := repL_uncons hv6
    obtain ⟨u11, us12, rfl, h13, hv14⟩ := repL_uncons hv10
    obtain rfl := repL_empty hv14
    refine ⟨_, _, rfl, ?_⟩
    refine ⟨_, _, rfl, ?_⟩
    refine ⟨_, _, rfl, ?_⟩
    refine ⟨rfl, ?_⟩
    refine ⟨_, rfl, ?_⟩
    refine ⟨_, rfl, ?_⟩
    refine ⟨_, _, rfl, rfl, ?_⟩
    refine ⟨_, rfl, ?_⟩
    refine ⟨_, rfl, ?_⟩
    refine ⟨_, rfl, ?_⟩
    apply rep_lsU h9
    intro vs15 hr16
    intro p17 n21
    have e18 := Rx.Ext.new (H := H_0) (o := (HO.lst (cutV vs15 (some x_more) none))) n21
    have hp19 : upd H_0 p17 (HO.lst (cutV vs15 (some x_more) none)) p17 = some (HO.lst (cutV vs15 (some x_more) none)) := upd_same
    generalize upd H_0 p17 (HO.lst (cutV vs15 (some x_more) none)) = H22 at e18 hp19 ⊢
    have h20 : rep ms H22 (D.lst ((cutM x_parts_here.2.1 (some x_more) none).map (fun y_ : Int => (D.v (V.int y_))))) (.ref p17) := rep_lst_mk hW n21 e18 hp19 (repL_cut (e := (fun y_ : Int => (D.v (V.int y_)))) (xs := x_parts_here.2.1) hr16)
    replace h_parts_here := rep_ext e18 h_parts_here
    replace h9 := rep_ext e18 h9
    replace h13 := rep_ext e18 h13
    replace hW := hW.ret0 e18
    refine ⟨_, rfl, ?_⟩
    refine ⟨(by show 3 ≤ sizeLine; decide), ?_⟩
    intro p23 n27
    have e24 := Rx.Ext.new (H := H22) (o := (HO.tup [V.int (x_parts_here.1 + x_more), (V.ref p17), u11])) n27
    have hp25 : upd H22 p23 (HO.tup [V.int (x_parts_here.1 + x_more), (V.ref p17), u11]) p23 = some (HO.tup [V.int (x_parts_here.1 + x_more), (V.ref p17), u11]) := upd_same
    generalize upd H22 p23 (HO.tup [V.int (x_parts_here.1 + x_more), (V.ref p17), u11]) = H28 at e24 hp25 ⊢
    have h26 : rep ms H28 (D.tup [(D.v (V.int (x_parts_here.1 + x_more))), (D.lst ((cutM x_parts_here.2.1 (some x_more) none).map (fun y_ : Int => (D.v (V.int y_))))), (D.lst (x_parts_here.2.2.map (fun y_ : (Int × Int × Int) => (D.tup [(D.v (V.int y_.1)), (D.v (V.int y_.2.1)), (D.v (V.int y_.2.2))]))))]) (.ref p23) := rep_tup_mk hW n27 e24 hp25 (repL_cons rep_v (repL_cons h20 (repL_cons h13 repL_nil)))
    replace h_parts_here := rep_ext e24 h_parts_here
    replace h9 := rep_ext e24 h9
    replace h13 := rep_ext e24 h13
    replace h20 := rep_ext e24 h20
    replace hW := hW.ret0 e24
    exact hQ ((x_parts_here.1 + x_more), (cutM x_parts_here.2.1 (some x_more) none), x_parts_here.2.2) _ _ hM hW.out h26
def M_pick_pltiii (x_some : (List (Int × Int × Int))) (KM : (Int × Int × Int) → Prop) : Prop :=
  (M_draw (x_some.length : Int) fun r1 => (0 ≤ r1 ∧ ∃ g7 : Int.toNat r1 < x_some.length, ∀ x9, x9 = x_some[Int.toNat r1]'g7 → (KM x9)))
def sp_pick_pltiii (A : Ad) : Sp := fun vs H Q _ => ∃ (ms : List Addr) (ap : Addr) (v_some : V) (x_some : (List (Int × Int × Int))) (KM : (Int × Int × Int) → Prop), vs = [.ref ap, v_some] ∧ Wd ms [ap] [] H H ∧ rep ms H (D.lst (x_some.map (fun y_ : (Int × Int × Int) => (D.tup [(D.v (V.int y_.1)), (D.v (V.int y_.2.1)), (D.v (V.int y_.2.2))])))) v_some ∧ M_pick_pltiii x_some KM ∧ ∀ (r : (Int × Int × Int)) (u : V) (H1 : Hp), KM r → Ret [ap] H H1 → rep ms H1 (D.tup [(D.v (V.int r.1)), (D.v (V.int r.2.1)), (D.v (V.int r.2.2))]) u → Q u H1
set_option maxHeartbeats 16000000 in
theorem ok_pick_pltiii {P : Program} {w : World} {K : PySem.W.Frag} {mg : Str → Option Value} {base : Heap} {A : Ad} (T : Txt w K mg A) : FnOk P w K mg base CX0 2 A.a_pick A.d_pick ["_law_pot_here", "_law_some"] (sp_pick_pltiii A) := by
  refine T.F_pick.ok sc_pick (fun vs H Q E h => ?_) (fun cdv A_ outer s_ H_0 vs Q E hr h => ?_)
  · obtain ⟨ms, ap, v_some, x_some, KM, rfl, _⟩ := h
    rfl
  · obtain ⟨ms, ap, v_some, x_some, KM, rfl, hW, h_some, hM, hQ⟩ := h
    unfold M_pick_pltiii at hM
    refine ⟨_, (pss_one (ps_ret (pe_ix (ix_listK (K := K) rfl) (pv 1) (pe_call (ok_draw T) (hr.mono (by decide)) (by rfl) T.g_draw T.F_draw.kp T.b_draw .nil pass0 (pa_cons (pv 0) (pa_cons (pe_callB (call_lenK (K := K) rfl) (by rfl) T.z_len PySem.boot_len (pa_cons (pv 1) pa_nil)) pa_nil))) (fun _ _ => rfl)))), ?_⟩
    refine ⟨_, rfl, ?_⟩
    refine ⟨_, rfl, ?_⟩
    refine ⟨_, rfl, ?_⟩
    apply rep_lenL (e := (fun y_ : (Int × Int × Int) => (D.tup [(D.v (V.int y_.1)), (D.v (V.int y_.2.1)), (D.v (V.int y_.2.2))]))) (xs := x_some) h_some
    refine ⟨ms, ap, (x_some.length : Int), _, rfl, hW.enterP, hM, fun r1 u4 H5 hM e3 h2 => ?_⟩
    replace h_some := rep_ret hW e3 h_some
    replace hW := hW.retP e3
    obtain rfl := of_v h2
    obtain ⟨g6, g7, hM⟩ := hM
    apply rep_ixL (e := (fun y_ : (Int × Int × Int) => (D.tup [(D.v (V.int y_.1)), (D.v (V.int y_.2.1)), (D.v (V.int y_.2.2))]))) (xs := x_some) h_some g6 g7
    intro u10 h8
    obtain ⟨x9, x9e⟩ : ∃ x_, x_ = x_some[Int.toNat r1]'g7 := ⟨_, rfl⟩
    rw [← x9e] at h8
    replace hM := hM x9 x9e
    exact hQ x9 _ _ hM hW.out h8
def M_beside (x_parts_here : (Int × (List Int) × (List (Int × Int × Int)))) (KM : (Int × (List Int) × (List (Int × Int × Int))) → Prop) : Prop :=
  (M_draw (6 : Int) fun r1 => (M_pick ([(1 : Int), (2 : Int), (3 : Int)] : List Int) fun r12 => (M_draw (5 : Int) fun r17 => (M_wider x_parts_here r12 r17 fun r22 => (if (decide (V.int r1 = V.int (0 : Int))) = true then (((plainD (D.lst (r22.2.1.map (fun y_ : Int => (D.v (V.int y_))))) = true ∧ plainD (D.lst (([] : List Int).map (fun y_ : Int => (D.v (V.int y_))))) = true ∧ SeqAt.shaped (pyOf (D.lst (r22.2.1.map (fun y_ : Int => (D.v (V.int y_)))))) = true ∧ SeqAt.shaped (pyOf (D.lst (([] : List Int).map (fun y_ : Int => (D.v (V.int y_)))))) = true)) ∧ (if (!(PyData.eqv (pyOf (D.lst (r22.2.1.map (fun y_ : Int => (D.v (V.int y_)))))) (pyOf (D.lst (([] : List Int).map (fun y_ : Int => (D.v (V.int y_)))))))) = true then (M_draw (r22.2.1.length : Int) fun r84 => (∃ y89, atI r22.2.1 r84 = some y89 ∧ (M_pick ([(1 : Int), (-(1 : Int)), ((10 : Int) ^ Int.toNat (20 : Int))] : List Int) fun r99 => (0 ≤ r84 ∧ Int.toNat r84 < r22.2.1.length ∧ (M_draw (((r22.2.1.set (Int.toNat r84) (y89 + r99)).length : Int) + (3 : Int)) fun r118 => (M_later (r22.1, (r22.2.1.set (Int.toNat r84) (y89 + r99)), r22.2.2) r118 fun r123 => (KM r123))))))) else (if (decide (V.int r1 = V.int (1 : Int))) = true then (M_draw (r22.2.2.length : Int) fun r129 => (CDivW r22.1 (r22.2.2.length : Int) ∧ (M_draw (4 : Int) fun r135 => (∃ y140, atI r22.2.2 r129 = some y140 ∧ (M_draw (2 : Int) fun r158 => (CMulW ((r22.1 / (r22.2.2.length : Int)) + r135) ((((r22.1 / (r22.2.2.length : Int)) + r135) + (1 : Int)) + r158) ∧ (M_pick_pltiii ([(y140.1, (y140.2.1 + (1 : Int)), (y140.2.2 - ((r22.1 / (r22.2.2.length : Int)) + r135))), ((y140.1 + (1 : Int)), ((y140.2.1 - ((r22.1 / (r22.2.2.length : Int)) + r135)) - ((((r22.1 / (r22.2.2.length : Int)) + r135) + (1 : Int)) + r158)), (y140.2.2 + (((r22.1 / (r22.2.2.length : Int)) + r135) * ((((r22.1 / (r22.2.2.length : Int)) + r135) + (1 : Int)) + r158)))), (y140.1, y140.2.1, (y140.2.2 + (1 : Int)))] : List (Int × Int × Int)) fun r188 => (0 ≤ r129 ∧ Int.toNat r129 < r22.2.2.length ∧ (KM (r22.1, r22.2.1, (r22.2.2.set (Int.toNat r129) r188))))))))))) else (if (decide (V.int r1 = V.int (2 : Int))) = true then (M_parts (6 : Int) fun r207 => (KM r207)) else (M_draw ((r22.2.1.length : Int) + (5 : Int)) fun r212 => (M_later (r22.1, r22.2.1, r22.2.2) r212 fun r218 => (KM r218))))))) else (if (decide (V.int r1 = V.int (1 : Int))) = true then (M_draw (r22.2.2.length : Int) fun r224 => (CDivW r22.1 (r22.2.2.length : Int) ∧ (M_draw (4 : Int) fun r230 => (∃ y235, atI r22.2.2 r224 = some y235 ∧ (M_draw (2 : Int) fun r253 => (CMulW ((r22.1 / (r22.2.2.length : Int)) + r230) ((((r22.1 / (r22.2.2.length : Int)) + r230) + (1 : Int)) + r253) ∧ (M_pick_pltiii ([(y235.1, (y235.2.1 + (1 : Int)), (y235.2.2 - ((r22.1 / (r22.2.2.length : Int)) + r230))), ((y235.1 + (1 : Int)), ((y235.2.1 - ((r22.1 / (r22.2.2.length : Int)) + r230)) - ((((r22.1 / (r22.2.2.length : Int)) + r230) + (1 : Int)) + r253)), (y235.2.2 + (((r22.1 / (r22.2.2.length : Int)) + r230) * ((((r22.1 / (r22.2.2.length : Int)) + r230) + (1 : Int)) + r253)))), (y235.1, y235.2.1, (y235.2.2 + (1 : Int)))] : List (Int × Int × Int)) fun r283 => (0 ≤ r224 ∧ Int.toNat r224 < r22.2.2.length ∧ (KM (r22.1, r22.2.1, (r22.2.2.set (Int.toNat r224) r283))))))))))) else (if (decide (V.int r1 = V.int (2 : Int))) = true then (M_parts (6 : Int) fun r302 => (KM r302)) else (M_draw ((r22.2.1.length : Int) + (5 : Int)) fun r307 => (M_later (r22.1, r22.2.1, r22.2.2) r307 fun r313 => (KM r313))))))))))
def sp_beside (A : Ad) : Sp := fun vs H Q _ => ∃ (ms : List Addr) (ap : Addr) (v_parts_here : V) (x_parts_here : (Int × (List Int) × (List (Int × Int × Int)))) (KM : (Int × (List Int) × (List (Int × Int × Int))) → Prop), vs = [.ref ap, v_parts_here] ∧ Wd ms [ap] [] H H ∧ rep ms H (D.tup [(D.v (V.int x_parts_here.1)), (D.lst (x_parts_here.2.1.map (fun y_ : Int => (D.v (V.int y_))))), (D.lst (x_parts_here.2.2.map (fun y_ : (Int × Int × Int) => (D.tup [(D.v (V.int y_.1)), (D.v (V.int y_.2.1)), (D.v (V.int y_.2.2))]))))]) v_parts_here ∧ M_beside x_parts_here KM ∧ ∀ (r : (Int × (List Int) × (List (Int × Int × Int)))) (u : V) (H1 : Hp), KM r → Ret [ap] H H1 → rep ms H1 (D.tup [(D.v (V.int r.1)), (D.lst (r.2.1.map (fun y_ : Int => (D.v (V.int y_))))), (D.lst (r.2.2.map (fun y_ : (Int × Int × Int) => (D.tup [(D.v (V.int y_.1)), (D.v (V.int y_.2.1)), (D.v (V.int y_.2.2))]))))]) u → Q u H1
set_option maxHeartbeats 16000000 in
theorem ok_beside {P : Program} {w : World} {K : PySem.W.Frag} {mg : Str → Option Value} {base : Heap} {A : Ad} (T : Txt w K mg A) : FnOk P w K mg base CX0 5 A.a_beside A.d_beside ["_law_pot_here", "_law_parts_here"] (sp_beside A) := by
  refine T.F_beside.ok sc_beside (fun vs H Q E h => ?_) (fun cdv A_ outer s_ H_0 vs Q E hr h => ?_)
  · obtain ⟨ms, ap, v_parts_here, x_parts_here, KM, rfl, _⟩ := h
    rfl
  · obtain ⟨ms, ap, v_parts_here, x_parts_here, KM, rfl, hW, h_parts_here, hM, hQ⟩ := h
    unfold M_beside at hM
    refine ⟨_, (pss_cons (ps_par (i := 2) (j := 3) (by rfl) sc_beside.nd rfl rfl (by decide) rfl rfl (pa_cons (pe_call (ok_draw T) (hr.mono (by decide)) (by rfl) T.g_draw T.F_draw.kp T.b_draw .nil pass0 (pa_cons (pv 0) (pa_cons pe_int pa_nil))) (pa_cons (pe_call (ok_wider T) (hr.mono (by decide)) (by rfl) T.g_wider T.F_wider.kp T.b_wider .nil pass0 (pa_cons (pv 1) (pa_cons (pe_call (ok_pick T) (hr.mono (by decide)) (by rfl) T.g_pick T.F_pick.kp T.b_pick .nil pass0 (pa_cons (pv 0) (pa_cons (pe_lst (pa_cons pe_int (pa_cons pe_int (pa_cons pe_int pa_nil)))) pa_nil))) (pa_cons (pe_call (ok_draw T) (hr.mono (by decide)) (by rfl) T.g_draw T.F_draw.kp T.b_draw .nil pass0 (pa_cons (pv 0) (pa_cons pe_int pa_nil))) pa_nil)))) pa_nil)) (by rfl)) (pss_cons (ps_asg (pv 3) (pg_tup rfl (pgs_cons (pg_name (i := 4) sc_beside.nd rfl (by first | exact Or.inl rfl | exact Or.inr rfl)) (pgs_cons (pg_name (i := 5) sc_beside.nd rfl (by first | exact Or.inl rfl | exact Or.inr rfl)) (pgs_cons (pg_name (i := 6) sc_beside.nd rfl (by first | exact Or.inl rfl | exact Or.inr rfl)) pgs_nil))))) (pss_cons (ps_if (PW.pt (pw_and (pt_cmpR op_eq (pv 2) pe_int (nomark _)) (pw_and1 (pt_cmpR (op_neDK (K := K) rfl hr.units) (pv 5) (pe_lst pa_nil) (nomark _))))) (pss_cons (ps_set (i := 7) sc_beside.nd rfl (by first | exact Or.inl rfl | exact Or.inr rfl) (pe_call (ok_draw T) (hr.mono (by decide)) (by rfl) T.g_draw T.F_draw.kp T.b_draw .nil pass0 (pa_cons (pv 0) (pa_cons (pe_callB (call_lenK (K := K) rfl) (by rfl) T.z_len PySem.boot_len (pa_cons (pv 5) pa_nil)) pa_nil)))) (pss_cons (ps_asg (pe_op op_add (pe_ix (ix_listK (K := K) rfl) (pv 5) (pv 7) (fun _ _ => rfl)) (pe_call (ok_pick T) (hr.mono (by decide)) (by rfl) T.g_pick T.F_pick.kp T.b_pick .nil pass0 (pa_cons (pv 0) (pa_cons (pe_lst (pa_cons pe_int (pa_cons (pe_un un_neg pe_int) (pa_cons (pe_op op_pow pe_int pe_int) pa_nil)))) pa_nil)))) (pg_sub (pv 5) (pv 7) set_list)) (pss_one (ps_ret (pe_call (ok_later T) (hr.mono (by decide)) (by rfl) T.g_later T.F_later.kp T.b_later .nil pass0 (pa_cons (pe_tup (pa_cons (pv 4) (pa_cons (pv 5) (pa_cons (pv 6) pa_nil)))) (pa_cons (pe_call (ok_draw T) (hr.mono (by decide)) (by rfl) T.g_draw T.F_draw.kp T.b_draw .nil pass0 (pa_cons (pv 0) (pa_cons (pe_op op_add (pe_callB (call_lenK (K := K) rfl) (by rfl) T.z_len PySem.boot_len (pa_cons (pv 5) pa_nil)) pe_int) pa_nil))) pa_nil))))))) pss_nil) (pss_cons (ps_if (pt_cmpR op_eq (pv 2) pe_int (nomark _)) (pss_cons (ps_par (i := 7) (j := 8) (by rfl) sc_beside.nd rfl rfl (by decide) rfl rfl (pa_cons (pe_call (ok_draw T) (hr.mono (by decide)) (by rfl) T.g_draw T.F_draw.kp T.b_draw .nil pass0 (pa_cons (pv 0) (pa_cons (pe_callB (call_lenK (K := K) rfl) (by rfl) T.z_len PySem.boot_len (pa_cons (pv 6) pa_nil)) pa_nil))) (pa_cons (pe_op op_add (pe_op op_fdivW (pv 4) (pe_callB (call_lenK (K := K) rfl) (by rfl) T.z_len PySem.boot_len (pa_cons (pv 6) pa_nil))) (pe_call (ok_draw T) (hr.mono (by decide)) (by rfl) T.g_draw T.F_draw.kp T.b_draw .nil pass0 (pa_cons (pv 0) (pa_cons pe_int pa_nil)))) pa_nil)) (by rfl)) (pss_cons (ps_asg (pe_ix (ix_listK (K := K) rfl) (pv 6) (pv 7) (fun _ _ => rfl)) (pg_tup rfl (pgs_cons (pg_name (i := 9) sc_beside.nd rfl (by first | exact Or.inl rfl | exact Or.inr rfl)) (pgs_cons (pg_name (i := 10) sc_beside.nd rfl (by first | exact Or.inl rfl | exact Or.inr rfl)) (pgs_cons (pg_name (i := 11) sc_beside.nd rfl (by first | exact Or.inl rfl | exact Or.inr rfl)) pgs_nil))))) (pss_cons (ps_set (i := 12) sc_beside.nd rfl (by first | exact Or.inl rfl | exact Or.inr rfl) (pe_op op_add (pe_op op_add (pv 8) pe_int) (pe_call (ok_draw T) (hr.mono (by decide)) (by rfl) T.g_draw T.F_draw.kp T.b_draw .nil pass0 (pa_cons (pv 0) (pa_cons pe_int pa_nil))))) (pss_cons (ps_set (i := 13) sc_beside.nd rfl (by first | exact Or.inl rfl | exact Or.inr rfl) (pe_lst (pa_cons (pe_tup (pa_cons (pv 9) (pa_cons (pe_op op_add (pv 10) pe_int) (pa_cons (pe_op op_sub (pv 11) (pv 8)) pa_nil)))) (pa_cons (pe_tup (pa_cons (pe_op op_add (pv 9) pe_int) (pa_cons (pe_op op_sub (pe_op op_sub (pv 10) (pv 8)) (pv 12)) (pa_cons (pe_op op_add (pv 11) (pe_op op_mulW (pv 8) (pv 12))) pa_nil)))) (pa_cons (pe_tup (pa_cons (pv 9) (pa_cons (pv 10) (pa_cons (pe_op op_add (pv 11) pe_int) pa_nil)))) pa_nil))))) (pss_cons (ps_asg (pe_call (ok_pick_pltiii T) (hr.mono (by decide)) (by rfl) T.g_pick T.F_pick.kp T.b_pick .nil pass0 (pa_cons (pv 0) (pa_cons (pv 13) pa_nil))) (pg_sub (pv 6) (pv 7) set_list)) (pss_one (ps_ret (pe_tup (pa_cons (pv 4) (pa_cons (pv 5) (pa_cons (pv 6) pa_nil))))))))))) pss_nil) (pss_cons (ps_if (pt_cmpR op_eq (pv 2) pe_int (nomark _)) (pss_one (ps_ret (pe_call (ok_parts T) (hr.mono (by decide)) (by rfl) T.g_parts T.F_parts.kp T.b_parts .nil pass0 (pa_cons (pv 0) (pa_cons pe_int pa_nil))))) pss_nil) (pss_one (ps_ret (pe_call (ok_later T) (hr.mono (by decide)) (by rfl) T.g_later T.F_later.kp T.b_later .nil pass0 (pa_cons (pv 3) (pa_cons (pe_call (ok_draw T) (hr.mono (by decide)) (by rfl) T.g_draw T.F_draw.kp T.b_draw .nil pass0 (pa_cons (pv 0) (pa_cons (pe_op op_add (pe_callB (call_lenK (K := K) rfl) (by rfl) T.z_len PySem.boot_len (pa_cons (pv 5) pa_nil)) pe_int) pa_nil))) pa_nil)))))))))), ?_⟩
    refine ⟨_, (by repeat (first | refine gs_ne (by decide) ?_ | exact gs_eq (by simp only [List.length_set, L2.wipe_length]; exact of_decide_eq_true rfl) | rfl)), ?_⟩
    refine ⟨ms, ap, (6 : Int), _, rfl, hW.enterP, hM, fun r1 u4 H5 hM e3 h2 => ?_⟩
    replace h_parts_here := rep_ret hW e3 h_parts_here
    replace hW := hW.retP e3
    obtain rfl := of_v h2
    refine ⟨_, (by repeat (first | refine gs_ne (by decide) ?_ | exact gs_eq (by simp only [List.length_set, L2.wipe_length]; exact of_decide_eq_true rfl) | rfl)), ?_⟩
    refine ⟨_, (by repeat (first | refine gs_ne (by decide) ?_ | exact gs_eq (by simp only [List.length_set, L2.wipe_length]; exact of_decide_eq_true rfl) | rfl)), ?_⟩
    refine ⟨(by show 3 ≤ sizeLine; decide), ?_⟩
    intro p6 n10
    have e7 := Rx.Ext.new (H := H5) (o := (HO.lst [V.int (1 : Int), V.int (2 : Int), V.int (3 : Int)])) n10
    have hp8 : upd H5 p6 (HO.lst [V.int (1 : Int), V.int (2 : Int), V.int (3 : Int)]) p6 = some (HO.lst [V.int (1 : Int), V.int (2 : Int), V.int (3 : Int)]) := upd_same
    generalize upd H5 p6 (HO.lst [V.int (1 : Int), V.int (2 : Int), V.int (3 : Int)]) = H11 at e7 hp8 ⊢
    have h9 : rep ms H11 (D.lst (([(1 : Int), (2 : Int), (3 : Int)] : List Int).map (fun y_ : Int => (D.v (V.int y_))))) (.ref p6) := rep_lst_mk hW n10 e7 hp8 (repL_cons rep_v (repL_cons rep_v (repL_cons rep_v repL_nil)))
    replace h_parts_here := rep_ext e7 h_parts_here
    replace hW := hW.ret0 e7
    refine ⟨ms, ap, _, ([(1 : Int), (2 : Int), (3 : Int)] : List Int), _, rfl, hW.enterP, h9, hM, fun r12 u15 H16 hM e14 h13 => ?_⟩
    replace h_parts_here := rep_ret hW e14 h_parts_here
    replace h9 := rep_ret hW e14 h9
    replace hW := hW.retP e14
    obtain rfl := of_v h13
    refine ⟨_, (by repeat (first | refine gs_ne (by decide) ?_ | exact gs_eq (by simp only [List.length_set, L2.wipe_length]; exact of_decide_eq_true rfl) | rfl)), ?_⟩
    refine ⟨ms, ap, (5 : Int), _, rfl, hW.enterP, hM, fun r17 u20 H21 hM e19 h18 => ?_⟩
    replace h_parts_here := rep_ret hW e19 h_parts_here
    replace h9 := rep_ret hW e19 h9
    replace hW := hW.retP e19
    obtain rfl := of_v h18
    refine ⟨ms, _, x_parts_here, r12, r17, _, rfl, hW.enter0, h_parts_here, hM, fun r22 u25 H26 hM e24 h23 hfr27 => ?_⟩
    obtain ⟨p28, vs29, rfl, np30, hp31, hr32⟩ := rep_tupAt h23
    obtain ⟨a33, b34, x35, rfl, na36, nb37, nab38⟩ := hfr27 p28 vs29 rfl hp31
    obtain ⟨u39, us40, u39_, h41, hr32⟩ := repL_uncons hr32
    cases u39_
    obtain ⟨u44, us45, u44_, h42, hr32⟩ := repL_uncons hr32
    cases u44_
    obtain ⟨u46, us47, u46_, h43, hr32⟩ := repL_uncons hr32
    cases u46_
    obtain rfl := of_v h41
    obtain ⟨a50, vs48, a50_, nn52, hv54, hr56⟩ := rep_lstAt h42
    cases a50_
    obtain ⟨b51, vs49, b51_, nn53, hv55, hr57⟩ := rep_lstAt h43
    cases b51_
    have mu58 := mo_freshA (a := a33) (b := b34) hW na36 hv54 hv55 hr56 (by first | rfl | exact noMs_mapT (fun _ => rfl) _)
    have mu59 := mo_freshB (a := a33) (b := b34) hW nb37 hv54 hv55 hr57 (by first | rfl | exact noMs_mapT (fun _ => rfl) _)
    have h60 := rep_opq (a := a33) (b := b34) np30 hp31 hv54 hv55
    replace h_parts_here := rep_ext e24 (rep_new nb37 (rep_new na36 h_parts_here))
    replace h9 := rep_ext e24 (rep_new nb37 (rep_new na36 h9))
    replace hW := wd_fresh (wd_fresh (hW.ret0 e24) hv54) hv55
    have nm61 := nm_cons (Ne.symm nab38) nn53
    refine ⟨_, _, rfl, ?_⟩
    refine ⟨_, (by repeat (first | refine gs_ne (by decide) ?_ | exact gs_eq (by simp only [List.length_set, L2.wipe_length]; exact of_decide_eq_true rfl) | rfl)), ?_⟩
    apply rep_gtup h60 rfl
    intro vs62 hv63
    obtain ⟨u64, us65, rfl, h66, hv67⟩ := repL_uncons hv63
    obtain rfl := of_v h66
    obtain ⟨u68, us69, rfl, h70, hv71⟩ := repL_uncons hv67
    obtain rfl := of_v h70
    obtain ⟨u72, us73, rfl, h74, hv75⟩ := repL_uncons hv71
    obtain rfl := of_v h74
    obtain rfl := repL_empty hv75
    refine ⟨_, _, rfl, ?_⟩
    refine ⟨_, _, rfl, ?_⟩
    refine ⟨_, _, rfl, ?_⟩
    refine ⟨rfl, ?_⟩
    refine ⟨_, (by repeat (first | refine gs_ne (by decide) ?_ | exact gs_eq (by simp only [List.length_set, L2.wipe_length]; exact of_decide_eq_true rfl) | rfl)), ?_⟩
    refine ⟨rfl, ?_⟩
    refine ⟨_, rfl, ?_⟩
    refine ite3 hM (fun hM => ?_) (fun hM => ?_)
    · skip
      refine ⟨_, (by repeat (first | refine gs_ne (by decide) ?_ | exact gs_eq (by simp only [List.length_set, L2.wipe_length]; exact of_decide_eq_true rfl) | rfl)), ?_⟩
      refine ⟨(by show 0 ≤ sizeLine; decide), ?_⟩
      intro p76 n80
      have e77 := Rx.Ext.new (H := H26) (o := (HO.lst [])) n80
      have hp78 : upd H26 p76 (HO.lst []) p76 = some (HO.lst []) := upd_same
      generalize upd H26 p76 (HO.lst []) = H81 at e77 hp78 ⊢
      have h79 : rep (b34 :: (a33 :: ms)) H81 (D.lst (([] : List Int).map (fun y_ : Int => (D.v (V.int y_))))) (.ref p76) := rep_lst_mk hW n80 e77 hp78 repL_nil
      replace h_parts_here := rep_ext e77 h_parts_here
      replace h9 := rep_ext e77 h9
      replace h60 := rep_ext e77 h60
      replace mu58 := mo_ext e77 mu58
      replace mu59 := mo_ext e77 mu59
      replace hW := hW.ret0 e77
      have hz82 := mo_rep_dr (dr_cons dr_here) (nm_cons nab38 nn52) mu58
      obtain ⟨g83, hM⟩ := hM
      apply rep_neD (d := (D.lst (r22.2.1.map (fun y_ : Int => (D.v (V.int y_)))))) (e := (D.lst (([] : List Int).map (fun y_ : Int => (D.v (V.int y_)))))) hz82 (rep_dr (dr_cons dr_here) h79) g83.1 g83.2.1 g83.2.2.1 g83.2.2.2
      refine ⟨_, rfl, ?_⟩
      refine ite3 hM (fun hM => ?_) (fun hM => ?_)
      · skip
        refine ⟨_, (by repeat (first | refine gs_ne (by decide) ?_ | exact gs_eq (by simp only [List.length_set, L2.wipe_length]; exact of_decide_eq_true rfl) | rfl)), ?_⟩
        refine ⟨_, (by repeat (first | refine gs_ne (by decide) ?_ | exact gs_eq (by simp only [List.length_set, L2.wipe_length]; exact of_decide_eq_true rfl) | rfl)), ?_⟩
        apply mo_len (e := (fun y_ : Int => (D.v (V.int y_)))) (xs := r22.2.1) mu58
        refine ⟨(b34 :: (a33 :: ms)), ap, (r22.2.1.length : Int), _, rfl, hW.enterP, hM, fun r84 u87 H88 hM e86 h85 => ?_⟩
        replace h_parts_here := rep_ret hW e86 h_parts_here
        replace h9 := rep_ret hW e86 h9
        replace h60 := rep_ret hW e86 h60
        replace h79 := rep_ret hW e86 h79
        replace mu58 := mo_ret hW e86 mu58
        replace mu59 := mo_ret hW e86 mu59
        replace hW := hW.retP e86
        obtain rfl := of_v h85
        refine ⟨_, (by repeat (first | refine gs_ne (by decide) ?_ | exact gs_eq (by simp only [List.length_set, L2.wipe_length]; exact of_decide_eq_true rfl) | rfl)), ?_⟩
        refine ⟨_, (by repeat (first | refine gs_ne (by decide) ?_ | exact gs_eq (by simp only [List.length_set, L2.wipe_length]; exact of_decide_eq_true rfl) | rfl)), ?_⟩
        obtain ⟨y89, h90, hM⟩ := hM
        apply mo_ixN (e := (fun y_ : Int => (D.v (V.int y_)))) (xs := r22.2.1) (y := y89) mu58 h90
        intro u92 h91
        obtain rfl := of_v h91
        refine ⟨_, (by repeat (first | refine gs_ne (by decide) ?_ | exact gs_eq (by simp only [List.length_set, L2.wipe_length]; exact of_decide_eq_true rfl) | rfl)), ?_⟩
        refine ⟨_, rfl, ?_⟩
        refine ⟨_, _, rfl, rfl, ⟨by decide, by decide, by decide⟩, ?_⟩
        refine ⟨(by show 3 ≤ sizeLine; decide), ?_⟩
        intro p93 n97
        have e94 := Rx.Ext.new (H := H88) (o := (HO.lst [V.int (1 : Int), V.int (-(1 : Int)), V.int ((10 : Int) ^ Int.toNat (20 : Int))])) n97
        have hp95 : upd H88 p93 (HO.lst [V.int (1 : Int), V.int (-(1 : Int)), V.int ((10 : Int) ^ Int.toNat (20 : Int))]) p93 = some (HO.lst [V.int (1 : Int), V.int (-(1 : Int)), V.int ((10 : Int) ^ Int.toNat (20 : Int))]) := upd_same
        generalize upd H88 p93 (HO.lst [V.int (1 : Int), V.int (-(1 : Int)), V.int ((10 : Int) ^ Int.toNat (20 : Int))]) = H98 at e94 hp95 ⊢
        have h96 : rep (b34 :: (a33 :: ms)) H98 (D.lst (([(1 : Int), (-(1 : Int)), ((10 : Int) ^ Int.toNat (20 : Int))] : List Int).map (fun y_ : Int => (D.v (V.int y_))))) (.ref p93) := rep_lst_mk hW n97 e94 hp95 (repL_cons rep_v (repL_cons rep_v (repL_cons rep_v repL_nil)))
        replace h_parts_here := rep_ext e94 h_parts_here
        replace h9 := rep_ext e94 h9
        replace h60 := rep_ext e94 h60
        replace h79 := rep_ext e94 h79
        replace mu58 := mo_ext e94 mu58
        replace mu59 := mo_ext e94 mu59
        replace hW := hW.ret0 e94
        refine ⟨(b34 :: (a33 :: ms)), ap, _, ([(1 : Int), (-(1 : Int)), ((10 : Int) ^ Int.toNat (20 : Int))] : List Int), _, rfl, hW.enterP, h96, hM, fun r99 u102 H103 hM e101 h100 => ?_⟩
        replace h_parts_here := rep_ret hW e101 h_parts_here
        replace h9 := rep_ret hW e101 h9
        replace h60 := rep_ret hW e101 h60
        replace h79 := rep_ret hW e101 h79
        replace h96 := rep_ret hW e101 h96
        replace mu58 := mo_ret hW e101 mu58
        replace mu59 := mo_ret hW e101 mu59
        replace hW := hW.retP e101
        obtain rfl := of_v h100
        refine ⟨_, _, rfl, rfl, ?_⟩
        refine ⟨_, (by repeat (first | refine gs_ne (by decide) ?_ | exact gs_eq (by simp only [List.length_set, L2.wipe_length]; exact of_decide_eq_true rfl) | rfl)), ?_⟩
        refine ⟨_, (by repeat (first | refine gs_ne (by decide) ?_ | exact gs_eq (by simp only [List.length_set, L2.wipe_length]; exact of_decide_eq_true rfl) | rfl)), ?_⟩
        obtain ⟨g104, g105, hM⟩ := hM
        apply mo_setU (e := (fun y_ : Int => (D.v (V.int y_)))) (xs := r22.2.1) mu58 g104 g105
        intro vs106 hr107
        have mk108 := mo_setL mu58 (repL_set (e := (fun y_ : Int => (D.v (V.int y_)))) (y := (y89 + r99)) (Int.toNat r84) hr107 rep_v)
        replace mu59 := mo_put (o := .lst (vs106.set (Int.toNat r84) (V.int (y89 + r99)))) mu58.im (Ne.symm nab38) mu59
        replace h_parts_here := rep_put (o := .lst (vs106.set (Int.toNat r84) (V.int (y89 + r99)))) mu58.im h_parts_here
        replace h9 := rep_put (o := .lst (vs106.set (Int.toNat r84) (V.int (y89 + r99)))) mu58.im h9
        replace h60 := rep_put (o := .lst (vs106.set (Int.toNat r84) (V.int (y89 + r99)))) mu58.im h60
        replace h79 := rep_put (o := .lst (vs106.set (Int.toNat r84) (V.int (y89 + r99)))) mu58.im h79
        replace h96 := rep_put (o := .lst (vs106.set (Int.toNat r84) (V.int (y89 + r99)))) mu58.im h96
        replace hW := wd_put (o := .lst (vs106.set (Int.toNat r84) (V.int (y89 + r99)))) hW mu58
        replace mu58 := mk108
        generalize upd H103 a33 (.lst (vs106.set (Int.toNat r84) (V.int (y89 + r99)))) = H109 at *
        replace mu58 : MutO (b34 :: (a33 :: ms)) [ap] H_0 H109 a33 (D.lst ((r22.2.1.set (Int.toNat r84) (y89 + r99)).map (fun y_ : Int => (D.v (V.int y_))))) := mu58
        clear mk108
        refine ⟨_, (by repeat (first | refine gs_ne (by decide) ?_ | exact gs_eq (by simp only [List.length_set, L2.wipe_length]; exact of_decide_eq_true rfl) | rfl)), ?_⟩
        refine ⟨_, (by repeat (first | refine gs_ne (by decide) ?_ | exact gs_eq (by simp only [List.length_set, L2.wipe_length]; exact of_decide_eq_true rfl) | rfl)), ?_⟩
        refine ⟨_, (by repeat (first | refine gs_ne (by decide) ?_ | exact gs_eq (by simp only [List.length_set, L2.wipe_length]; exact of_decide_eq_true rfl) | rfl)), ?_⟩
        have h110 := mo_rep_dr (dr_cons dr_here) (nm_cons nab38 nn52) mu58
        replace hW := wd_dr (dr_cons dr_here) mu58.hp hW
        replace h_parts_here := rep_dr (dr_cons dr_here) h_parts_here
        replace h9 := rep_dr (dr_cons dr_here) h9
        replace h60 := rep_dr (dr_cons dr_here) h60
        replace h79 := rep_dr (dr_cons dr_here) h79
        replace h96 := rep_dr (dr_cons dr_here) h96
        replace mu59 := mo_dr (dr_cons dr_here) (Ne.symm nab38) mu59
        replace nm61 := nm_dr dr_here nm61
        clear mu58
        have h111 := mo_rep_dr dr_here nm61 mu59
        replace hW := wd_dr dr_here mu59.hp hW
        replace h_parts_here := rep_dr dr_here h_parts_here
        replace h9 := rep_dr dr_here h9
        replace h60 := rep_dr dr_here h60
        replace h79 := rep_dr dr_here h79
        replace h96 := rep_dr dr_here h96
        replace h110 := rep_dr dr_here h110
        clear mu59
        refine ⟨(by show 3 ≤ sizeLine; decide), ?_⟩
        intro p112 n116
        have e113 := Rx.Ext.new (H := H109) (o := (HO.tup [V.int r22.1, (V.ref a33), (V.ref b34)])) n116
        have hp114 : upd H109 p112 (HO.tup [V.int r22.1, (V.ref a33), (V.ref b34)]) p112 = some (HO.tup [V.int r22.1, (V.ref a33), (V.ref b34)]) := upd_same
        generalize upd H109 p112 (HO.tup [V.int r22.1, (V.ref a33), (V.ref b34)]) = H117 at e113 hp114 ⊢
        have h115 : rep ms H117 (D.tup [(D.v (V.int r22.1)), (D.lst ((r22.2.1.set (Int.toNat r84) (y89 + r99)).map (fun y_ : Int => (D.v (V.int y_))))), (D.lst (r22.2.2.map (fun y_ : (Int × Int × Int) => (D.tup [(D.v (V.int y_.1)), (D.v (V.int y_.2.1)), (D.v (V.int y_.2.2))]))))]) (.ref p112) := rep_tup_mk hW n116 e113 hp114 (repL_cons rep_v (repL_cons h110 (repL_cons h111 repL_nil)))
        replace h_parts_here := rep_ext e113 h_parts_here
        replace h9 := rep_ext e113 h9
        replace h60 := rep_ext e113 h60
        replace h79 := rep_ext e113 h79
        replace h96 := rep_ext e113 h96
        replace h110 := rep_ext e113 h110
        replace h111 := rep_ext e113 h111
        replace hW := hW.ret0 e113
        refine ⟨_, (by repeat (first | refine gs_ne (by decide) ?_ | exact gs_eq (by simp only [List.length_set, L2.wipe_length]; exact of_decide_eq_true rfl) | rfl)), ?_⟩
        refine ⟨_, (by repeat (first | refine gs_ne (by decide) ?_ | exact gs_eq (by simp only [List.length_set, L2.wipe_length]; exact of_decide_eq_true rfl) | rfl)), ?_⟩
        apply rep_lenL (e := (fun y_ : Int => (D.v (V.int y_)))) (xs := (r22.2.1.set (Int.toNat r84) (y89 + r99))) h110
        refine ⟨_, _, rfl, rfl, ?_⟩
        refine ⟨ms, ap, (((r22.2.1.set (Int.toNat r84) (y89 + r99)).length : Int) + (3 : Int)), _, rfl, hW.enterP, hM, fun r118 u121 H122 hM e120 h119 => ?_⟩
        replace h_parts_here := rep_ret hW e120 h_parts_here
        replace h9 := rep_ret hW e120 h9
        replace h60 := rep_ret hW e120 h60
        replace h79 := rep_ret hW e120 h79
        replace h96 := rep_ret hW e120 h96
        replace h110 := rep_ret hW e120 h110
        replace h111 := rep_ret hW e120 h111
        replace h115 := rep_ret hW e120 h115
        replace hW := hW.retP e120
        obtain rfl := of_v h119
        refine ⟨ms, _, (r22.1, (r22.2.1.set (Int.toNat r84) (y89 + r99)), r22.2.2), r118, _, rfl, hW.enter0, h115, hM, fun r123 u126 H127 hM e125 h124 => ?_⟩
        replace h_parts_here := rep_ext e125 h_parts_here
        replace h9 := rep_ext e125 h9
        replace h60 := rep_ext e125 h60
        replace h79 := rep_ext e125 h79
        replace h96 := rep_ext e125 h96
        replace h110 := rep_ext e125 h110
        replace h111 := rep_ext e125 h111
        replace h115 := rep_ext e125 h115
        replace hW := hW.ret0 e125
        exact hQ r123 _ _ hM hW.out h124
      · skip
        have h128 := mo_rep_dr (dr_cons dr_here) (nm_cons nab38 nn52) mu58
        replace hW := wd_dr (dr_cons dr_here) mu58.hp hW
        replace h_parts_here := rep_dr (dr_cons dr_here) h_parts_here
        replace h9 := rep_dr (dr_cons dr_here) h9
        replace h60 := rep_dr (dr_cons dr_here) h60
        replace h79 := rep_dr (dr_cons dr_here) h79
        replace mu59 := mo_dr (dr_cons dr_here) (Ne.symm nab38) mu59
        replace nm61 := nm_dr dr_here nm61
        clear mu58
        refine ⟨_, (by repeat (first | refine gs_ne (by decide) ?_ | exact gs_eq (by simp only [List.length_set, L2.wipe_length]; exact of_decide_eq_true rfl) | rfl)), ?_⟩
        refine ⟨rfl, ?_⟩
        refine ⟨_, rfl, ?_⟩
        refine ite3 hM (fun hM => ?_) (fun hM => ?_)
        · skip
          refine ⟨_, (by repeat (first | refine gs_ne (by decide) ?_ | exact gs_eq (by simp only [List.length_set, L2.wipe_length]; exact of_decide_eq_true rfl) | rfl)), ?_⟩
          refine ⟨_, (by repeat (first | refine gs_ne (by decide) ?_ | exact gs_eq (by simp only [List.length_set, L2.wipe_length]; exact of_decide_eq_true rfl) | rfl)), ?_⟩
          apply mo_len (e := (fun y_ : (Int × Int × Int) => (D.tup [(D.v (V.int y_.1)), (D.v (V.int y_.2.1)), (D.v (V.int y_.2.2))]))) (xs := r22.2.2) mu59
          refine ⟨(b34 :: ms), ap, (r22.2.2.length : Int), _, rfl, hW.enterP, hM, fun r129 u132 H133 hM e131 h130 => ?_⟩
          replace h_parts_here := rep_ret hW e131 h_parts_here
          replace h9 := rep_ret hW e131 h9
          replace h60 := rep_ret hW e131 h60
          replace h79 := rep_ret hW e131 h79
          replace h128 := rep_ret hW e131 h128
          replace mu59 := mo_ret hW e131 mu59
          replace hW := hW.retP e131
          obtain rfl := of_v h130
          refine ⟨_, (by repeat (first | refine gs_ne (by decide) ?_ | exact gs_eq (by simp only [List.length_set, L2.wipe_length]; exact of_decide_eq_true rfl) | rfl)), ?_⟩
          refine ⟨_, (by repeat (first | refine gs_ne (by decide) ?_ | exact gs_eq (by simp only [List.length_set, L2.wipe_length]; exact of_decide_eq_true rfl) | rfl)), ?_⟩
          apply mo_len (e := (fun y_ : (Int × Int × Int) => (D.tup [(D.v (V.int y_.1)), (D.v (V.int y_.2.1)), (D.v (V.int y_.2.2))]))) (xs := r22.2.2) mu59
          obtain ⟨g134, hM⟩ := hM
          refine ⟨_, _, rfl, rfl, g134, ?_⟩
          refine ⟨_, (by repeat (first | refine gs_ne (by decide) ?_ | exact gs_eq (by simp only [List.length_set, L2.wipe_length]; exact of_decide_eq_true rfl) | rfl)), ?_⟩
          refine ⟨(b34 :: ms), ap, (4 : Int), _, rfl, hW.enterP, hM, fun r135 u138 H139 hM e137 h136 => ?_⟩
          replace h_parts_here := rep_ret hW e137 h_parts_here
          replace h9 := rep_ret hW e137 h9
          replace h60 := rep_ret hW e137 h60
          replace h79 := rep_ret hW e137 h79
          replace h128 := rep_ret hW e137 h128
          replace mu59 := mo_ret hW e137 mu59
          replace hW := hW.retP e137
          obtain rfl := of_v h136
          refine ⟨_, _, rfl, rfl, ?_⟩
          refine ⟨_, _, rfl, ?_⟩
          refine ⟨_, (by repeat (first | refine gs_ne (by decide) ?_ | exact gs_eq (by simp only [List.length_set, L2.wipe_length]; exact of_decide_eq_true rfl) | rfl)), ?_⟩
          refine ⟨_, (by repeat (first | refine gs_ne (by decide) ?_ | exact gs_eq (by simp only [List.length_set, L2.wipe_length]; exact of_decide_eq_true rfl) | rfl)), ?_⟩
          obtain ⟨y140, h141, hM⟩ := hM
          apply mo_ixN (e := (fun y_ : (Int × Int × Int) => (D.tup [(D.v (V.int y_.1)), (D.v (V.int y_.2.1)), (D.v (V.int y_.2.2))]))) (xs := r22.2.2) (y := y140) mu59 h141
          intro u143 h142
          apply rep_gtup h142 rfl
          intro vs144 hv145
          obtain ⟨u146, us147, rfl, h148, hv149⟩ := repL_uncons hv145
          obtain rfl := of_v h148
          obtain ⟨u150, us151, rfl, h152, hv153⟩ := repL_uncons hv149
          obtain rfl := of_v h152
          obtain ⟨u154, us155, rfl, h156, hv157⟩ := repL_uncons hv153
          obtain rfl := of_v h156
          obtain rfl := repL_empty hv157
          refine ⟨_, _, rfl, ?_⟩
          refine ⟨_, _, rfl, ?_⟩
          refine ⟨_, _, rfl, ?_⟩
          refine ⟨rfl, ?_⟩
          refine ⟨_, (by repeat (first | refine gs_ne (by decide) ?_ | exact gs_eq (by simp only [List.length_set, L2.wipe_length]; exact of_decide_eq_true rfl) | rfl)), ?_⟩
          refine ⟨_, _, rfl, rfl, ?_⟩
          refine ⟨_, (by repeat (first | refine gs_ne (by decide) ?_ | exact gs_eq (by simp only [List.length_set, L2.wipe_length]; exact of_decide_eq_true rfl) | rfl)), ?_⟩
          refine ⟨(b34 :: ms), ap, (2 : Int), _, rfl, hW.enterP, hM, fun r158 u161 H162 hM e160 h159 => ?_⟩
          replace h_parts_here := rep_ret hW e160 h_parts_here
          replace h9 := rep_ret hW e160 h9
          replace h60 := rep_ret hW e160 h60
          replace h79 := rep_ret hW e160 h79
          replace h128 := rep_ret hW e160 h128
          replace h142 := rep_ret hW e160 h142
          replace mu59 := mo_ret hW e160 mu59
          replace hW := hW.retP e160
          obtain rfl := of_v h159
          refine ⟨_, _, rfl, rfl, ?_⟩
          refine ⟨_, (by repeat (first | refine gs_ne (by decide) ?_ | exact gs_eq (by simp only [List.length_set, L2.wipe_length]; exact of_decide_eq_true rfl) | rfl)), ?_⟩
          refine ⟨_, (by repeat (first | refine gs_ne (by decide) ?_ | exact gs_eq (by simp only [List.length_set, L2.wipe_length]; exact of_decide_eq_true rfl) | rfl)), ?_⟩
          refine ⟨_, _, rfl, rfl, ?_⟩
          refine ⟨_, (by repeat (first | refine gs_ne (by decide) ?_ | exact gs_eq (by simp only [List.length_set, L2.wipe_length]; exact of_decide_eq_true rfl) | rfl)), ?_⟩
          refine ⟨_, (by repeat (first | refine gs_ne (by decide) ?_ | exact gs_eq (by simp only [List.length_set, L2.wipe_length]; exact of_decide_eq_true rfl) | rfl)), ?_⟩
          refine ⟨_, _, rfl, rfl, ?_⟩
          refine ⟨(by show 3 ≤ sizeLine; decide), ?_⟩
          intro p163 n167
          have e164 := Rx.Ext.new (H := H162) (o := (HO.tup [V.int y140.1, V.int (y140.2.1 + (1 : Int)), V.int (y140.2.2 - ((r22.1 / (r22.2.2.length : Int)) + r135))])) n167
          have hp165 : upd H162 p163 (HO.tup [V.int y140.1, V.int (y140.2.1 + (1 : Int)), V.int (y140.2.2 - ((r22.1 / (r22.2.2.length : Int)) + r135))]) p163 = some (HO.tup [V.int y140.1, V.int (y140.2.1 + (1 : Int)), V.int (y140.2.2 - ((r22.1 / (r22.2.2.length : Int)) + r135))]) := upd_same
          generalize upd H162 p163 (HO.tup [V.int y140.1, V.int (y140.2.1 + (1 : Int)), V.int (y140.2.2 - ((r22.1 / (r22.2.2.length : Int)) + r135))]) = H168 at e164 hp165 ⊢
          have h166 : rep (b34 :: ms) H168 (D.tup [(D.v (V.int y140.1)), (D.v (V.int (y140.2.1 + (1 : Int)))), (D.v (V.int (y140.2.2 - ((r22.1 / (r22.2.2.length : Int)) + r135))))]) (.ref p163) := rep_tup_mk hW n167 e164 hp165 (repL_cons rep_v (repL_cons rep_v (repL_cons rep_v repL_nil)))
          replace h_parts_here := rep_ext e164 h_parts_here
          replace h9 := rep_ext e164 h9
          replace h60 := rep_ext e164 h60
          replace h79 := rep_ext e164 h79
          replace h128 := rep_ext e164 h128
          replace h142 := rep_ext e164 h142
          replace mu59 := mo_ext e164 mu59
          replace hW := hW.ret0 e164
          refine ⟨_, (by repeat (first | refine gs_ne (by decide) ?_ | exact gs_eq (by simp only [List.length_set, L2.wipe_length]; exact of_decide_eq_true rfl) | rfl)), ?_⟩
          refine ⟨_, _, rfl, rfl, ?_⟩
          refine ⟨_, (by repeat (first | refine gs_ne (by decide) ?_ | exact gs_eq (by simp only [List.length_set, L2.wipe_length]; exact of_decide_eq_true rfl) | rfl)), ?_⟩
          refine ⟨_, (by repeat (first | refine gs_ne (by decide) ?_ | exact gs_eq (by simp only [List.length_set, L2.wipe_length]; exact of_decide_eq_true rfl) | rfl)), ?_⟩
          refine ⟨_, _, rfl, rfl, ?_⟩
          refine ⟨_, (by repeat (first | refine gs_ne (by decide) ?_ | exact gs_eq (by simp only [List.length_set, L2.wipe_length]; exact of_decide_eq_true rfl) | rfl)), ?_⟩
          refine ⟨_, _, rfl, rfl, ?_⟩
          refine ⟨_, (by repeat (first | refine gs_ne (by decide) ?_ | exact gs_eq (by simp only [List.length_set, L2.wipe_length]; exact of_decide_eq_true rfl) | rfl)), ?_⟩
          refine ⟨_, (by repeat (first | refine gs_ne (by decide) ?_ | exact gs_eq (by simp only [List.length_set, L2.wipe_length]; exact of_decide_eq_true rfl) | rfl)), ?_⟩
          refine ⟨_, (by repeat (first | refine gs_ne (by decide) ?_ | exact gs_eq (by simp only [List.length_set, L2.wipe_length]; exact of_decide_eq_true rfl) | rfl)), ?_⟩
          obtain ⟨g169, hM⟩ := hM
          refine ⟨_, _, rfl, rfl, g169, ?_⟩
          refine ⟨_, _, rfl, rfl, ?_⟩
          refine ⟨(by show 3 ≤ sizeLine; decide), ?_⟩
          intro p170 n174
          have e171 := Rx.Ext.new (H := H168) (o := (HO.tup [V.int (y140.1 + (1 : Int)), V.int ((y140.2.1 - ((r22.1 / (r22.2.2.length : Int)) + r135)) - ((((r22.1 / (r22.2.2.length : Int)) + r135) + (1 : Int)) + r158)), V.int (y140.2.2 + (((r22.1 / (r22.2.2.length : Int)) + r135) * ((((r22.1 / (r22.2.2.length : Int)) + r135) + (1 : Int)) + r158)))])) n174
          have hp172 : upd H168 p170 (HO.tup [V.int (y140.1 + (1 : Int)), V.int ((y140.2.1 - ((r22.1 / (r22.2.2.length : Int)) + r135)) - ((((r22.1 / (r22.2.2.length : Int)) + r135) + (1 : Int)) + r158)), V.int (y140.2.2 + (((r22.1 / (r22.2.2.length : Int)) + r135) * ((((r22.1 / (r22.2.2.length : Int)) + r135) + (1 : Int)) + r158)))]) p170 = some (HO.tup [V.int (y140.1 + (1 : Int)), V.int ((y140.2.1 - ((r22.1 / (r22.2.2.length : Int)) + r135)) - ((((r22.1 / (r22.2.2.length : Int)) + r135) + (1 : Int)) + r158)), V.int (y140.2.2 + (((r22.1 / (r22.2.2.length : Int)) + r135) * ((((r22.1 / (r22.2.2.length : Int)) + r135) + (1 : Int)) + r158)))]) := upd_same
          generalize upd H168 p170 (HO.tup [V.int (y140.1 + (1 : Int)), V.int ((y140.2.1 - ((r22.1 / (r22.2.2.length : Int)) + r135)) - ((((r22.1 / (r22.2.2.length : Int)) + r135) + (1 : Int)) + r158)), V.int (y140.2.2 + (((r22.1 / (r22.2.2.length : Int)) + r135) * ((((r22.1 / (r22.2.2.length : Int)) + r135) + (1 : Int)) + r158)))]) = H175 at e171 hp172 ⊢
          have h173 : rep (b34 :: ms) H175 (D.tup [(D.v (V.int (y140.1 + (1 : Int)))), (D.v (V.int ((y140.2.1 - ((r22.1 / (r22.2.2.length : Int)) + r135)) - ((((r22.1 / (r22.2.2.length : Int)) + r135) + (1 : Int)) + r158)))), (D.v (V.int (y140.2.2 + (((r22.1 / (r22.2.2.length : Int)) + r135) * ((((r22.1 / (r22.2.2.length : Int)) + r135) + (1 : Int)) + r158)))))]) (.ref p170) := rep_tup_mk hW n174 e171 hp172 (repL_cons rep_v (repL_cons rep_v (repL_cons rep_v repL_nil)))
          replace h_parts_here := rep_ext e171 h_parts_here
          replace h9 := rep_ext e171 h9
          replace h60 := rep_ext e171 h60
          replace h79 := rep_ext e171 h79
          replace h128 := rep_ext e171 h128
          replace h142 := rep_ext e171 h142
          replace h166 := rep_ext e171 h166
          replace mu59 := mo_ext e171 mu59
          replace hW := hW.ret0 e171
          refine ⟨_, (by repeat (first | refine gs_ne (by decide) ?_ | exact gs_eq (by simp only [List.length_set, L2.wipe_length]; exact of_decide_eq_true rfl) | rfl)), ?_⟩
          refine ⟨_, (by repeat (first | refine gs_ne (by decide) ?_ | exact gs_eq (by simp only [List.length_set, L2.wipe_length]; exact of_decide_eq_true rfl) | rfl)), ?_⟩
          refine ⟨_, (by repeat (first | refine gs_ne (by decide) ?_ | exact gs_eq (by simp only [List.length_set, L2.wipe_length]; exact of_decide_eq_true rfl) | rfl)), ?_⟩
          refine ⟨_, _, rfl, rfl, ?_⟩
          refine ⟨(by show 3 ≤ sizeLine; decide), ?_⟩
          intro p176 n180
          have e177 := Rx.Ext.new (H := H175) (o := (HO.tup [V.int y140.1, V.int y140.2.1, V.int (y140.2.2 + (1 : Int))])) n180
          have hp178 : upd H175 p176 (HO.tup [V.int y140.1, V.int y140.2.1, V.int (y140.2.2 + (1 : Int))]) p176 = some (HO.tup [V.int y140.1, V.int y140.2.1, V.int (y140.2.2 + (1 : Int))]) := upd_same
          generalize upd H175 p176 (HO.tup [V.int y140.1, V.int y140.2.1, V.int (y140.2.2 + (1 : Int))]) = H181 at e177 hp178 ⊢
          have h179 : rep (b34 :: ms) H181 (D.tup [(D.v (V.int y140.1)), (D.v (V.int y140.2.1)), (D.v (V.int (y140.2.2 + (1 : Int))))]) (.ref p176) := rep_tup_mk hW n180 e177 hp178 (repL_cons rep_v (repL_cons rep_v (repL_cons rep_v repL_nil)))
          replace h_parts_here := rep_ext e177 h_parts_here
          replace h9 := rep_ext e177 h9
          replace h60 := rep_ext e177 h60
          replace h79 := rep_ext e177 h79
          replace h128 := rep_ext e177 h128
          replace h142 := rep_ext e177 h142
          replace h166 := rep_ext e177 h166
          replace h173 := rep_ext e177 h173
          replace mu59 := mo_ext e177 mu59
          replace hW := hW.ret0 e177
          refine ⟨(by show 3 ≤ sizeLine; decide), ?_⟩
          intro p182 n186
          have e183 := Rx.Ext.new (H := H181) (o := (HO.lst [(V.ref p163), (V.ref p170), (V.ref p176)])) n186
          have hp184 : upd H181 p182 (HO.lst [(V.ref p163), (V.ref p170), (V.ref p176)]) p182 = some (HO.lst [(V.ref p163), (V.ref p170), (V.ref p176)]) := upd_same
          generalize upd H181 p182 (HO.lst [(V.ref p163), (V.ref p170), (V.ref p176)]) = H187 at e183 hp184 ⊢
          have h185 : rep (b34 :: ms) H187 (D.lst (([(y140.1, (y140.2.1 + (1 : Int)), (y140.2.2 - ((r22.1 / (r22.2.2.length : Int)) + r135))), ((y140.1 + (1 : Int)), ((y140.2.1 - ((r22.1 / (r22.2.2.length : Int)) + r135)) - ((((r22.1 / (r22.2.2.length : Int)) + r135) + (1 : Int)) + r158)), (y140.2.2 + (((r22.1 / (r22.2.2.length : Int)) + r135) * ((((r22.1 / (r22.2.2.length : Int)) + r135) + (1 : Int)) + r158)))), (y140.1, y140.2.1, (y140.2.2 + (1 : Int)))] : List (Int × Int × Int)).map (fun y_ : (Int × Int × Int) => (D.tup [(D.v (V.int y_.1)), (D.v (V.int y_.2.1)), (D.v (V.int y_.2.2))])))) (.ref p182) := rep_lst_mk hW n186 e183 hp184 (repL_cons h166 (repL_cons h173 (repL_cons h179 repL_nil)))
          replace h_parts_here := rep_ext e183 h_parts_here
          replace h9 := rep_ext e183 h9
          replace h60 := rep_ext e183 h60
          replace h79 := rep_ext e183 h79
          replace h128 := rep_ext e183 h128
          replace h142 := rep_ext e183 h142
          replace h166 := rep_ext e183 h166
          replace h173 := rep_ext e183 h173
          replace h179 := rep_ext e183 h179
          replace mu59 := mo_ext e183 mu59
          replace hW := hW.ret0 e183
          refine ⟨_, (by repeat (first | refine gs_ne (by decide) ?_ | exact gs_eq (by simp only [List.length_set, L2.wipe_length]; exact of_decide_eq_true rfl) | rfl)), ?_⟩
          refine ⟨_, (by repeat (first | refine gs_ne (by decide) ?_ | exact gs_eq (by simp only [List.length_set, L2.wipe_length]; exact of_decide_eq_true rfl) | rfl)), ?_⟩
          refine ⟨(b34 :: ms), ap, _, ([(y140.1, (y140.2.1 + (1 : Int)), (y140.2.2 - ((r22.1 / (r22.2.2.length : Int)) + r135))), ((y140.1 + (1 : Int)), ((y140.2.1 - ((r22.1 / (r22.2.2.length : Int)) + r135)) - ((((r22.1 / (r22.2.2.length : Int)) + r135) + (1 : Int)) + r158)), (y140.2.2 + (((r22.1 / (r22.2.2.length : Int)) + r135) * ((((r22.1 / (r22.2.2.length : Int)) + r135) + (1 : Int)) + r158)))), (y140.1, y140.2.1, (y140.2.2 + (1 : Int)))] : List (Int × Int × Int)), _, rfl, hW.enterP, h185, hM, fun r188 u191 H192 hM e190 h189 => ?_⟩
          replace h_parts_here := rep_ret hW e190 h_parts_here
          replace h9 := rep_ret hW e190 h9
          replace h60 := rep_ret hW e190 h60
          replace h79 := rep_ret hW e190 h79
          replace h128 := rep_ret hW e190 h128
          replace h142 := rep_ret hW e190 h142
          replace h166 := rep_ret hW e190 h166
          replace h173 := rep_ret hW e190 h173
          replace h179 := rep_ret hW e190 h179
          replace h185 := rep_ret hW e190 h185
          replace mu59 := mo_ret hW e190 mu59
          replace hW := hW.retP e190
          refine ⟨_, (by repeat (first | refine gs_ne (by decide) ?_ | exact gs_eq (by simp only [List.length_set, L2.wipe_length]; exact of_decide_eq_true rfl) | rfl)), ?_⟩
          refine ⟨_, (by repeat (first | refine gs_ne (by decide) ?_ | exact gs_eq (by simp only [List.length_set, L2.wipe_length]; exact of_decide_eq_true rfl) | rfl)), ?_⟩
          obtain ⟨g193, g194, hM⟩ := hM
          apply mo_setU (e := (fun y_ : (Int × Int × Int) => (D.tup [(D.v (V.int y_.1)), (D.v (V.int y_.2.1)), (D.v (V.int y_.2.2))]))) (xs := r22.2.2) mu59 g193 g194
          intro vs195 hr196
          have mk197 := mo_setL mu59 (repL_set (e := (fun y_ : (Int × Int × Int) => (D.tup [(D.v (V.int y_.1)), (D.v (V.int y_.2.1)), (D.v (V.int y_.2.2))]))) (y := r188) (Int.toNat r129) hr196 h189)
          replace h_parts_here := rep_put (o := .lst (vs195.set (Int.toNat r129) (u191))) mu59.im h_parts_here
          replace h9 := rep_put (o := .lst (vs195.set (Int.toNat r129) (u191))) mu59.im h9
          replace h60 := rep_put (o := .lst (vs195.set (Int.toNat r129) (u191))) mu59.im h60
          replace h79 := rep_put (o := .lst (vs195.set (Int.toNat r129) (u191))) mu59.im h79
          replace h128 := rep_put (o := .lst (vs195.set (Int.toNat r129) (u191))) mu59.im h128
          replace h142 := rep_put (o := .lst (vs195.set (Int.toNat r129) (u191))) mu59.im h142
          replace h166 := rep_put (o := .lst (vs195.set (Int.toNat r129) (u191))) mu59.im h166
          replace h173 := rep_put (o := .lst (vs195.set (Int.toNat r129) (u191))) mu59.im h173
          replace h179 := rep_put (o := .lst (vs195.set (Int.toNat r129) (u191))) mu59.im h179
          replace h185 := rep_put (o := .lst (vs195.set (Int.toNat r129) (u191))) mu59.im h185
          replace h189 := rep_put (o := .lst (vs195.set (Int.toNat r129) (u191))) mu59.im h189
          replace hW := wd_put (o := .lst (vs195.set (Int.toNat r129) (u191))) hW mu59
          replace mu59 := mk197
          generalize upd H192 b34 (.lst (vs195.set (Int.toNat r129) (u191))) = H198 at *
          replace mu59 : MutO (b34 :: ms) [ap] H_0 H198 b34 (D.lst ((r22.2.2.set (Int.toNat r129) r188).map (fun y_ : (Int × Int × Int) => (D.tup [(D.v (V.int y_.1)), (D.v (V.int y_.2.1)), (D.v (V.int y_.2.2))])))) := mu59
          clear mk197
          refine ⟨_, (by repeat (first | refine gs_ne (by decide) ?_ | exact gs_eq (by simp only [List.length_set, L2.wipe_length]; exact of_decide_eq_true rfl) | rfl)), ?_⟩
          refine ⟨_, (by repeat (first | refine gs_ne (by decide) ?_ | exact gs_eq (by simp only [List.length_set, L2.wipe_length]; exact of_decide_eq_true rfl) | rfl)), ?_⟩
          refine ⟨_, (by repeat (first | refine gs_ne (by decide) ?_ | exact gs_eq (by simp only [List.length_set, L2.wipe_length]; exact of_decide_eq_true rfl) | rfl)), ?_⟩
          have h199 := mo_rep_dr dr_here nm61 mu59
          replace hW := wd_dr dr_here mu59.hp hW
          replace h_parts_here := rep_dr dr_here h_parts_here
          replace h9 := rep_dr dr_here h9
          replace h60 := rep_dr dr_here h60
          replace h79 := rep_dr dr_here h79
          replace h128 := rep_dr dr_here h128
          replace h142 := rep_dr dr_here h142
          replace h166 := rep_dr dr_here h166
          replace h173 := rep_dr dr_here h173
          replace h179 := rep_dr dr_here h179
          replace h185 := rep_dr dr_here h185
          replace h189 := rep_dr dr_here h189
          clear mu59
          refine ⟨(by show 3 ≤ sizeLine; decide), ?_⟩
          intro p200 n204
          have e201 := Rx.Ext.new (H := H198) (o := (HO.tup [V.int r22.1, (V.ref a33), (V.ref b34)])) n204
          have hp202 : upd H198 p200 (HO.tup [V.int r22.1, (V.ref a33), (V.ref b34)]) p200 = some (HO.tup [V.int r22.1, (V.ref a33), (V.ref b34)]) := upd_same
          generalize upd H198 p200 (HO.tup [V.int r22.1, (V.ref a33), (V.ref b34)]) = H205 at e201 hp202 ⊢
          have h203 : rep ms H205 (D.tup [(D.v (V.int r22.1)), (D.lst (r22.2.1.map (fun y_ : Int => (D.v (V.int y_))))), (D.lst ((r22.2.2.set (Int.toNat r129) r188).map (fun y_ : (Int × Int × Int) => (D.tup [(D.v (V.int y_.1)), (D.v (V.int y_.2.1)), (D.v (V.int y_.2.2))]))))]) (.ref p200) := rep_tup_mk hW n204 e201 hp202 (repL_cons rep_v (repL_cons h128 (repL_cons h199 repL_nil)))
          replace h_parts_here := rep_ext e201 h_parts_here
          replace h9 := rep_ext e201 h9
          replace h60 := rep_ext e201 h60
          replace h79 := rep_ext e201 h79
          replace h128 := rep_ext e201 h128
          replace h142 := rep_ext e201 h142
          replace h166 := rep_ext e201 h166
          replace h173 := rep_ext e201 h173
          replace h179 := rep_ext e201 h179
          replace h185 := rep_ext e201 h185
          replace h189 := rep_ext e201 h189
          replace h199 := rep_ext e201 h199
          replace hW := hW.ret0 e201
          exact hQ (r22.1, r22.2.1, (r22.2.2.set (Int.toNat r129) r188)) _ _ hM hW.out h203
        · skip
          have h206 := mo_rep_dr dr_here nm61 mu59
          replace hW := wd_dr dr_here mu59.hp hW
          replace h_parts_here := rep_dr dr_here h_parts_here
          replace h9 := rep_dr dr_here h9
          replace h60 := rep_dr dr_here h60
          replace h79 := rep_dr dr_here h79
          replace h128 := rep_dr dr_here h128
          clear mu59
          refine ⟨_, (by repeat (first | refine gs_ne (by decide) ?_ | exact gs_eq (by simp only [List.length_set, L2.wipe_length]; exact of_decide_eq_true rfl) | rfl)), ?_⟩
          refine ⟨rfl, ?_⟩
          refine ⟨_, rfl, ?_⟩
          refine ite3 hM (fun hM => ?_) (fun hM => ?_)
          · skip
            refine ⟨_, (by repeat (first | refine gs_ne (by decide) ?_ | exact gs_eq (by simp only [List.length_set, L2.wipe_length]; exact of_decide_eq_true rfl) | rfl)), ?_⟩
            refine ⟨ms, ap, (6 : Int), _, rfl, hW.enterP, hM, fun r207 u210 H211 hM e209 h208 => ?_⟩
            replace h_parts_here := rep_ret hW e209 h_parts_here
            replace h9 := rep_ret hW e209 h9
            replace h60 := rep_ret hW e209 h60
            replace h79 := rep_ret hW e209 h79
            replace h128 := rep_ret hW e209 h128
            replace h206 := rep_ret hW e209 h206
            replace hW := hW.retP e209
            exact hQ r207 _ _ hM hW.out h208
          · skip
            refine ⟨_, (by repeat (first | refine gs_ne (by decide) ?_ | exact gs_eq (by simp only [List.length_set, L2.wipe_length]; exact of_decide_eq_true rfl) | rfl)), ?_⟩
            refine ⟨_, (by repeat (first | refine gs_ne (by decide) ?_ | exact gs_eq (by simp only [List.length_set, L2.wipe_length]; exact of_decide_eq_true rfl) | rfl)), ?_⟩
            refine ⟨_, (by repeat (first | refine gs_ne (by decide) ?_ | exact gs_eq (by simp only [List.length_set, L2.wipe_length]; exact of_decide_eq_true rfl) | rfl)), ?_⟩
            apply rep_lenL (e := (fun y_ : Int => (D.v (V.int y_)))) (xs := r22.2.1) h128
            refine ⟨_, _, rfl, rfl, ?_⟩
            refine ⟨ms, ap, ((r22.2.1.length : Int) + (5 : Int)), _, rfl, hW.enterP, hM, fun r212 u215 H216 hM e214 h213 => ?_⟩
            replace h_parts_here := rep_ret hW e214 h_parts_here
            replace h9 := rep_ret hW e214 h9
            replace h60 := rep_ret hW e214 h60
            replace h79 := rep_ret hW e214 h79
            replace h128 := rep_ret hW e214 h128
            replace h206 := rep_ret hW e214 h206
            replace hW := hW.retP e214
            obtain rfl := of_v h213
            have h217 := rep_retup h60 h128 h206
            refine ⟨ms, _, (r22.1, r22.2.1, r22.2.2), r212, _, rfl, hW.enter0, h217, hM, fun r218 u221 H222 hM e220 h219 => ?_⟩
            replace h_parts_here := rep_ext e220 h_parts_here
            replace h9 := rep_ext e220 h9
            replace h60 := rep_ext e220 h60
            replace h79 := rep_ext e220 h79
            replace h128 := rep_ext e220 h128
            replace h206 := rep_ext e220 h206
            replace h217 := rep_ext e220 h217
            replace hW := hW.ret0 e220
            exact hQ r218 _ _ hM hW.out h219
    · skip
      refine iteF ?_
      have h223 := mo_rep_dr (dr_cons dr_here) (nm_cons nab38 nn52) mu58
      replace hW := wd_dr (dr_cons dr_here) mu58.hp hW
      replace h_parts_here := rep_dr (dr_cons dr_here) h_parts_here
      replace h9 := rep_dr (dr_cons dr_here) h9
      replace h60 := rep_dr (dr_cons dr_here) h60
      replace mu59 := mo_dr (dr_cons dr_here) (Ne.symm nab38) mu59
      replace nm61 := nm_dr dr_here nm61
      clear mu58
      refine ⟨_, (by repeat (first | refine gs_ne (by decide) ?_ | exact gs_eq (by simp only [List.length_set, L2.wipe_length]; exact of_decide_eq_true rfl) | rfl)), ?_⟩
      refine ⟨rfl, ?_⟩
      refine ⟨_, rfl, ?_⟩
      refine ite3 hM (fun hM => ?_) (fun hM => ?_)
      · skip
        refine ⟨_, (by repeat (first | refine gs_ne (by decide) ?_ | exact gs_eq (by simp only [List.length_set, L2.wipe_length]; exact of_decide_eq_true rfl) | rfl)), ?_⟩
        refine ⟨_, (by repeat (first | refine gs_ne (by decide) ?_ | exact gs_eq (by simp only [List.length_set, L2.wipe_length]; exact of_decide_eq_true rfl) | rfl)), ?_⟩
        apply mo_len (e := (fun y_ : (Int × Int × Int) => (D.tup [(D.v (V.int y_.1)), (D.v (V.int y_.2.1)), (D.v (V.int y_.2.2))]))) (xs := r22.2.2) mu59
        refine ⟨(b34 :: ms), ap, (r22.2.2.length : Int), _, rfl, hW.enterP, hM, fun r224 u227 H228 hM e226 h225 => ?_⟩
        replace h_parts_here := rep_ret hW e226 h_parts_here
        replace h9 := rep_ret hW e226 h9
        replace h60 := rep_ret hW e226 h60
        replace h223 := rep_ret hW e226 h223
        replace mu59 := mo_ret hW e226 mu59
        replace hW := hW.retP e226
        obtain rfl := of_v h225
        refine ⟨_, (by repeat (first | refine gs_ne (by decide) ?_ | exact gs_eq (by simp only [List.length_set, L2.wipe_length]; exact of_decide_eq_true rfl) | rfl)), ?_⟩
        refine ⟨_, (by repeat (first | refine gs_ne (by decide) ?_ | exact gs_eq (by simp only [List.length_set, L2.wipe_length]; exact of_decide_eq_true rfl) | rfl)), ?_⟩
        apply mo_len (e := (fun y_ : (Int × Int × Int) => (D.tup [(D.v (V.int y_.1)), (D.v (V.int y_.2.1)), (D.v (V.int y_.2.2))]))) (xs := r22.2.2) mu59
        obtain ⟨g229, hM⟩ := hM
        refine ⟨_, _, rfl, rfl, g229, ?_⟩
        refine ⟨_, (by repeat (first | refine gs_ne (by decide) ?_ | exact gs_eq (by simp only [List.length_set, L2.wipe_length]; exact of_decide_eq_true rfl) | rfl)), ?_⟩
        refine ⟨(b34 :: ms), ap, (4 : Int), _, rfl, hW.enterP, hM, fun r230 u233 H234 hM e232 h231 => ?_⟩
        replace h_parts_here := rep_ret hW e232 h_parts_here
        replace h9 := rep_ret hW e232 h9
        replace h60 := rep_ret hW e232 h60
        replace h223 := rep_ret hW e232 h223
        replace mu59 := mo_ret hW e232 mu59
        replace hW := hW.retP e232
        obtain rfl := of_v h231
        refine ⟨_, _, rfl, rfl, ?_⟩
        refine ⟨_, _, rfl, ?_⟩
        refine ⟨_, (by repeat (first | refine gs_ne (by decide) ?_ | exact gs_eq (by simp only [List.length_set, L2.wipe_length]; exact of_decide_eq_true rfl) | rfl)), ?_⟩
        refine ⟨_, (by repeat (first | refine gs_ne (by decide) ?_ | exact gs_eq (by simp only [List.length_set, L2.wipe_length]; exact of_decide_eq_true rfl) | rfl)), ?_⟩
        obtain ⟨y235, h236, hM⟩ := hM
        apply mo_ixN (e := (fun y_ : (Int × Int × Int) => (D.tup [(D.v (V.int y_.1)), (D.v (V.int y_.2.1)), (D.v (V.int y_.2.2))]))) (xs := r22.2.2) (y := y235) mu59 h236
        intro u238 h237
        apply rep_gtup h237 rfl
        intro vs239 hv240
        obtain ⟨u241, us242, rfl, h243, hv244⟩ := repL_uncons hv240
        obtain rfl := of_v h243
        obtain ⟨u245, us246, rfl, h247, hv248⟩ := repL_uncons hv244
        obtain rfl := of_v h247
        obtain ⟨u249, us250, rfl, h251, hv252⟩ := repL_uncons hv248
        obtain rfl := of_v h251
        obtain rfl := repL_empty hv252
        refine ⟨_, _, rfl, ?_⟩
        refine ⟨_, _, rfl, ?_⟩
        refine ⟨_, _, rfl, ?_⟩
        refine ⟨rfl, ?_⟩
        refine ⟨_, (by repeat (first | refine gs_ne (by decide) ?_ | exact gs_eq (by simp only [List.length_set, L2.wipe_length]; exact of_decide_eq_true rfl) | rfl)), ?_⟩
        refine ⟨_, _, rfl, rfl, ?_⟩
        refine ⟨_, (by repeat (first | refine gs_ne (by decide) ?_ | exact gs_eq (by simp only [List.length_set, L2.wipe_length]; exact of_decide_eq_true rfl) | rfl)), ?_⟩
        refine ⟨(b34 :: ms), ap, (2 : Int), _, rfl, hW.enterP, hM, fun r253 u256 H257 hM e255 h254 => ?_⟩
        replace h_parts_here := rep_ret hW e255 h_parts_here
        replace h9 := rep_ret hW e255 h9
        replace h60 := rep_ret hW e255 h60
        replace h223 := rep_ret hW e255 h223
        replace h237 := rep_ret hW e255 h237
        replace mu59 := mo_ret hW e255 mu59
        replace hW := hW.retP e255
        obtain rfl := of_v h254
        refine ⟨_, _, rfl, rfl, ?_⟩
        refine ⟨_, (by repeat (first | refine gs_ne (by decide) ?_ | exact gs_eq (by simp only [List.length_set, L2.wipe_length]; exact of_decide_eq_true rfl) | rfl)), ?_⟩
        refine ⟨_, (by repeat (first | refine gs_ne (by decide) ?_ | exact gs_eq (by simp only [List.length_set, L2.wipe_length]; exact of_decide_eq_true rfl) | rfl)), ?_⟩
        refine ⟨_, _, rfl, rfl, ?_⟩
        refine ⟨_, (by repeat (first | refine gs_ne (by decide) ?_ | exact gs_eq (by simp only [List.length_set, L2.wipe_length]; exact of_decide_eq_true rfl) | rfl)), ?_⟩
        refine ⟨_, (by repeat (first | refine gs_ne (by decide) ?_ | exact gs_eq (by simp only [List.length_set, L2.wipe_length]; exact of_decide_eq_true rfl) | rfl)), ?_⟩
        refine ⟨_, _, rfl, rfl, ?_⟩
        refine ⟨(by show 3 ≤ sizeLine; decide), ?_⟩
        intro p258 n262
        have e259 := Rx.Ext.new (H := H257) (o := (HO.tup [V.int y235.1, V.int (y235.2.1 + (1 : Int)), V.int (y235.2.2 - ((r22.1 / (r22.2.2.length : Int)) + r230))])) n262
        have hp260 : upd H257 p258 (HO.tup [V.int y235.1, V.int (y235.2.1 + (1 : Int)), V.int (y235.2.2 - ((r22.1 / (r22.2.2.length : Int)) + r230))]) p258 = some (HO.tup [V.int y235.1, V.int (y235.2.1 + (1 : Int)), V.int (y235.2.2 - ((r22.1 / (r22.2.2.length : Int)) + r230))]) := upd_same
        generalize upd H257 p258 (HO.tup [V.int y235.1, V.int (y235.2.1 + (1 : Int)), V.int (y235.2.2 - ((r22.1 / (r22.2.2.length : Int)) + r230))]) = H263 at e259 hp260 ⊢
        have h261 : rep (b34 :: ms) H263 (D.tup [(D.v (V.int y235.1)), (D.v (V.int (y235.2.1 + (1 : Int)))), (D.v (V.int (y235.2.2 - ((r22.1 / (r22.2.2.length : Int)) + r230))))]) (.ref p258) := rep_tup_mk hW n262 e259 hp260 (repL_cons rep_v (repL_cons rep_v (repL_cons rep_v repL_nil)))
        replace h_parts_here := rep_ext e259 h_parts_here
        replace h9 := rep_ext e259 h9
        replace h60 := rep_ext e259 h60
        replace h223 := rep_ext e259 h223
        replace h237 := rep_ext e259 h237
        replace mu59 := mo_ext e259 mu59
        replace hW := hW.ret0 e259
        refine ⟨_, (by repeat (first | refine gs_ne (by decide) ?_ | exact gs_eq (by simp only [List.length_set, L2.wipe_length]; exact of_decide_eq_true rfl) | rfl)), ?_⟩
        refine ⟨_, _, rfl, rfl, ?_⟩
        refine ⟨_, (by repeat (first | refine gs_ne (by decide) ?_ | exact gs_eq (by simp only [List.length_set, L2.wipe_length]; exact of_decide_eq_true rfl) | rfl)), ?_⟩
        refine ⟨_, (by repeat (first | refine gs_ne (by decide) ?_ | exact gs_eq (by simp only [List.length_set, L2.wipe_length]; exact of_decide_eq_true rfl) | rfl)), ?_⟩
        refine ⟨_, _, rfl, rfl, ?_⟩
        refine ⟨_, (by repeat (first | refine gs_ne (by decide) ?_ | exact gs_eq (by simp only [List.length_set, L2.wipe_length]; exact of_decide_eq_true rfl) | rfl)), ?_⟩
        refine ⟨_, _, rfl, rfl, ?_⟩
        refine ⟨_, (by repeat (first | refine gs_ne (by decide) ?_ | exact gs_eq (by simp only [List.length_set, L2.wipe_length]; exact of_decide_eq_true rfl) | rfl)), ?_⟩
        refine ⟨_, (by repeat (first | refine gs_ne (by decide) ?_ | exact gs_eq (by simp only [List.length_set, L2.wipe_length]; exact of_decide_eq_true rfl) | rfl)), ?_⟩
        refine ⟨_, (by repeat (first | refine gs_ne (by decide) ?_ | exact gs_eq (by simp only [List.length_set, L2.wipe_length]; exact of_decide_eq_true rfl) | rfl)), ?_⟩
        obtain ⟨g264, hM⟩ := hM
        refine ⟨_, _, rfl, rfl, g264, ?_⟩
        refine ⟨_, _, rfl, rfl, ?_⟩
        refine ⟨(by show 3 ≤ sizeLine; decide), ?_⟩
        intro p265 n269
        have e266 := Rx.Ext.new (H := H263) (o := (HO.tup [V.int (y235.1 + (1 : Int)), V.int ((y235.2.1 - ((r22.1 / (r22.2.2.length : Int)) + r230)) - ((((r22.1 / (r22.2.2.length : Int)) + r230) + (1 : Int)) + r253)), V.int (y235.2.2 + (((r22.1 / (r22.2.2.length : Int)) + r230) * ((((r22.1 / (r22.2.2.length : Int)) + r230) + (1 : Int)) + r253)))])) n269
        have hp267 : upd H263 p265 (HO.tup [V.int (y235.1 + (1 : Int)), V.int ((y235.2.1 - ((r22.1 / (r22.2.2.length : Int)) + r230)) - ((((r22.1 / (r22.2.2.length : Int)) + r230) + (1 : Int)) + r253)), V.int (y235.2.2 + (((r22.1 / (r22.2.2.length : Int)) + r230) * ((((r22.1 / (r22.2.2.length : Int)) + r230) + (1 : Int)) + r253)))]) p265 = some (HO.tup [V.int (y235.1 + (1 : Int)), V.int ((y235.2.1 - ((r22.1 / (r22.2.2.length : Int)) + r230)) - ((((r22.1 / (r22.2.2.length : Int)) + r230) + (1 : Int)) + r253)), V.int (y235.2.2 + (((r22.1 / (r22.2.2.length : Int)) + r230) * ((((r22.1 / (r22.2.2.length : Int)) + r230) + (1 : Int)) + r253)))]) := upd_same
        generalize upd H263 p265 (HO.tup [V.int (y235.1 + (1 : Int)), V.int ((y235.2.1 - ((r22.1 / (r22.2.2.length : Int)) + r230)) - ((((r22.1 / (r22.2.2.length : Int)) + r230) + (1 : Int)) + r253)), V.int (y235.2.2 + (((r22.1 / (r22.2.2.length : Int)) + r230) * ((((r22.1 / (r22.2.2.length : Int)) + r230) + (1 : Int)) + r253)))]) = H270 at e266 hp267 ⊢
        have h268 : rep (b34 :: ms) H270 (D.tup [(D.v (V.int (y235.1 + (1 : Int)))), (D.v (V.int ((y235.2.1 - ((r22.1 / (r22.2.2.length : Int)) + r230)) - ((((r22.1 / (r22.2.2.length : Int)) + r230) + (1 : Int)) + r253)))), (D.v (V.int (y235.2.2 + (((r22.1 / (r22.2.2.length : Int)) + r230) * ((((r22.1 / (r22.2.2.length : Int)) + r230) + (1 : Int)) + r253)))))]) (.ref p265) := rep_tup_mk hW n269 e266 hp267 (repL_cons rep_v (repL_cons rep_v (repL_cons rep_v repL_nil)))
        replace h_parts_here := rep_ext e266 h_parts_here
        replace h9 := rep_ext e266 h9
        replace h60 := rep_ext e266 h60
        replace h223 := rep_ext e266 h223
        replace h237 := rep_ext e266 h237
        replace h261 := rep_ext e266 h261
        replace mu59 := mo_ext e266 mu59
        replace hW := hW.ret0 e266
        refine ⟨_, (by repeat (first | refine gs_ne (by decide) ?_ | exact gs_eq (by simp only [List.length_set, L2.wipe_length]; exact of_decide_eq_true rfl) | rfl)), ?_⟩
        refine ⟨_, (by repeat (first | refine gs_ne (by decide) ?_ | exact gs_eq (by simp only [List.length_set, L2.wipe_length]; exact of_decide_eq_true rfl) | rfl)), ?_⟩
        refine ⟨_, (by repeat (first | refine gs_ne (by decide) ?_ | exact gs_eq (by simp only [List.length_set, L2.wipe_length]; exact of_decide_eq_true rfl) | rfl)), ?_⟩
        refine ⟨_, _, rfl, rfl, ?_⟩
        refine ⟨(by show 3 ≤ sizeLine; decide), ?_⟩
        intro p271 n275
        have e272 := Rx.Ext.new (H := H270) (o := (HO.tup [V.int y235.1, V.int y235.2.1, V.int (y235.2.2 + (1 : Int))])) n275
        have hp273 : upd H270 p271 (HO.tup [V.int y235.1, V.int y235.2.1, V.int (y235.2.2 + (1 : Int))]) p271 = some (HO.tup [V.int y235.1, V.int y235.2.1, V.int (y235.2.2 + (1 : Int))]) := upd_same
        generalize upd H270 p271 (HO.tup [V.int y235.1, V.int y235.2.1, V.int (y235.2.2 + (1 : Int))]) = H276 at e272 hp273 ⊢
        have h274 : rep (b34 :: ms) H276 (D.tup [(D.v (V.int y235.1)), (D.v (V.int y235.2.1)), (D.v (V.int (y235.2.2 + (1 : Int))))]) (.ref p271) := rep_tup_mk hW n275 e272 hp273 (repL_cons rep_v (repL_cons rep_v (repL_cons rep_v repL_nil)))
        replace h_parts_here := rep_ext e272 h_parts_here
        replace h9 := rep_ext e272 h9
        replace h60 := rep_ext e272 h60
        replace h223 := rep_ext e272 h223
        replace h237 := rep_ext e272 h237
        replace h261 := rep_ext e272 h261
        replace h268 := rep_ext e272 h268
        replace mu59 := mo_ext e272 mu59
        replace hW := hW.ret0 e272
        refine ⟨(by show 3 ≤ sizeLine; decide), ?_⟩
        intro p277 n281
        have e278 := Rx.Ext.new (H := H276) (o := (HO.lst [(V.ref p258), (V.ref p265), (V.ref p271)])) n281
        have hp279 : upd H276 p277 (HO.lst [(V.ref p258), (V.ref p265), (V.ref p271)]) p277 = some (HO.lst [(V.ref p258), (V.ref p265), (V.ref p271)]) := upd_same
        generalize upd H276 p277 (HO.lst [(V.ref p258), (V.ref p265), (V.ref p271)]) = H282 at e278 hp279 ⊢
        have h280 : rep (b34 :: ms) H282 (D.lst (([(y235.1, (y235.2.1 + (1 : Int)), (y235.2.2 - ((r22.1 / (r22.2.2.length : Int)) + r230))), ((y235.1 + (1 : Int)), ((y235.2.1 - ((r22.1 / (r22.2.2.length : Int)) + r230)) - ((((r22.1 / (r22.2.2.length : Int)) + r230) + (1 : Int)) + r253)), (y235.2.2 + (((r22.1 / (r22.2.2.length : Int)) + r230) * ((((r22.1 / (r22.2.2.length : Int)) + r230) + (1 : Int)) + r253)))), (y235.1, y235.2.1, (y235.2.2 + (1 : Int)))] : List (Int × Int × Int)).map (fun y_ : (Int × Int × Int) => (D.tup [(D.v (V.int y_.1)), (D.v (V.int y_.2.1)), (D.v (V.int y_.2.2))])))) (.ref p277) := rep_lst_mk hW n281 e278 hp279 (repL_cons h261 (repL_cons h268 (repL_cons h274 repL_nil)))
        replace h_parts_here := rep_ext e278 h_parts_here
        replace h9 := rep_ext e278 h9
        replace h60 := rep_ext e278 h60
        replace h223 := rep_ext e278 h223
        replace h237 := rep_ext e278 h237
        replace h261 := rep_ext e278 h261
        replace h268 := rep_ext e278 h268
        replace h274 := rep_ext e278 h274
        replace mu59 := mo_ext e278 mu59
        replace hW := hW.ret0 e278
        refine ⟨_, (by repeat (first | refine gs_ne (by decide) ?_ | exact gs_eq (by simp only [List.length_set, L2.wipe_length]; exact of_decide_eq_true rfl) | rfl)), ?_⟩
        refine ⟨_, (by repeat (first | refine gs_ne (by decide) ?_ | exact gs_eq (by simp only [List.length_set, L2.wipe_length]; exact of_decide_eq_true rfl) | rfl)), ?_⟩
        refine ⟨(b34 :: ms), ap, _, ([(y235.1, (y235.2.1 + (1 : Int)), (y235.2.2 - ((r22.1 / (r22.2.2.length : Int)) + r230))), ((y235.1 + (1 : Int)), ((y235.2.1 - ((r22.1 / (r22.2.2.length : Int)) + r230)) - ((((r22.1 / (r22.2.2.length : Int)) + r230) + (1 : Int)) + r253)), (y235.2.2 + (((r22.1 / (r22.2.2.length : Int)) + r230) * ((((r22.1 / (r22.2.2.length : Int)) + r230) + (1 : Int)) + r253)))), (y235.1, y235.2.1, (y235.2.2 + (1 : Int)))] : List (Int × Int × Int)), _, rfl, hW.enterP, h280, hM, fun r283 u286 H287 hM e285 h284 => ?_⟩
        replace h_parts_here := rep_ret hW e285 h_parts_here
        replace h9 := rep_ret hW e285 h9
        replace h60 := rep_ret hW e285 h60
        replace h223 := rep_ret hW e285 h223
        replace h237 := rep_ret hW e285 h237
        replace h261 := rep_ret hW e285 h261
        replace h268 := rep_ret hW e285 h268
        replace h274 := rep_ret hW e285 h274
        replace h280 := rep_ret hW e285 h280
        replace mu59 := mo_ret hW e285 mu59
        replace hW := hW.retP e285
        refine ⟨_, (by repeat (first | refine gs_ne (by decide) ?_ | exact gs_eq (by simp only [List.length_set, L2.wipe_length]; exact of_decide_eq_true rfl) | rfl)), ?_⟩
        refine ⟨_, (by repeat (first | refine gs_ne (by decide) ?_ | exact gs_eq (by simp only [List.length_set, L2.wipe_length]; exact of_decide_eq_true rfl) | rfl)), ?_⟩
        obtain ⟨g288, g289, hM⟩ := hM
        apply mo_setU (e := (fun y_ : (Int × Int × Int) => (D.tup [(D.v (V.int y_.1)), (D.v (V.int y_.2.1)), (D.v (V.int y_.2.2))]))) (xs := r22.2.2) mu59 g288 g289
        intro vs290 hr291
        have mk292 := mo_setL mu59 (repL_set (e := (fun y_ : (Int × Int × Int) => (D.tup [(D.v (V.int y_.1)), (D.v (V.int y_.2.1)), (D.v (V.int y_.2.2))]))) (y := r283) (Int.toNat r224) hr291 h284)
        replace h_parts_here := rep_put (o := .lst (vs290.set (Int.toNat r224) (u286))) mu59.im h_parts_here
        replace h9 := rep_put (o := .lst (vs290.set (Int.toNat r224) (u286))) mu59.im h9
        replace h60 := rep_put (o := .lst (vs290.set (Int.toNat r224) (u286))) mu59.im h60
        replace h223 := rep_put (o := .lst (vs290.set (Int.toNat r224) (u286))) mu59.im h223
        replace h237 := rep_put (o := .lst (vs290.set (Int.toNat r224) (u286))) mu59.im h237
        replace h261 := rep_put (o := .lst (vs290.set (Int.toNat r224) (u286))) mu59.im h261
        replace h268 := rep_put (o := .lst (vs290.set (Int.toNat r224) (u286))) mu59.im h268
        replace h274 := rep_put (o := .lst (vs290.set (Int.toNat r224) (u286))) mu59.im h274
        replace h280 := rep_put (o := .lst (vs290.set (Int.toNat r224) (u286))) mu59.im h280
        replace h284 := rep_put (o := .lst (vs290.set (Int.toNat r224) (u286))) mu59.im h284
        replace hW := wd_put (o := .lst (vs290.set (Int.toNat r224) (u286))) hW mu59
        replace mu59 := mk292
        generalize upd H287 b34 (.lst (vs290.set (Int.toNat r224) (u286))) = H293 at *
        replace mu59 : MutO (b34 :: ms) [ap] H_0 H293 b34 (D.lst ((r22.2.2.set (Int.toNat r224) r283).map (fun y_ : (Int × Int × Int) => (D.tup [(D.v (V.int y_.1)), (D.v (V.int y_.2.1)), (D.v (V.int y_.2.2))])))) := mu59
        clear mk292
        refine ⟨_, (by repeat (first | refine gs_ne (by decide) ?_ | exact gs_eq (by simp only [List.length_set, L2.wipe_length]; exact of_decide_eq_true rfl) | rfl)), ?_⟩
        refine ⟨_, (by repeat (first | refine gs_ne (by decide) ?_ | exact gs_eq (by simp only [List.length_set, L2.wipe_length]; exact of_decide_eq_true rfl) | rfl)), ?_⟩
        refine ⟨_, (by repeat (first | refine gs_ne (by decide) ?_ | exact gs_eq (by simp only [List.length_set, L2.wipe_length]; exact of_decide_eq_true rfl) | rfl)), ?_⟩
        have h294 := mo_rep_dr dr_here nm61 mu59
        replace hW := wd_dr dr_here mu59.hp hW
        replace h_parts_here := rep_dr dr_here h_parts_here
        replace h9 := rep_dr dr_here h9
        replace h60 := rep_dr dr_here h60
        replace h223 := rep_dr dr_here h223
        replace h237 := rep_dr dr_here h237
        replace h261 := rep_dr dr_here h261
        replace h268 := rep_dr dr_here h268
        replace h274 := rep_dr dr_here h274
        replace h280 := rep_dr dr_here h280
        replace h284 := rep_dr dr_here h284
        clear mu59
        refine ⟨(by show 3 ≤ sizeLine; decide), ?_⟩
        intro p295 n299
        have e296 := Rx.Ext.new (H := H293) (o := (HO.tup [V.int r22.1, (V.ref a33), (V.ref b34)])) n299
        have hp297 : upd H293 p295 (HO.tup [V.int r22.1, (V.ref a33), (V.ref b34)]) p295 = some (HO.tup [V.int r22.1, (V.ref a33), (V.ref b34)]) := upd_same
        generalize upd H293 p295 (HO.tup [V.int r22.1, (V.ref a33), (V.ref b34)]) = H300 at e296 hp297 ⊢
        have h298 : rep ms H300 (D.tup [(D.v (V.int r22.1)), (D.lst (r22.2.1.map (fun y_ : Int => (D.v (V.int y_))))), (D.lst ((r22.2.2.set (Int.toNat r224) r283).map (fun y_ : (Int × Int × Int) => (D.tup [(D.v (V.int y_.1)), (D.v (V.int y_.2.1)), (D.v (V.int y_.2.2))]))))]) (.ref p295) := rep_tup_mk hW n299 e296 hp297 (repL_cons rep_v (repL_cons h223 (repL_cons h294 repL_nil)))
        replace h_parts_here := rep_ext e296 h_parts_here
        replace h9 := rep_ext e296 h9
        replace h60 := rep_ext e296 h60
        replace h223 := rep_ext e296 h223
        replace h237 := rep_ext e296 h237
        replace h261 := rep_ext e296 h261
        replace h268 := rep_ext e296 h268
        replace h274 := rep_ext e296 h274
        replace h280 := rep_ext e296 h280
        replace h284 := rep_ext e296 h284
        replace h294 := rep_ext e296 h294
        replace hW := hW.ret0 e296
        exact hQ (r22.1, r22.2.1, (r22.2.2.set (Int.toNat r224) r283)) _ _ hM hW.out h298
      · skip
        have h301 := mo_rep_dr dr_here nm61 mu59
        replace hW := wd_dr dr_here mu59.hp hW
        replace h_parts_here := rep_dr dr_here h_parts_here
        replace h9 := rep_dr dr_here h9
        replace h60 := rep_dr dr_here h60
        replace h223 := rep_dr dr_here h223
        clear mu59
        refine ⟨_, (by repeat (first | refine gs_ne (by decide) ?_ | exact gs_eq (by simp only [List.length_set, L2.wipe_length]; exact of_decide_eq_true rfl) | rfl)), ?_⟩
        refine ⟨rfl, ?_⟩
        refine ⟨_, rfl, ?_⟩
        refine ite3 hM (fun hM => ?_) (fun hM => ?_)
        · skip
          refine ⟨_, (by repeat (first | refine gs_ne (by decide) ?_ | exact gs_eq (by simp only [List.length_set, L2.wipe_length]; exact of_decide_eq_true rfl) | rfl)), ?_⟩
          refine ⟨ms, ap, (6 : Int), _, rfl, hW.enterP, hM, fun r302 u305 H306 hM e304 h303 => ?_⟩
          replace h_parts_here := rep_ret hW e304 h_parts_here
          replace h9 := rep_ret hW e304 h9
          replace h60 := rep_ret hW e304 h60
          replace h223 := rep_ret hW e304 h223
          replace h301 := rep_ret hW e304 h301
          replace hW := hW.retP e304
          exact hQ r302 _ _ hM hW.out h303
        · skip
          refine ⟨_, (by repeat (first | refine gs_ne (by decide) ?_ | exact gs_eq (by simp only [List.length_set, L2.wipe_length]; exact of_decide_eq_true rfl) | rfl)), ?_⟩
          refine ⟨_, (by repeat (first | refine gs_ne (by decide) ?_ | exact gs_eq (by simp only [List.length_set, L2.wipe_length]; exact of_decide_eq_true rfl) | rfl)), ?_⟩
          refine ⟨_, (by repeat (first | refine gs_ne (by decide) ?_ | exact gs_eq (by simp only [List.length_set, L2.wipe_length]; exact of_decide_eq_true rfl) | rfl)), ?_⟩
          apply rep_lenL (e := (fun y_ : Int => (D.v (V.int y_)))) (xs := r22.2.1) h223
          refine ⟨_, _, rfl, rfl, ?_⟩
          refine ⟨ms, ap, ((r22.2.1.length : Int) + (5 : Int)), _, rfl, hW.enterP, hM, fun r307 u310 H311 hM e309 h308 => ?_⟩
          replace h_parts_here := rep_ret hW e309 h_parts_here
          replace h9 := rep_ret hW e309 h9
          replace h60 := rep_ret hW e309 h60
          replace h223 := rep_ret hW e309 h223
          replace h301 := rep_ret hW e309 h301
          replace hW := hW.retP e309
          obtain rfl := of_v h308
          have h312 := rep_retup h60 h223 h301
          refine ⟨ms, _, (r22.1, r22.2.1, r22.2.2), r307, _, rfl, hW.enter0, h312, hM, fun r313 u316 H317 hM e315 h314 => ?_⟩
          replace h_parts_here := rep_ext e315 h_parts_here
          replace h9 := rep_ext e315 h9
          replace h60 := rep_ext e315 h60
          replace h223 := rep_ext e315 h223
          replace h301 := rep_ext e315 h301
          replace h312 := rep_ext e315 h312
          replace hW := hW.ret0 e315
          exact hQ r313 _ _ hM hW.out h314
def M_is_integer (x_value : Int) (KM : Bool → Prop) : Prop :=
  (KM (!false))
def sp_is_integer (A : Ad) : Sp := fun vs H Q _ => ∃ (ms : List Addr) (x_value : Int) (KM : Bool → Prop), vs = [V.int x_value] ∧ Wd ms [] [] H H ∧ M_is_integer x_value KM ∧ ∀ (r : Bool) (u : V) (H1 : Hp), KM r → Ret [] H H1 → rep ms H1 (D.v (V.bl r)) u → Q u H1
set_option maxHeartbeats 16000000 in
theorem ok_is_integer {P : Program} {w : World} {K : PySem.W.Frag} {mg : Str → Option Value} {base : Heap} {A : Ad} (T : Txt w K mg A) : FnOk P w K mg base CX0 1 A.a_is_integer A.d_is_integer ["value"] (sp_is_integer A) := by
  refine T.F_is_integer.ok sc_is_integer (fun vs H Q E h => ?_) (fun cdv A_ outer s_ H_0 vs Q E hr h => ?_)
  · obtain ⟨ms, x_value, KM, rfl, _⟩ := h
    rfl
  · obtain ⟨ms, x_value, KM, rfl, hW, hM, hQ⟩ := h
    unfold M_is_integer at hM
    refine ⟨_, (pss_one (ps_ret (pe_and (pe_callB (call_isiK (K := K) rfl) (by rfl) T.z_isinstance (by decide +kernel) (pa_cons (pv 0) (pa_cons (pe_bltn (v := .ty "int") (by rfl) T.z_int (by decide +kernel) rfl) pa_nil))) (pe_one (pe_not (pe_callB (call_isiK (K := K) rfl) (by rfl) T.z_isinstance (by decide +kernel) (pa_cons (pv 0) (pa_cons (pe_bltn (v := .ty "bool") (by rfl) T.z_bool (by decide +kernel) rfl) pa_nil)))))))), ?_⟩
    refine ⟨_, rfl, ?_⟩
    refine ⟨_, _, _, _, true, rfl, .ty _, .base (.int _), kit_ty (by decide +kernel), ?_⟩
    refine ⟨_, rfl, ?_⟩
    refine iteT ?_
    refine ⟨_, rfl, ?_⟩
    refine ⟨_, _, _, _, false, rfl, .ty _, .base (.int _), kit_ty (by decide +kernel), ?_⟩
    refine ⟨_, rfl, ?_⟩
    exact hQ (!false) _ _ hM hW.out rep_v
def M_is_count (x_value : Int) (KM : Bool → Prop) : Prop :=
  (M_is_integer x_value fun r1 => (if r1 = true then (KM (decide ((0 : Int) ≤ x_value))) else (KM false)))
def sp_is_count (A : Ad) : Sp := fun vs H Q _ => ∃ (ms : List Addr) (x_value : Int) (KM : Bool → Prop), vs = [V.int x_value] ∧ Wd ms [] [] H H ∧ M_is_count x_value KM ∧ ∀ (r : Bool) (u : V) (H1 : Hp), KM r → Ret [] H H1 → rep ms H1 (D.v (V.bl r)) u → Q u H1
set_option maxHeartbeats 16000000 in
theorem ok_is_count {P : Program} {w : World} {K : PySem.W.Frag} {mg : Str → Option Value} {base : Heap} {A : Ad} (T : Txt w K mg A) : FnOk P w K mg base CX0 2 A.a_is_count A.d_is_count ["value"] (sp_is_count A) := by
  refine T.F_is_count.ok sc_is_count (fun vs H Q E h => ?_) (fun cdv A_ outer s_ H_0 vs Q E hr h => ?_)
  · obtain ⟨ms, x_value, KM, rfl, _⟩ := h
    rfl
  · obtain ⟨ms, x_value, KM, rfl, hW, hM, hQ⟩ := h
    unfold M_is_count at hM
    refine ⟨_, (pss_one (ps_ret (pe_and (pe_call (ok_is_integer T) (hr.mono (by decide)) (by rfl) T.g_is_integer T.F_is_integer.kp T.b_is_integer .nil pass0 (pa_cons (pv 0) pa_nil)) (pe_one (pe_cmpR op_ge (pv 0) pe_int (nomark _)))))), ?_⟩
    refine ⟨_, rfl, ?_⟩
    refine ⟨ms, x_value, _, rfl, hW.enter0, hM, fun r1 u4 H5 hM e3 h2 => ?_⟩
    replace hW := hW.ret0 e3
    obtain rfl := of_v h2
    refine ⟨_, rfl, ?_⟩
    refine ite3 hM (fun hM => ?_) (fun hM => ?_)
    · skip
      refine ⟨_, rfl, ?_⟩
      refine ⟨_, _, rfl, rfl, ?_⟩
      exact hQ (decide ((0 : Int) ≤ x_value)) _ _ hM hW.out rep_v
    · skip
      exact hQ false _ _ hM hW.out rep_v
def M_check_first (x_first : Int) (KM : Unit → Prop) : Prop :=
  (M_is_count x_first fun r1 => (if (!r1) = true then False else (KM ())))
def sp_check_first (A : Ad) : Sp := fun vs H Q _ => ∃ (ms : List Addr) (x_first : Int) (KM : Unit → Prop), vs = [V.int x_first] ∧ Wd ms [] [] H H ∧ M_check_first x_first KM ∧ ∀ (r : Unit) (u : V) (H1 : Hp), KM r → Ret [] H H1 → rep ms H1 (D.v V.non) u → Q u H1
set_option maxHeartbeats 16000000 in
theorem ok_check_first {P : Program} {w : World} {K : PySem.W.Frag} {mg : Str → Option Value} {base : Heap} {A : Ad} (T : Txt w K mg A) : FnOk P w K mg base CX0 3 A.a_check_first A.d_check_first ["first"] (sp_check_first A) := by
  refine T.F_check_first.ok sc_check_first (fun vs H Q E h => ?_) (fun cdv A_ outer s_ H_0 vs Q E hr h => ?_)
  · obtain ⟨ms, x_first, KM, rfl, _⟩ := h
    rfl
  · obtain ⟨ms, x_first, KM, rfl, hW, hM, hQ⟩ := h
    unfold M_check_first at hM
    refine ⟨_, (pss_one (ps_if (pt_not (pt_val (pe_call (ok_is_count T) (hr.mono (by decide)) (by rfl) T.g_is_count T.F_is_count.kp T.b_is_count .nil pass0 (pa_cons (pv 0) pa_nil)))) (pss_one ps_never) pss_nil)), ?_⟩
    refine ⟨_, rfl, ?_⟩
    refine ⟨ms, x_first, _, rfl, hW.enter0, hM, fun r1 u4 H5 hM e3 h2 => ?_⟩
    replace hW := hW.ret0 e3
    obtain rfl := of_v h2
    refine ⟨_, rfl, ?_⟩
    refine ite3 hM (fun hM => ?_) (fun hM => ?_)
    · skip
      exact hM
    · skip
      exact hQ () _ _ hM hW.out rep_v
def M_is_list (x_value : (List Int)) (KM : Bool → Prop) : Prop :=
  (KM true)
def sp_is_list (A : Ad) : Sp := fun vs H Q _ => ∃ (ms : List Addr) (v_value : V) (x_value : (List Int)) (KM : Bool → Prop), vs = [v_value] ∧ Wd ms [] [] H H ∧ rep ms H (D.lst (x_value.map (fun y_ : Int => (D.v (V.int y_))))) v_value ∧ M_is_list x_value KM ∧ ∀ (r : Bool) (u : V) (H1 : Hp), KM r → Ret [] H H1 → rep ms H1 (D.v (V.bl r)) u → Q u H1
set_option maxHeartbeats 16000000 in
theorem ok_is_list {P : Program} {w : World} {K : PySem.W.Frag} {mg : Str → Option Value} {base : Heap} {A : Ad} (T : Txt w K mg A) : FnOk P w K mg base CX0 1 A.a_is_list A.d_is_list ["value"] (sp_is_list A) := by
  refine T.F_is_list.ok sc_is_list (fun vs H Q E h => ?_) (fun cdv A_ outer s_ H_0 vs Q E hr h => ?_)
  · obtain ⟨ms, v_value, x_value, KM, rfl, _⟩ := h
    rfl
  · obtain ⟨ms, v_value, x_value, KM, rfl, hW, h_value, hM, hQ⟩ := h
    unfold M_is_list at hM
    refine ⟨_, (pss_one (ps_ret (pe_callB (call_isiTK (K := K) rfl) (by rfl) T.z_isinstance (by decide +kernel) (pa_cons (pv 0) (pa_cons (pe_tup (pa_cons (pe_bltn (v := .ty "list") (by rfl) T.z_list (by decide +kernel) rfl) (pa_cons (pe_bltn (v := .ty "tuple") (by rfl) T.z_tuple (by decide +kernel) rfl) pa_nil))) pa_nil))))), ?_⟩
    refine ⟨_, rfl, ?_⟩
    refine ⟨(by show 2 ≤ sizeLine; decide), ?_⟩
    intro p1 n2
    have e3 := Rx.Ext.new (H := H_0) (o := (HO.tup [V.ty "list", V.ty "tuple"])) n2
    have hp4 : upd H_0 p1 (HO.tup [V.ty "list", V.ty "tuple"]) p1 = some (HO.tup [V.ty "list", V.ty "tuple"]) := upd_same
    generalize upd H_0 p1 (HO.tup [V.ty "list", V.ty "tuple"]) = H5 at e3 hp4 ⊢
    replace h_value := rep_ext e3 h_value
    replace hW := hW.ret0 e3
    apply rep_isi2 (d := (D.lst (x_value.map (fun y_ : Int => (D.v (V.int y_)))))) (a := "list") (b := "list") (c := "tuple") (r1 := true) (r2 := false) h_value (by rfl) (by rfl) hp4 (by decide +kernel) (by decide +kernel)
    skip
    exact hQ true _ _ hM hW.out rep_v
def M_check_values (x_early : (List Int)) (KM : Unit → Prop) : Prop :=
  (M_is_list x_early fun r1 => (if (!r1) = true then False else (forC (fun (x11 : (Int × Int)) (s13 : Unit) (k14 : Unit → Prop) => (M_is_integer x11.2 fun r34 => (if (!r34) = true then False else (k14 ())))) ((rangeI 0 (x_early.length : Int)).zip x_early) () fun s39 => (KM ()))))
def sp_check_values (A : Ad) : Sp := fun vs H Q _ => ∃ (ms : List Addr) (v_early : V) (x_early : (List Int)) (KM : Unit → Prop), vs = [v_early] ∧ Wd ms [] [] H H ∧ rep ms H (D.lst (x_early.map (fun y_ : Int => (D.v (V.int y_))))) v_early ∧ M_check_values x_early KM ∧ ∀ (r : Unit) (u : V) (H1 : Hp), KM r → Ret [] H H1 → rep ms H1 (D.v V.non) u → Q u H1
set_option maxHeartbeats 16000000 in
theorem ok_check_values {P : Program} {w : World} {K : PySem.W.Frag} {mg : Str → Option Value} {base : Heap} {A : Ad} (T : Txt w K mg A) : FnOk P w K mg base CX0 2 A.a_check_values A.d_check_values ["early"] (sp_check_values A) := by
  refine T.F_check_values.ok sc_check_values (fun vs H Q E h => ?_) (fun cdv A_ outer s_ H_0 vs Q E hr h => ?_)
  · obtain ⟨ms, v_early, x_early, KM, rfl, _⟩ := h
    rfl
  · obtain ⟨ms, v_early, x_early, KM, rfl, hW, h_early, hM, hQ⟩ := h
    unfold M_check_values at hM
    refine ⟨_, (pss_cons (ps_if (pt_not (pt_val (pe_call (ok_is_list T) (hr.mono (by decide)) (by rfl) T.g_is_list T.F_is_list.kp T.b_is_list .nil pass0 (pa_cons (pv 0) pa_nil)))) (pss_one ps_never) pss_nil) (pss_one (ps_for PassesOwn.never rfl (pi_enum (by rfl) T.z_enumerate (pa_cons (pv 0) pa_nil)) (pg_tup rfl (pgs_cons (pg_name (i := 1) sc_check_values.nd rfl (by first | exact Or.inl rfl | exact Or.inr rfl)) (pgs_cons (pg_name (i := 2) sc_check_values.nd rfl (by first | exact Or.inl rfl | exact Or.inr rfl)) pgs_nil))) (pss_one (ps_if (pt_not (pt_val (pe_call (ok_is_integer T) (hr.mono (by decide)) (by rfl) T.g_is_integer T.F_is_integer.kp T.b_is_integer .nil pass0 (pa_cons (pv 2) pa_nil)))) (pss_one ps_never) pss_nil))))), ?_⟩
    refine ⟨_, rfl, ?_⟩
    refine ⟨ms, _, x_early, _, rfl, hW.enter0, h_early, hM, fun r1 u4 H5 hM e3 h2 => ?_⟩
    replace h_early := rep_ext e3 h_early
    replace hW := hW.ret0 e3
    obtain rfl := of_v h2
    refine ⟨_, rfl, ?_⟩
    refine ite3 hM (fun hM => ?_) (fun hM => ?_)
    · skip
      exact hM
    · skip
      refine ⟨_, rfl, ?_⟩
      apply rep_iterE h_early
      intro a6 xs7 _ an8 hp9 hl10
      refine for_enumG (S := Unit) (items := x_early) (e := (fun y_ : Int => (D.v (V.int y_)))) (ms := ms) (fun (s : Unit) σ_ h_ => ∃ (w_0 : Option V), ∃ (w_1 : Option V), σ_ = [some v_early, w_0, w_1] ∧ Wd ms [] [] H_0 h_ ∧ Keep ms H5 h_) () an8 hp9 hl10 (fun _ _ _ z_ => by obtain ⟨_, _, _, _, q_⟩ := z_; exact q_) (fun _ _ _ z_ => by obtain ⟨_, _, _, w_, _⟩ := z_; exact w_.tr) hM ⟨_, _, rfl, hW, Keep.refl⟩ ?_ ?_
      · skip
        rintro x11 u12 s13 k14 _ H23 H22 ⟨w19, w20, rfl, hW, hk15⟩ ex21 h16 hM Nx17 hN18
        replace h_early := rep_keep hk15 h_early
        replace h_early := rep_ext ex21 h_early
        replace hk15 := keep_ext ex21 hk15
        replace hW := hW.ret0 ex21
        apply rep_gtup h16 rfl
        intro vs24 hv25
        obtain ⟨u26, us27, rfl, h28, hv29⟩ := repL_uncons hv25
        obtain rfl := of_v h28
        obtain ⟨u30, us31, rfl, h32, hv33⟩ := repL_uncons hv29
        obtain rfl := of_v h32
        obtain rfl := repL_empty hv33
        refine ⟨_, _, rfl, ?_⟩
        refine ⟨_, _, rfl, ?_⟩
        refine ⟨rfl, ?_⟩
        refine ⟨_, rfl, ?_⟩
        refine ⟨ms, x11.2, _, rfl, hW.enter0, hM, fun r34 u37 H38 hM e36 h35 => ?_⟩
        replace h_early := rep_ext e36 h_early
        replace hk15 := keep_ext e36 hk15
        replace h16 := rep_ext e36 h16
        replace hW := hW.ret0 e36
        obtain rfl := of_v h35
        refine ⟨_, rfl, ?_⟩
        refine ite3 hM (fun hM => ?_) (fun hM => ?_)
        · skip
          exact hM
        · skip
          exact hN18 () _ _ hM ⟨_, _, rfl, hW, hk15⟩
      · skip
        rintro s39 _ H43 hM ⟨w41, w42, rfl, hW, hk40⟩
        replace h_early := rep_keep hk40 h_early
        exact hQ () _ _ hM hW.out rep_v
def M_is_list_ltiii (x_value : (List (Int × Int × Int))) (KM : Bool → Prop) : Prop :=
  (KM true)
def sp_is_list_ltiii (A : Ad) : Sp := fun vs H Q _ => ∃ (ms : List Addr) (v_value : V) (x_value : (List (Int × Int × Int))) (KM : Bool → Prop), vs = [v_value] ∧ Wd ms [] [] H H ∧ rep ms H (D.lst (x_value.map (fun y_ : (Int × Int × Int) => (D.tup [(D.v (V.int y_.1)), (D.v (V.int y_.2.1)), (D.v (V.int y_.2.2))])))) v_value ∧ M_is_list_ltiii x_value KM ∧ ∀ (r : Bool) (u : V) (H1 : Hp), KM r → Ret [] H H1 → rep ms H1 (D.v (V.bl r)) u → Q u H1
set_option maxHeartbeats 16000000 in
theorem ok_is_list_ltiii {P : Program} {w : World} {K : PySem.W.Frag} {mg : Str → Option Value} {base : Heap} {A : Ad} (T : Txt w K mg A) : FnOk P w K mg base CX0 1 A.a_is_list A.d_is_list ["value"] (sp_is_list_ltiii A) := by
  refine T.F_is_list.ok sc_is_list (fun vs H Q E h => ?_) (fun cdv A_ outer s_ H_0 vs Q E hr h => ?_)
  · obtain ⟨ms, v_value, x_value, KM, rfl, _⟩ := h
    rfl
  · obtain ⟨ms, v_value, x_value, KM, rfl, hW, h_value, hM, hQ⟩ := h
    unfold M_is_list_ltiii at hM
    refine ⟨_, (pss_one (ps_ret (pe_callB (call_isiTK (K := K) rfl) (by rfl) T.z_isinstance (by decide +kernel) (pa_cons (pv 0) (pa_cons (pe_tup (pa_cons (pe_bltn (v := .ty "list") (by rfl) T.z_list (by decide +kernel) rfl) (pa_cons (pe_bltn (v := .ty "tuple") (by rfl) T.z_tuple (by decide +kernel) rfl) pa_nil))) pa_nil))))), ?_⟩
    refine ⟨_, rfl, ?_⟩
    refine ⟨(by show 2 ≤ sizeLine; decide), ?_⟩
    intro p1 n2
    have e3 := Rx.Ext.new (H := H_0) (o := (HO.tup [V.ty "list", V.ty "tuple"])) n2
    have hp4 : upd H_0 p1 (HO.tup [V.ty "list", V.ty "tuple"]) p1 = some (HO.tup [V.ty "list", V.ty "tuple"]) := upd_same
    generalize upd H_0 p1 (HO.tup [V.ty "list", V.ty "tuple"]) = H5 at e3 hp4 ⊢
    replace h_value := rep_ext e3 h_value
    replace hW := hW.ret0 e3
    apply rep_isi2 (d := (D.lst (x_value.map (fun y_ : (Int × Int × Int) => (D.tup [(D.v (V.int y_.1)), (D.v (V.int y_.2.1)), (D.v (V.int y_.2.2))]))))) (a := "list") (b := "list") (c := "tuple") (r1 := true) (r2 := false) h_value (by rfl) (by rfl) hp4 (by decide +kernel) (by decide +kernel)
    skip
    exact hQ true _ _ hM hW.out rep_v
def M_is_row (x_value : (Int × Int × Int)) (KM : Bool → Prop) : Prop :=
  (if (decide (V.int (3 : Int) = V.int (3 : Int))) = true then (([x_value.1, x_value.2.1, x_value.2.2] : List Int).length < 100000 ∧ mapC (fun (x17 : Int) (k10 : Bool → Prop) => (M_is_integer x17 fun r23 => (k10 r23))) ([x_value.1, x_value.2.1, x_value.2.2] : List Int) [] fun ys33 => (KM (List.all ys33 id))) else (KM false))
def sp_is_row (A : Ad) : Sp := fun vs H Q _ => ∃ (ms : List Addr) (v_value : V) (x_value : (Int × Int × Int)) (KM : Bool → Prop), vs = [v_value] ∧ Wd ms [] [] H H ∧ rep ms H (D.tup [(D.v (V.int x_value.1)), (D.v (V.int x_value.2.1)), (D.v (V.int x_value.2.2))]) v_value ∧ M_is_row x_value KM ∧ ∀ (r : Bool) (u : V) (H1 : Hp), KM r → Ret [] H H1 → rep ms H1 (D.v (V.bl r)) u → Q u H1
set_option maxHeartbeats 16000000 in
theorem ok_is_row {P : Program} {w : World} {K : PySem.W.Frag} {mg : Str → Option Value} {base : Heap} {A : Ad} (T : Txt w K mg A) : FnOk P w K mg base CX0 2 A.a_is_row A.d_is_row ["value"] (sp_is_row A) := by
  refine T.F_is_row.ok sc_is_row (fun vs H Q E h => ?_) (fun cdv A_ outer s_ H_0 vs Q E hr h => ?_)
  · obtain ⟨ms, v_value, x_value, KM, rfl, _⟩ := h
    rfl
  · obtain ⟨ms, v_value, x_value, KM, rfl, hW, h_value, hM, hQ⟩ := h
    unfold M_is_row at hM
    refine ⟨_, (pss_one (ps_ret (pe_and (pe_callB (call_isiK (K := K) rfl) (by rfl) T.z_isinstance (by decide +kernel) (pa_cons (pv 0) (pa_cons (pe_bltn (v := .ty "tuple") (by rfl) T.z_tuple (by decide +kernel) rfl) pa_nil))) (pe_and (pe_cmpR op_eq (pe_callB (call_lenK (K := K) rfl) (by rfl) T.z_len PySem.boot_len (pa_cons (pv 0) pa_nil)) pe_int (nomark _)) (pe_one (pe_callB (cr_allK (K := K) rfl rfl) (by rfl) T.z_all (by decide +kernel) (pa_cons (pe_lc (own := [("part", 1)]) (g := gName 1) rfl sc_is_row.nd (pi_tup (pv 0)) (blkOk_by (N := ["value", "part"]) (sc := defScope s_is_row) (by decide +kernel)) (fun _ _ _ _ _ => pg_name (i := 1) sc_is_row.nd rfl (by first | exact Or.inl rfl | exact Or.inr rfl)) (fun _ _ _ _ _ => pts_nil) (fun _ _ _ _ _ => (pe_call (ok_is_integer T) (hr.mono (by decide)) (by rfl) T.g_is_integer T.F_is_integer.kp T.b_is_integer .nil pass0 (pa_cons (pv 1) pa_nil)))) pa_nil))))))), ?_⟩
    refine ⟨_, rfl, ?_⟩
    apply rep_isi1 (d := (D.tup [(D.v (V.int x_value.1)), (D.v (V.int x_value.2.1)), (D.v (V.int x_value.2.2))])) (a := "tuple") (b := "tuple") (r := true) h_value (by rfl) (by rfl) (by decide +kernel)
    refine ⟨_, rfl, ?_⟩
    refine iteT ?_
    refine ⟨_, rfl, ?_⟩
    apply rep_lenT (n := 3) h_value rfl
    refine ⟨rfl, ?_⟩
    refine ⟨_, rfl, ?_⟩
    refine ite3 hM (fun hM => ?_) (fun hM => ?_)
    · skip
      refine ⟨_, rfl, ?_⟩
      apply rep_iterT h_value
      intro a1 xs2 _ an3 hp4 hl5
      refine fun L6 nl7 => ?_
      have nm21 := nm_new hW nl7
      refine lc_tupG (L := L6) (fun n_ ys_ h_ => Wd (L6 :: ms) [] [] H_0 h_ ∧ Keep (L6 :: ms) H_0 h_ ∧ MutO (L6 :: ms) [] H_0 h_ L6 (D.lst (ys_.map (fun y_ : Bool => (D.v (V.bl y_))))) ∧ ys_.length ≤ n_) (items := ([x_value.1, x_value.2.1, x_value.2.2] : List Int)) (e := (fun y_ : Int => (D.v (V.int y_)))) an3 hp4 hl5 nl7 (fun _ _ _ q_ => q_.2.1) hM ⟨wd_cell hW nl7, keep_cell nl7 Keep.refl, mo_newL (ds := []) hW nl7 repL_nil, Nat.le_refl _⟩ ?_ ?_
      · skip
        rintro x17 u18 n8 ys9 k10 H22 hn ⟨hW, hk11, mu12, ln13⟩ h19 hM Nx16 hN14
        replace h_value := rep_keep hk11 (rep_new nl7 h_value)
        obtain rfl := of_v h19
        refine ⟨rfl, ?_⟩
        refine tyes_of ?_
        refine ⟨_, rfl, ?_⟩
        refine ⟨(L6 :: ms), x17, _, rfl, hW.enter0, hM, fun r23 u26 H27 hM e25 h24 => ?_⟩
        replace h_value := rep_ext e25 h_value
        replace hk11 := keep_ext e25 hk11
        replace mu12 := mo_ext e25 mu12
        replace hW := hW.ret0 e25
        obtain rfl := of_v h24
        refine mo_end mu12 hn (by rw [List.length_map]; exact ln13) fun vs28 hr29 => ?_
        have mk31 := mo_setL mu12 (repL_snoc (e := (fun y_ : Bool => (D.v (V.bl y_)))) (xs := ys9) (y := r23) hr29 rep_v)
        replace h_value := rep_put (o := .lst (vs28 ++ [V.bl r23])) mu12.im h_value
        replace hk11 := keep_put (o := .lst (vs28 ++ [V.bl r23])) mu12.im hk11
        replace hW := wd_put (o := .lst (vs28 ++ [V.bl r23])) hW mu12
        replace mu12 := mk31
        generalize upd H27 L6 (.lst (vs28 ++ [V.bl r23])) = H32 at *
        replace mu12 : MutO (L6 :: ms) [] H_0 H32 L6 (D.lst ((ys9 ++ [r23]).map (fun y_ : Bool => (D.v (V.bl y_))))) := mu12
        clear mk31
        exact hN14 r23 _ hM ⟨hW, hk11, mu12, by rw [List.length_append]; exact Nat.add_le_add_right ln13 1⟩
      · skip
        rintro n8 ys33 H34 hM ⟨hW, hk11, mu12, ln13⟩
        replace h_value := rep_keep hk11 (rep_new nl7 h_value)
        clear hk11 ln13
        have h35 := mo_rep_dr dr_here nm21 mu12
        replace hW := wd_dr dr_here mu12.hp hW
        replace h_value := rep_dr dr_here h_value
        clear mu12
        apply rep_all h35
        exact hQ (List.all ys33 id) _ _ hM hW.out rep_v
    · skip
      exact hQ false _ _ hM hW.out rep_v
def M_check_rows (x_rows : (List (Int × Int × Int))) (KM : Unit → Prop) : Prop :=
  (M_is_list_ltiii x_rows fun r1 => (if (!r1) = true then False else (if (decide (V.int (x_rows.length : Int) = V.int (0 : Int))) = true then False else (forC (fun (x11 : (Int × (Int × Int × Int))) (s13 : Unit) (k14 : Unit → Prop) => (M_is_row x11.2 fun r34 => (if (!r34) = true then False else (k14 ())))) ((rangeI 0 (x_rows.length : Int)).zip x_rows) () fun s39 => (KM ())))))
def sp_check_rows (A : Ad) : Sp := fun vs H Q _ => ∃ (ms : List Addr) (v_rows : V) (x_rows : (List (Int × Int × Int))) (KM : Unit → Prop), vs = [v_rows] ∧ Wd ms [] [] H H ∧ rep ms H (D.lst (x_rows.map (fun y_ : (Int × Int × Int) => (D.tup [(D.v (V.int y_.1)), (D.v (V.int y_.2.1)), (D.v (V.int y_.2.2))])))) v_rows ∧ M_check_rows x_rows KM ∧ ∀ (r : Unit) (u : V) (H1 : Hp), KM r → Ret [] H H1 → rep ms H1 (D.v V.non) u → Q u H1
set_option maxHeartbeats 16000000 in
theorem ok_check_rows {P : Program} {w : World} {K : PySem.W.Frag} {mg : Str → Option Value} {base : Heap} {A : Ad} (T : Txt w K mg A) : FnOk P w K mg base CX0 3 A.a_check_rows A.d_check_rows ["rows"] (sp_check_rows A) := by
  refine T.F_check_rows.ok sc_check_rows (fun vs H Q E h => ?_) (fun cdv A_ outer s_ H_0 vs Q E hr h => ?_)
  · obtain ⟨ms, v_rows, x_rows, KM, rfl, _⟩ := h
    rfl
  · obtain ⟨ms, v_rows, x_rows, KM, rfl, hW, h_rows, hM, hQ⟩ := h
    unfold M_check_rows at hM
    refine ⟨_, (pss_cons (ps_if (PW.pt (pw_or (pt_not (pt_val (pe_call (ok_is_list_ltiii T) (hr.mono (by decide)) (by rfl) T.g_is_list T.F_is_list.kp T.b_is_list .nil pass0 (pa_cons (pv 0) pa_nil)))) (pw_or1 (pt_cmpR op_eq (pe_callB (call_lenK (K := K) rfl) (by rfl) T.z_len PySem.boot_len (pa_cons (pv 0) pa_nil)) pe_int (nomark _))))) (pss_one ps_never) pss_nil) (pss_one (ps_for PassesOwn.never rfl (pi_enum (by rfl) T.z_enumerate (pa_cons (pv 0) pa_nil)) (pg_tup rfl (pgs_cons (pg_name (i := 1) sc_check_rows.nd rfl (by first | exact Or.inl rfl | exact Or.inr rfl)) (pgs_cons (pg_name (i := 2) sc_check_rows.nd rfl (by first | exact Or.inl rfl | exact Or.inr rfl)) pgs_nil))) (pss_one (ps_if (pt_not (pt_val (pe_call (ok_is_row T) (hr.mono (by decide)) (by rfl) T.g_is_row T.F_is_row.kp T.b_is_row .nil pass0 (pa_cons (pv 2) pa_nil)))) (pss_one ps_never) pss_nil))))), ?_⟩
    refine ⟨_, rfl, ?_⟩
    refine ⟨ms, _, x_rows, _, rfl, hW.enter0, h_rows, hM, fun r1 u4 H5 hM e3 h2 => ?_⟩
    replace h_rows := rep_ext e3 h_rows
    replace hW := hW.ret0 e3
    obtain rfl := of_v h2
    refine ⟨_, rfl, ?_⟩
    refine ite3 hM (fun hM => ?_) (fun hM => ?_)
    · skip
      refine iteT ?_
      exact hM
    · skip
      refine ⟨_, rfl, ?_⟩
      apply rep_lenL (e := (fun y_ : (Int × Int × Int) => (D.tup [(D.v (V.int y_.1)), (D.v (V.int y_.2.1)), (D.v (V.int y_.2.2))]))) (xs := x_rows) h_rows
      refine ⟨rfl, ?_⟩
      refine ⟨_, rfl, ?_⟩
      refine ite3 hM (fun hM => ?_) (fun hM => ?_)
      · skip
        exact hM
      · skip
        refine ⟨_, rfl, ?_⟩
        apply rep_iterE h_rows
        intro a6 xs7 _ an8 hp9 hl10
        refine for_enumG (S := Unit) (items := x_rows) (e := (fun y_ : (Int × Int × Int) => (D.tup [(D.v (V.int y_.1)), (D.v (V.int y_.2.1)), (D.v (V.int y_.2.2))]))) (ms := ms) (fun (s : Unit) σ_ h_ => ∃ (w_0 : Option V), ∃ (w_1 : Option V), σ_ = [some v_rows, w_0, w_1] ∧ Wd ms [] [] H_0 h_ ∧ Keep ms H5 h_) () an8 hp9 hl10 (fun _ _ _ z_ => by obtain ⟨_, _, _, _, q_⟩ := z_; exact q_) (fun _ _ _ z_ => by obtain ⟨_, _, _, w_, _⟩ := z_; exact w_.tr) hM ⟨_, _, rfl, hW, Keep.refl⟩ ?_ ?_
        · skip
          rintro x11 u12 s13 k14 _ H23 H22 ⟨w19, w20, rfl, hW, hk15⟩ ex21 h16 hM Nx17 hN18
          replace h_rows := rep_keep hk15 h_rows
          replace h_rows := rep_ext ex21 h_rows
          replace hk15 := keep_ext ex21 hk15
          replace hW := hW.ret0 ex21
          apply rep_gtup h16 rfl
          intro vs24 hv25
          obtain ⟨u26, us27, rfl, h28, hv29⟩ := repL_uncons hv25
          obtain rfl := of_v h28
          obtain ⟨u30, us31, rfl, h32, hv33⟩ := repL_uncons hv29
          obtain rfl := repL_empty hv33
          refine ⟨_, _, rfl, ?_⟩
          refine ⟨_, _, rfl, ?_⟩
          refine ⟨rfl, ?_⟩
          refine ⟨_, rfl, ?_⟩
          refine ⟨ms, _, x11.2, _, rfl, hW.enter0, h32, hM, fun r34 u37 H38 hM e36 h35 => ?_⟩
          replace h_rows := rep_ext e36 h_rows
          replace hk15 := keep_ext e36 hk15
          replace h16 := rep_ext e36 h16
          replace h32 := rep_ext e36 h32
          replace hW := hW.ret0 e36
          obtain rfl := of_v h35
          refine ⟨_, rfl, ?_⟩
          refine ite3 hM (fun hM => ?_) (fun hM => ?_)
          · skip
            exact hM
          · skip
            exact hN18 () _ _ hM ⟨_, _, rfl, hW, hk15⟩
        · skip
          rintro s39 _ H43 hM ⟨w41, w42, rfl, hW, hk40⟩
          replace h_rows := rep_keep hk40 h_rows
          exact hQ () _ _ hM hW.out rep_v
def M_check_parts (x_first : Int) (x_early : (List Int)) (x_rows : (List (Int × Int × Int))) (KM : Unit → Prop) : Prop :=
  (M_check_first x_first fun r1 => (M_check_values x_early fun r6 => (M_check_rows x_rows fun r11 => (if (decide ((200 : Int) < (x_early.length : Int))) = true then False else (if (decide ((24 : Int) < (x_rows.length : Int))) = true then False else (KM ()))))))
def sp_check_parts (A : Ad) : Sp := fun vs H Q _ => ∃ (ms : List Addr) (v_early : V) (v_rows : V) (x_first : Int) (x_early : (List Int)) (x_rows : (List (Int × Int × Int))) (KM : Unit → Prop), vs = [V.int x_first, v_early, v_rows] ∧ Wd ms [] [] H H ∧ rep ms H (D.lst (x_early.map (fun y_ : Int => (D.v (V.int y_))))) v_early ∧ rep ms H (D.lst (x_rows.map (fun y_ : (Int × Int × Int) => (D.tup [(D.v (V.int y_.1)), (D.v (V.int y_.2.1)), (D.v (V.int y_.2.2))])))) v_rows ∧ M_check_parts x_first x_early x_rows KM ∧ ∀ (r : Unit) (u : V) (H1 : Hp), KM r → Ret [] H H1 → rep ms H1 (D.v V.non) u → Q u H1
set_option maxHeartbeats 16000000 in
theorem ok_check_parts {P : Program} {w : World} {K : PySem.W.Frag} {mg : Str → Option Value} {base : Heap} {A : Ad} (T : Txt w K mg A) : FnOk P w K mg base CX0 4 A.a_check_parts A.d_check_parts ["first", "early", "rows"] (sp_check_parts A) := by
  refine T.F_check_parts.ok sc_check_parts (fun vs H Q E h => ?_) (fun cdv A_ outer s_ H_0 vs Q E hr h => ?_)
  · obtain ⟨ms, v_early, v_rows, x_first, x_early, x_rows, KM, rfl, _⟩ := h
    rfl
  · obtain ⟨ms, v_early, v_rows, x_first, x_early, x_rows, KM, rfl, hW, h_early, h_rows, hM, hQ⟩ := h
    unfold M_check_parts at hM
    refine ⟨_, (pss_cons (ps_expr (pe_call (ok_check_first T) (hr.mono (by decide)) (by rfl) T.g_check_first T.F_check_first.kp T.b_check_first .nil pass0 (pa_cons (pv 0) pa_nil))) (pss_cons (ps_expr (pe_call (ok_check_values T) (hr.mono (by decide)) (by rfl) T.g_check_values T.F_check_values.kp T.b_check_values .nil pass0 (pa_cons (pv 1) pa_nil))) (pss_cons (ps_expr (pe_call (ok_check_rows T) (hr.mono (by decide)) (by rfl) T.g_check_rows T.F_check_rows.kp T.b_check_rows .nil pass0 (pa_cons (pv 2) pa_nil))) (pss_cons (ps_if (pt_cmpR op_gt (pe_callB (call_lenK (K := K) rfl) (by rfl) T.z_len PySem.boot_len (pa_cons (pv 1) pa_nil)) (C8.pe_gc (by rfl) T.c_MOST_VALUES) (nomark _)) (pss_one ps_never) pss_nil) (pss_one (ps_if (pt_cmpR op_gt (pe_callB (call_lenK (K := K) rfl) (by rfl) T.z_len PySem.boot_len (pa_cons (pv 2) pa_nil)) (C8.pe_gc (by rfl) T.c_MOST_ROWS) (nomark _)) (pss_one ps_never) pss_nil)))))), ?_⟩
    refine ⟨_, rfl, ?_⟩
    refine ⟨ms, x_first, _, rfl, hW.enter0, hM, fun r1 u4 H5 hM e3 h2 => ?_⟩
    replace h_early := rep_ext e3 h_early
    replace h_rows := rep_ext e3 h_rows
    replace hW := hW.ret0 e3
    obtain rfl := of_v h2
    refine ⟨_, rfl, ?_⟩
    refine ⟨ms, _, x_early, _, rfl, hW.enter0, h_early, hM, fun r6 u9 H10 hM e8 h7 => ?_⟩
    replace h_early := rep_ext e8 h_early
    replace h_rows := rep_ext e8 h_rows
    replace hW := hW.ret0 e8
    obtain rfl := of_v h7
    refine ⟨_, rfl, ?_⟩
    refine ⟨ms, _, x_rows, _, rfl, hW.enter0, h_rows, hM, fun r11 u14 H15 hM e13 h12 => ?_⟩
    replace h_early := rep_ext e13 h_early
    replace h_rows := rep_ext e13 h_rows
    replace hW := hW.ret0 e13
    obtain rfl := of_v h12
    refine ⟨_, rfl, ?_⟩
    apply rep_lenL (e := (fun y_ : Int => (D.v (V.int y_)))) (xs := x_early) h_early
    refine ⟨_, _, rfl, rfl, ?_⟩
    refine ⟨_, rfl, ?_⟩
    refine ite3 hM (fun hM => ?_) (fun hM => ?_)
    · skip
      exact hM
    · skip
      refine ⟨_, rfl, ?_⟩
      apply rep_lenL (e := (fun y_ : (Int × Int × Int) => (D.tup [(D.v (V.int y_.1)), (D.v (V.int y_.2.1)), (D.v (V.int y_.2.2))]))) (xs := x_rows) h_rows
      refine ⟨_, _, rfl, rfl, ?_⟩
      refine ⟨_, rfl, ?_⟩
      refine ite3 hM (fun hM => ?_) (fun hM => ?_)
      · skip
        exact hM
      · skip
        exact hQ () _ _ hM hW.out rep_v
def M_Form_init (x_first : Int) (x_early : (List Int)) (x_rows : (List (Int × Int × Int))) (KM : (Int × List Int × List (Int × Int × Int)) → Prop) : Prop :=
  (M_check_parts x_first x_early x_rows fun r1 => (x_rows.length < 100000 ∧ mapC (fun (x35 : (Int × Int × Int)) (k28 : (Int × Int × Int) → Prop) => (k28 x35)) x_rows [] fun ys49 => (KM (x_first, x_early, ys49))))
def sp_Form_init (A : Ad) : Sp := fun vs H Q _ => ∃ (ms : List Addr) (p_ dx_ : Addr) (v_early : V) (v_rows : V) (x_first : Int) (x_early : (List Int)) (x_rows : (List (Int × Int × Int))) (KM : (Int × List Int × List (Int × Int × Int)) → Prop), vs = [.ref p_, V.int x_first, v_early, v_rows] ∧ Wd ms [] [] H H ∧ p_ ∈ ms ∧ H p_ = some (.ins A.c_Form dx_ []) ∧ rep ms H (D.lst (x_early.map (fun y_ : Int => (D.v (V.int y_))))) v_early ∧ rep ms H (D.lst (x_rows.map (fun y_ : (Int × Int × Int) => (D.tup [(D.v (V.int y_.1)), (D.v (V.int y_.2.1)), (D.v (V.int y_.2.2))])))) v_rows ∧ M_Form_init x_first x_early x_rows KM ∧ ∀ (r : (Int × List Int × List (Int × Int × Int))) (us : List V) (H1 : Hp), KM r → KpI p_ H H1 → H1 p_ = some (.ins A.c_Form dx_ (List.zip ns_Form us)) → ns_Form.length = us.length → repL ms H1 [(D.v (V.int r.1)), (D.lst (r.2.1.map (fun y_ : Int => (D.v (V.int y_))))), (D.lst (r.2.2.map (fun y_ : (Int × Int × Int) => (D.tup [(D.v (V.int y_.1)), (D.v (V.int y_.2.1)), (D.v (V.int y_.2.2))]))))] us → Q .non H1
set_option maxHeartbeats 16000000 in
theorem ok_Form_init {P : Program} {w : World} {K : PySem.W.Frag} {mg : Str → Option Value} {base : Heap} {A : Ad} (T : Txt w K mg A) : FnOk P w K mg base CX0 5 A.a_Form_init A.d_Form_init ["self", "first", "early", "rows"] (sp_Form_init A) := by
  refine T.F_Form_init.ok sc_Form_init (fun vs H Q E h => ?_) (fun cdv A_ outer s_ H_0 vs Q E hr h => ?_)
  · obtain ⟨ms, p_, dx_, v_early, v_rows, x_first, x_early, x_rows, KM, rfl, _⟩ := h
    rfl
  · obtain ⟨ms, p_, dx_, v_early, v_rows, x_first, x_early, x_rows, KM, rfl, hW, pm_, hp, h_early, h_rows, hM, hQ⟩ := h
    unfold M_Form_init at hM
    have hK := ki_refl (p := p_) (H := H_0)
    replace hp : H_0 p_ = some (.ins A.c_Form dx_ (List.zip ([] : List Str) ([] : List V))) := hp
    refine ⟨_, (pss_one (ps_if (PW.pt (pw_and (pt_val (pe_callB (call_isiK (K := K) rfl) (by rfl) T.z_isinstance (by decide +kernel) (pa_cons (pv 2) (pa_cons (pe_glob (v := .ref A.c_Reckoned) (by rfl) T.g_Reckoned rfl) pa_nil)))) (pw_and1 (pt_val (pe_callB (call_isiK (K := K) rfl) (by rfl) T.z_isinstance (by decide +kernel) (pa_cons (pv 3) (pa_cons (pe_glob (v := .ref A.c_Reckoned) (by rfl) T.g_Reckoned rfl) pa_nil))))))) (pss_cons ps_never (pss_cons ps_never (pss_one ps_never))) (pss_cons (ps_expr (pe_call (ok_check_parts T) (hr.mono (by decide)) (by rfl) T.g_check_parts T.F_check_parts.kp T.b_check_parts .nil pass0 (pa_cons (pv 1) (pa_cons (pv 2) (pa_cons (pv 3) pa_nil))))) (pss_cons (ps_fld (pv 0) (pv 1) rfl) (pss_cons (ps_fld (pv 0) (pe_callTy (call_list_ofK (K := K) rfl) (by rfl) T.z_list (by decide +kernel) (pa_cons (pv 2) pa_nil)) rfl) (pss_one (ps_fld (pv 0) (pe_lc (own := [("row", 4)]) (g := gName 4) rfl sc_Form_init.nd (pi_list (pv 3)) (blkOk_by (N := ["self", "first", "early", "rows", "row"]) (sc := defScope s_Form_init) (by decide +kernel)) (fun _ _ _ _ _ => pg_name (i := 4) sc_Form_init.nd rfl (by first | exact Or.inl rfl | exact Or.inr rfl)) (fun _ _ _ _ _ => pts_nil) (fun _ _ _ _ _ => (pe_callTy (call_tuple_ofK (K := K) rfl) (by rfl) T.z_tuple (by decide +kernel) (pa_cons (pv 4) pa_nil)))) rfl))))))), ?_⟩
    refine ⟨_, rfl, ?_⟩
    apply rep_isN2 (d := (D.lst (x_early.map (fun y_ : Int => (D.v (V.int y_)))))) h_early (by rfl) T.in_Reckoned
    refine ⟨_, rfl, ?_⟩
    refine iteF ?_
    refine iteF ?_
    refine ⟨_, rfl, ?_⟩
    refine ⟨_, rfl, ?_⟩
    refine ⟨_, rfl, ?_⟩
    refine ⟨ms, _, _, x_first, x_early, x_rows, _, rfl, hW.enter0, h_early, h_rows, hM, fun r1 u4 H5 hM e3 h2 => ?_⟩
    replace h_early := rep_ext e3 h_early
    replace h_rows := rep_ext e3 h_rows
    replace hp := Rx.Ext.keep e3 hp
    replace hW := hW.ret0 e3
    obtain rfl := of_v h2
    refine ⟨_, rfl, ?_⟩
    refine ⟨_, rfl, p_, A.c_Form, dx_, _, rfl, hp, T.cl_Form, T.na_Form__first, (by first | decide | simp), ?_⟩
    have z6 : putF ("_first" : Str) (V.int x_first) (List.zip ([] : List Str) ([] : List V)) = List.zip [("_first" : Str)] [V.int x_first] := putF_zip (ns := ([] : List Str)) (us := ([] : List V)) rfl (nin_of (by decide +kernel))
    replace h_early := rep_put (o := .ins A.c_Form dx_ (putF ("_first" : Str) (V.int x_first) (List.zip ([] : List Str) ([] : List V)))) pm_ h_early
    replace h_rows := rep_put (o := .ins A.c_Form dx_ (putF ("_first" : Str) (V.int x_first) (List.zip ([] : List Str) ([] : List V)))) pm_ h_rows
    replace hK := ki_put (o := .ins A.c_Form dx_ (putF ("_first" : Str) (V.int x_first) (List.zip ([] : List Str) ([] : List V)))) hK hW
    replace hW := wd_at (p := p_) (o := .ins A.c_Form dx_ (putF ("_first" : Str) (V.int x_first) (List.zip ([] : List Str) ([] : List V)))) hW
    replace hp : upd H5 p_ (.ins A.c_Form dx_ (putF ("_first" : Str) (V.int x_first) (List.zip ([] : List Str) ([] : List V)))) p_ = some (.ins A.c_Form dx_ (putF ("_first" : Str) (V.int x_first) (List.zip ([] : List Str) ([] : List V)))) := upd_same
    generalize upd H5 p_ (.ins A.c_Form dx_ (putF ("_first" : Str) (V.int x_first) (List.zip ([] : List Str) ([] : List V)))) = H7 at *
    rw [z6] at hp
    refine ⟨_, rfl, ?_⟩
    apply rep_listL h_early
    intro ys8 hr9
    intro p10 n11
    have e12 := Rx.Ext.new (H := H7) (o := (HO.lst ys8)) n11
    have hp13 : upd H7 p10 (HO.lst ys8) p10 = some (HO.lst ys8) := upd_same
    generalize upd H7 p10 (HO.lst ys8) = H16 at e12 hp13 ⊢
    have h14 : rep ms H16 (D.lst (x_early.map (fun y_ : Int => (D.v (V.int y_))))) (.ref p10) := rep_lst_mk hW n11 e12 hp13 hr9
    replace h_early := rep_ext e12 h_early
    replace h_rows := rep_ext e12 h_rows
    replace hp := Rx.Ext.keep e12 hp
    replace hW := hW.ret0 e12
    refine ⟨_, rfl, p_, A.c_Form, dx_, _, rfl, hp, T.cl_Form, T.na_Form__early, (by first | decide | simp), ?_⟩
    have z17 : putF ("_early" : Str) ((V.ref p10)) (List.zip [("_first" : Str)] [V.int x_first]) = List.zip [("_first" : Str), ("_early" : Str)] [V.int x_first, (V.ref p10)] := putF_zip (ns := [("_first" : Str)]) (us := [V.int x_first]) rfl (nin_of (by decide +kernel))
    replace h_early := rep_put (o := .ins A.c_Form dx_ (putF ("_early" : Str) ((V.ref p10)) (List.zip [("_first" : Str)] [V.int x_first]))) pm_ h_early
    replace h_rows := rep_put (o := .ins A.c_Form dx_ (putF ("_early" : Str) ((V.ref p10)) (List.zip [("_first" : Str)] [V.int x_first]))) pm_ h_rows
    replace h14 := rep_put (o := .ins A.c_Form dx_ (putF ("_early" : Str) ((V.ref p10)) (List.zip [("_first" : Str)] [V.int x_first]))) pm_ h14
    replace hK := ki_put (o := .ins A.c_Form dx_ (putF ("_early" : Str) ((V.ref p10)) (List.zip [("_first" : Str)] [V.int x_first]))) hK hW
    replace hW := wd_at (p := p_) (o := .ins A.c_Form dx_ (putF ("_early" : Str) ((V.ref p10)) (List.zip [("_first" : Str)] [V.int x_first]))) hW
    replace hp : upd H16 p_ (.ins A.c_Form dx_ (putF ("_early" : Str) ((V.ref p10)) (List.zip [("_first" : Str)] [V.int x_first]))) p_ = some (.ins A.c_Form dx_ (putF ("_early" : Str) ((V.ref p10)) (List.zip [("_first" : Str)] [V.int x_first]))) := upd_same
    generalize upd H16 p_ (.ins A.c_Form dx_ (putF ("_early" : Str) ((V.ref p10)) (List.zip [("_first" : Str)] [V.int x_first]))) = H18 at *
    rw [z17] at hp
    refine ⟨_, rfl, ?_⟩
    apply rep_iter h_rows
    intro a19 xs20 _ an21 hp22 hl23
    refine fun L24 nl25 => ?_
    have nm39 := nm_new hW nl25
    refine lc_listG (L := L24) (fun n_ ys_ h_ => Wd (L24 :: ms) [] [] H18 h_ ∧ Keep (L24 :: ms) H18 h_ ∧ MutO (L24 :: ms) [] H18 h_ L24 (D.lst (ys_.map (fun y_ : (Int × Int × Int) => (D.tup [(D.v (V.int y_.1)), (D.v (V.int y_.2.1)), (D.v (V.int y_.2.2))])))) ∧ ys_.length ≤ n_ ∧ h_ p_ = some (.ins A.c_Form dx_ (List.zip [("_first" : Str), ("_early" : Str)] [V.int x_first, (V.ref p10)]))) (items := x_rows) (e := (fun y_ : (Int × Int × Int) => (D.tup [(D.v (V.int y_.1)), (D.v (V.int y_.2.1)), (D.v (V.int y_.2.2))]))) an21 hp22 hl23 nl25 (fun _ _ _ q_ => q_.2.1) hM ⟨wd_cell hW nl25, keep_cell nl25 Keep.refl, mo_newL (ds := []) hW nl25 repL_nil, Nat.le_refl _, Rx.Ext.keep (Rx.Ext.new nl25) hp⟩ ?_ ?_
    · skip
      rintro x35 u36 n26 ys27 k28 H40 hn ⟨hW, hk29, mu30, ln31, hp⟩ h37 hM Nx34 hN32
      replace h_early := rep_keep hk29 (rep_new nl25 h_early)
      replace h_rows := rep_keep hk29 (rep_new nl25 h_rows)
      replace h14 := rep_keep hk29 (rep_new nl25 h14)
      refine ⟨rfl, ?_⟩
      refine tyes_of ?_
      refine ⟨_, rfl, ?_⟩
      apply rep_tupSame h37
      intro p41 z42 h43
      refine mo_end mu30 hn (by rw [List.length_map]; exact ln31) fun vs44 hr45 => ?_
      have mk47 := mo_setL mu30 (repL_snoc (e := (fun y_ : (Int × Int × Int) => (D.tup [(D.v (V.int y_.1)), (D.v (V.int y_.2.1)), (D.v (V.int y_.2.2))]))) (xs := ys27) (y := x35) hr45 h43)
      replace h_early := rep_put (o := .lst (vs44 ++ [(V.ref p41)])) mu30.im h_early
      replace h_rows := rep_put (o := .lst (vs44 ++ [(V.ref p41)])) mu30.im h_rows
      replace h14 := rep_put (o := .lst (vs44 ++ [(V.ref p41)])) mu30.im h14
      replace hk29 := keep_put (o := .lst (vs44 ++ [(V.ref p41)])) mu30.im hk29
      replace h37 := rep_put (o := .lst (vs44 ++ [(V.ref p41)])) mu30.im h37
      replace h43 := rep_put (o := .lst (vs44 ++ [(V.ref p41)])) mu30.im h43
      replace hp := at_put (o := .lst (vs44 ++ [(V.ref p41)])) hp mu30
      replace hW := wd_put (o := .lst (vs44 ++ [(V.ref p41)])) hW mu30
      replace mu30 := mk47
      generalize upd H40 L24 (.lst (vs44 ++ [(V.ref p41)])) = H48 at *
      replace mu30 : MutO (L24 :: ms) [] H18 H48 L24 (D.lst ((ys27 ++ [x35]).map (fun y_ : (Int × Int × Int) => (D.tup [(D.v (V.int y_.1)), (D.v (V.int y_.2.1)), (D.v (V.int y_.2.2))])))) := mu30
      clear mk47
      exact hN32 x35 _ hM ⟨hW, hk29, mu30, by rw [List.length_append]; exact Nat.add_le_add_right ln31 1, hp⟩
    · skip
      rintro n26 ys49 H50 hM ⟨hW, hk29, mu30, ln31, hp⟩
      replace h_early := rep_keep hk29 (rep_new nl25 h_early)
      replace h_rows := rep_keep hk29 (rep_new nl25 h_rows)
      replace h14 := rep_keep hk29 (rep_new nl25 h14)
      clear hk29 ln31
      have h51 := mo_rep_dr dr_here nm39 mu30
      replace hW := wd_dr dr_here mu30.hp hW
      replace h_early := rep_dr dr_here h_early
      replace h_rows := rep_dr dr_here h_rows
      replace h14 := rep_dr dr_here h14
      clear mu30
      refine ⟨_, rfl, p_, A.c_Form, dx_, _, rfl, hp, T.cl_Form, T.na_Form__rows, (by first | decide | simp), ?_⟩
      have z52 : putF ("_rows" : Str) ((V.ref L24)) (List.zip [("_first" : Str), ("_early" : Str)] [V.int x_first, (V.ref p10)]) = List.zip [("_first" : Str), ("_early" : Str), ("_rows" : Str)] [V.int x_first, (V.ref p10), (V.ref L24)] := putF_zip (ns := [("_first" : Str), ("_early" : Str)]) (us := [V.int x_first, (V.ref p10)]) rfl (nin_of (by decide +kernel))
      replace h_early := rep_put (o := .ins A.c_Form dx_ (putF ("_rows" : Str) ((V.ref L24)) (List.zip [("_first" : Str), ("_early" : Str)] [V.int x_first, (V.ref p10)]))) pm_ h_early
      replace h_rows := rep_put (o := .ins A.c_Form dx_ (putF ("_rows" : Str) ((V.ref L24)) (List.zip [("_first" : Str), ("_early" : Str)] [V.int x_first, (V.ref p10)]))) pm_ h_rows
      replace h14 := rep_put (o := .ins A.c_Form dx_ (putF ("_rows" : Str) ((V.ref L24)) (List.zip [("_first" : Str), ("_early" : Str)] [V.int x_first, (V.ref p10)]))) pm_ h14
      replace h51 := rep_put (o := .ins A.c_Form dx_ (putF ("_rows" : Str) ((V.ref L24)) (List.zip [("_first" : Str), ("_early" : Str)] [V.int x_first, (V.ref p10)]))) pm_ h51
      replace hK := ki_put (o := .ins A.c_Form dx_ (putF ("_rows" : Str) ((V.ref L24)) (List.zip [("_first" : Str), ("_early" : Str)] [V.int x_first, (V.ref p10)]))) hK hW
      replace hW := wd_at (p := p_) (o := .ins A.c_Form dx_ (putF ("_rows" : Str) ((V.ref L24)) (List.zip [("_first" : Str), ("_early" : Str)] [V.int x_first, (V.ref p10)]))) hW
      replace hp : upd H50 p_ (.ins A.c_Form dx_ (putF ("_rows" : Str) ((V.ref L24)) (List.zip [("_first" : Str), ("_early" : Str)] [V.int x_first, (V.ref p10)]))) p_ = some (.ins A.c_Form dx_ (putF ("_rows" : Str) ((V.ref L24)) (List.zip [("_first" : Str), ("_early" : Str)] [V.int x_first, (V.ref p10)]))) := upd_same
      generalize upd H50 p_ (.ins A.c_Form dx_ (putF ("_rows" : Str) ((V.ref L24)) (List.zip [("_first" : Str), ("_early" : Str)] [V.int x_first, (V.ref p10)]))) = H53 at *
      rw [z52] at hp
      exact hQ (x_first, x_early, ys49) [V.int x_first, (V.ref p10), (V.ref L24)] _ hM (ki_wd hK hW) hp rfl (repL_cons rep_v (repL_cons h14 (repL_cons h51 repL_nil)))
theorem make_Form_init {ms ps : List Addr} {cs : List (Addr × List V)} {H0 H : Hp} {A : Ad} {v_early : V} {v_rows : V} {x_first : Int} {x_early : (List Int)} {x_rows : (List (Int × Int × Int))} {KM : (Int × List Int × List (Int × Int × Int)) → Prop} {Q : Addr → Hp → Prop} {E : XK} (hW : Wd ms ps cs H0 H) (h_early : rep ms H (D.lst (x_early.map (fun y_ : Int => (D.v (V.int y_))))) v_early) (h_rows : rep ms H (D.lst (x_rows.map (fun y_ : (Int × Int × Int) => (D.tup [(D.v (V.int y_.1)), (D.v (V.int y_.2.1)), (D.v (V.int y_.2.2))])))) v_rows) (hM : M_Form_init x_first x_early x_rows KM)
    (k : ∀ (x : Addr) (H1 : Hp) (r : (Int × List Int × List (Int × Int × Int))), KM r → Rx.Ext H H1 → rep ms H1 (eForm A r) (.ref x) → Q x H1) :
    ∀ x dx, H x = none → H dx = none → dx ≠ x → sp_Form_init A (.ref x :: ([V.int x_first, v_early, v_rows] ++ [])) (upd (upd H dx (.own x)) x (.ins A.c_Form dx [])) (fun v H2 => v = .non ∧ Q x H2) E := by
  intro x dx nx ndx ne
  exact ⟨x :: ms, x, dx, v_early, v_rows, x_first, x_early, x_rows, KM, rfl, wd_new hW nx ndx, List.mem_cons_self, upd_same, mem_new nx h_early ndx, mem_new nx h_rows ndx, hM, fun r us H1 hr hK hp hl hu => ⟨rfl, k x H1 r hr (ext_new hK nx ndx) (rep_insW hW nx hp hl hu)⟩⟩
def M_form (x_parts_here : (Int × (List Int) × (List (Int × Int × Int)))) (KM : (Int × List Int × List (Int × Int × Int)) → Prop) : Prop :=
  (M_Form_init x_parts_here.1 x_parts_here.2.1 x_parts_here.2.2 fun r10 => (KM r10))
def sp_form (A : Ad) : Sp := fun vs H Q _ => ∃ (ms : List Addr) (v_parts_here : V) (x_parts_here : (Int × (List Int) × (List (Int × Int × Int)))) (KM : (Int × List Int × List (Int × Int × Int)) → Prop), vs = [v_parts_here] ∧ Wd ms [] [] H H ∧ rep ms H (D.tup [(D.v (V.int x_parts_here.1)), (D.lst (x_parts_here.2.1.map (fun y_ : Int => (D.v (V.int y_))))), (D.lst (x_parts_here.2.2.map (fun y_ : (Int × Int × Int) => (D.tup [(D.v (V.int y_.1)), (D.v (V.int y_.2.1)), (D.v (V.int y_.2.2))]))))]) v_parts_here ∧ M_form x_parts_here KM ∧ ∀ (r : (Int × List Int × List (Int × Int × Int))) (u : V) (H1 : Hp), KM r → Ret [] H H1 → rep ms H1 (eForm A r) u → Q u H1
set_option maxHeartbeats 16000000 in
theorem ok_form {P : Program} {w : World} {K : PySem.W.Frag} {mg : Str → Option Value} {base : Heap} {A : Ad} (T : Txt w K mg A) : FnOk P w K mg base CX0 7 A.a_form A.d_form ["_law_parts_here"] (sp_form A) := by
  refine T.F_form.ok sc_form (fun vs H Q E h => ?_) (fun cdv A_ outer s_ H_0 vs Q E hr h => ?_)
  · obtain ⟨ms, v_parts_here, x_parts_here, KM, rfl, _⟩ := h
    rfl
  · obtain ⟨ms, v_parts_here, x_parts_here, KM, rfl, hW, h_parts_here, hM, hQ⟩ := h
    unfold M_form at hM
    refine ⟨_, (pss_one (ps_ret (pe_make T.mk_Form (ok_Form_init T) (hr.mono (by decide)) (by rfl) T.g_Form T.b_Form_init .nil pass0 (pa_cons (pe_ix (ix_tupK (K := K) rfl) (pv 0) pe_int (fun _ _ => rfl)) (pa_cons (pe_ix (ix_tupK (K := K) rfl) (pv 0) pe_int (fun _ _ => rfl)) (pa_cons (pe_ix (ix_tupK (K := K) rfl) (pv 0) pe_int (fun _ _ => rfl)) pa_nil)))))), ?_⟩
    refine ⟨_, rfl, ?_⟩
    apply rep_ixT 0 h_parts_here rfl rfl
    intro u2 h1
    obtain rfl := of_v h1
    refine ⟨_, rfl, ?_⟩
    apply rep_ixT 1 h_parts_here rfl rfl
    intro u4 h3
    refine ⟨_, rfl, ?_⟩
    apply rep_ixT 2 h_parts_here rfl rfl
    intro u6 h5
    conv => whnf
    apply make_Form_init (ms := ms) hW h3 h5 hM
    intro p7 H11 r10 hM e9 h8
    replace h_parts_here := rep_ext e9 h_parts_here
    replace h3 := rep_ext e9 h3
    replace h5 := rep_ext e9 h5
    replace hW := hW.ret0 e9
    exact hQ r10 _ _ hM hW.out h8
def M_unlike (x_mine : (Int × (List Int) × (List (Int × Int × Int)))) (x_theirs : (Int × (List Int) × (List (Int × Int × Int)))) (KM : (Option Int) → Prop) : Prop :=
  (CMulW ((3 : Int) * (x_mine.2.2.length : Int)) (x_theirs.2.2.length : Int) ∧ (forC (fun (x18 : Int) (s20 : Unit) (k21 : Unit → Prop) => (M_valueL x_mine x18 fun r28 => (M_valueL x_theirs x18 fun r33 => (if (!(decide (V.int r28 = V.int r33))) = true then (KM (some x18)) else (k21 ()))))) (rangeI (if x_theirs.1 > x_mine.1 then x_theirs.1 else x_mine.1) ((max3 (if x_theirs.1 > x_mine.1 then x_theirs.1 else x_mine.1) (x_mine.1 + (x_mine.2.1.length : Int)) (x_theirs.1 + (x_theirs.2.1.length : Int))) + (((3 : Int) * (x_mine.2.2.length : Int)) * (x_theirs.2.2.length : Int)))) () fun s38 => (KM none)))
def sp_unlike (A : Ad) : Sp := fun vs H Q _ => ∃ (ms : List Addr) (v_mine : V) (v_theirs : V) (x_mine : (Int × (List Int) × (List (Int × Int × Int)))) (x_theirs : (Int × (List Int) × (List (Int × Int × Int)))) (KM : (Option Int) → Prop), vs = [v_mine, v_theirs] ∧ Wd ms [] [] H H ∧ rep ms H (D.tup [(D.v (V.int x_mine.1)), (D.lst (x_mine.2.1.map (fun y_ : Int => (D.v (V.int y_))))), (D.lst (x_mine.2.2.map (fun y_ : (Int × Int × Int) => (D.tup [(D.v (V.int y_.1)), (D.v (V.int y_.2.1)), (D.v (V.int y_.2.2))]))))]) v_mine ∧ rep ms H (D.tup [(D.v (V.int x_theirs.1)), (D.lst (x_theirs.2.1.map (fun y_ : Int => (D.v (V.int y_))))), (D.lst (x_theirs.2.2.map (fun y_ : (Int × Int × Int) => (D.tup [(D.v (V.int y_.1)), (D.v (V.int y_.2.1)), (D.v (V.int y_.2.2))]))))]) v_theirs ∧ M_unlike x_mine x_theirs KM ∧ ∀ (r : (Option Int)) (u : V) (H1 : Hp), KM r → Ret [] H H1 → rep ms H1 (encO (fun y_ : Int => (D.v (V.int y_))) r) u → Q u H1
set_option maxHeartbeats 16000000 in
theorem ok_unlike {P : Program} {w : World} {K : PySem.W.Frag} {mg : Str → Option Value} {base : Heap} {A : Ad} (T : Txt w K mg A) : FnOk P w K mg base CX0 2 A.a_unlike A.d_unlike ["_law_mine", "_law_theirs"] (sp_unlike A) := by
  refine T.F_unlike.ok sc_unlike (fun vs H Q E h => ?_) (fun cdv A_ outer s_ H_0 vs Q E hr h => ?_)
  · obtain ⟨ms, v_mine, v_theirs, x_mine, x_theirs, KM, rfl, _⟩ := h
    rfl
  · obtain ⟨ms, v_mine, v_theirs, x_mine, x_theirs, KM, rfl, hW, h_mine, h_theirs, hM, hQ⟩ := h
    unfold M_unlike at hM
    refine ⟨_, (pss_cons (ps_set (i := 2) sc_unlike.nd rfl (by first | exact Or.inl rfl | exact Or.inr rfl) (pe_callB (call_max2 rfl) (by rfl) T.z_max (by decide +kernel) (pa_cons (pe_ix (ix_tupK (K := K) rfl) (pv 0) pe_int (fun _ _ => rfl)) (pa_cons (pe_ix (ix_tupK (K := K) rfl) (pv 1) pe_int (fun _ _ => rfl)) pa_nil)))) (pss_cons (ps_set (i := 3) sc_unlike.nd rfl (by first | exact Or.inl rfl | exact Or.inr rfl) (pe_op op_add (pe_callB (call_max3Nu rfl) (by rfl) T.z_max (by decide +kernel) (pa_cons (pv 2) (pa_cons (pe_op op_add (pe_ix (ix_tupK (K := K) rfl) (pv 0) pe_int (fun _ _ => rfl)) (pe_callB (call_lenK (K := K) rfl) (by rfl) T.z_len PySem.boot_len (pa_cons (pe_ix (ix_tupK (K := K) rfl) (pv 0) pe_int (fun _ _ => rfl)) pa_nil))) (pa_cons (pe_op op_add (pe_ix (ix_tupK (K := K) rfl) (pv 1) pe_int (fun _ _ => rfl)) (pe_callB (call_lenK (K := K) rfl) (by rfl) T.z_len PySem.boot_len (pa_cons (pe_ix (ix_tupK (K := K) rfl) (pv 1) pe_int (fun _ _ => rfl)) pa_nil))) pa_nil)))) (pe_op op_mulW (pe_op op_mul pe_int (pe_callB (call_lenK (K := K) rfl) (by rfl) T.z_len PySem.boot_len (pa_cons (pe_ix (ix_tupK (K := K) rfl) (pv 0) pe_int (fun _ _ => rfl)) pa_nil))) (pe_callB (call_lenK (K := K) rfl) (by rfl) T.z_len PySem.boot_len (pa_cons (pe_ix (ix_tupK (K := K) rfl) (pv 1) pe_int (fun _ _ => rfl)) pa_nil))))) (pss_cons (ps_for PassesOwn.never rfl (pi_rangeW2 (by rfl) T.z_range (pa_cons (pv 2) (pa_cons (pv 3) pa_nil))) (pg_name (i := 4) sc_unlike.nd rfl (by first | exact Or.inl rfl | exact Or.inr rfl)) (pss_one (ps_if (pt_cmpR op_ne (pe_call (ok_valueL T) (hr.mono (by decide)) (by rfl) T.g_valueL T.F_valueL.kp T.b_valueL .nil pass0 (pa_cons (pv 0) (pa_cons (pv 4) pa_nil))) (pe_call (ok_valueL T) (hr.mono (by decide)) (by rfl) T.g_valueL T.F_valueL.kp T.b_valueL .nil pass0 (pa_cons (pv 1) (pa_cons (pv 4) pa_nil))) (nomark _)) (pss_one (ps_ret (pv 4))) pss_nil))) (pss_one (ps_ret pe_non))))), ?_⟩
    refine ⟨_, rfl, ?_⟩
    apply rep_ixT 0 h_mine rfl rfl
    intro u2 h1
    obtain rfl := of_v h1
    refine ⟨_, rfl, ?_⟩
    apply rep_ixT 0 h_theirs rfl rfl
    intro u4 h3
    obtain rfl := of_v h3
    refine ⟨_, _, rfl, ?_⟩
    refine ⟨_, rfl, ?_⟩
    refine ⟨_, rfl, ?_⟩
    apply rep_ixT 0 h_mine rfl rfl
    intro u6 h5
    obtain rfl := of_v h5
    refine ⟨_, rfl, ?_⟩
    apply rep_ixT 1 h_mine rfl rfl
    intro u8 h7
    apply rep_lenL (e := (fun y_ : Int => (D.v (V.int y_)))) (xs := x_mine.2.1) h7
    refine ⟨_, _, rfl, rfl, ?_⟩
    refine ⟨_, rfl, ?_⟩
    apply rep_ixT 0 h_theirs rfl rfl
    intro u10 h9
    obtain rfl := of_v h9
    refine ⟨_, rfl, ?_⟩
    apply rep_ixT 1 h_theirs rfl rfl
    intro u12 h11
    apply rep_lenL (e := (fun y_ : Int => (D.v (V.int y_)))) (xs := x_theirs.2.1) h11
    refine ⟨_, _, rfl, rfl, ?_⟩
    refine ⟨_, _, _, _, rfl, max3_int (if x_theirs.1 > x_mine.1 then x_theirs.1 else x_mine.1) (x_mine.1 + (x_mine.2.1.length : Int)) (x_theirs.1 + (x_theirs.2.1.length : Int)), ?_⟩
    refine ⟨_, rfl, ?_⟩
    apply rep_ixT 2 h_mine rfl rfl
    intro u14 h13
    apply rep_lenL (e := (fun y_ : (Int × Int × Int) => (D.tup [(D.v (V.int y_.1)), (D.v (V.int y_.2.1)), (D.v (V.int y_.2.2))]))) (xs := x_mine.2.2) h13
    refine ⟨_, _, rfl, rfl, .inl ⟨by decide, by decide⟩, ?_⟩
    refine ⟨_, rfl, ?_⟩
    apply rep_ixT 2 h_theirs rfl rfl
    intro u16 h15
    apply rep_lenL (e := (fun y_ : (Int × Int × Int) => (D.tup [(D.v (V.int y_.1)), (D.v (V.int y_.2.1)), (D.v (V.int y_.2.2))]))) (xs := x_theirs.2.2) h15
    obtain ⟨g17, hM⟩ := hM
    refine ⟨_, _, rfl, rfl, g17, ?_⟩
    refine ⟨_, _, rfl, rfl, ?_⟩
    refine ⟨_, rfl, ?_⟩
    refine ⟨_, rfl, ?_⟩
    refine ⟨_, _, rfl, ?_⟩
    refine for_rangeG (S := Unit) (lo := (if x_theirs.1 > x_mine.1 then x_theirs.1 else x_mine.1)) (hi := ((max3 (if x_theirs.1 > x_mine.1 then x_theirs.1 else x_mine.1) (x_mine.1 + (x_mine.2.1.length : Int)) (x_theirs.1 + (x_theirs.2.1.length : Int))) + (((3 : Int) * (x_mine.2.2.length : Int)) * (x_theirs.2.2.length : Int)))) (N := Int.toNat (((max3 (if x_theirs.1 > x_mine.1 then x_theirs.1 else x_mine.1) (x_mine.1 + (x_mine.2.1.length : Int)) (x_theirs.1 + (x_theirs.2.1.length : Int))) + (((3 : Int) * (x_mine.2.2.length : Int)) * (x_theirs.2.2.length : Int))) - (if x_theirs.1 > x_mine.1 then x_theirs.1 else x_mine.1))) (fun (s : Unit) σ_ h_ => ∃ (w_0 : Option V), σ_ = [some v_mine, some v_theirs, some (V.int (if x_theirs.1 > x_mine.1 then x_theirs.1 else x_mine.1)), some (V.int ((max3 (if x_theirs.1 > x_mine.1 then x_theirs.1 else x_mine.1) (x_mine.1 + (x_mine.2.1.length : Int)) (x_theirs.1 + (x_theirs.2.1.length : Int))) + (((3 : Int) * (x_mine.2.2.length : Int)) * (x_theirs.2.2.length : Int)))), w_0] ∧ Wd ms [] [] H_0 h_ ∧ Keep ms H_0 h_) () (by simp) hM ⟨_, rfl, hW, Keep.refl⟩ ?_ ?_
    · skip
      rintro x18 s20 k21 _ H27 ⟨w26, rfl, hW, hk22⟩ hM Nx24 hN25
      replace h_mine := rep_keep hk22 h_mine
      replace h_theirs := rep_keep hk22 h_theirs
      replace h7 := rep_keep hk22 h7
      replace h11 := rep_keep hk22 h11
      replace h13 := rep_keep hk22 h13
      replace h15 := rep_keep hk22 h15
      refine ⟨_, rfl, ?_⟩
      refine ⟨_, rfl, ?_⟩
      refine ⟨ms, _, x_mine, x18, _, rfl, hW.enter0, h_mine, hM, fun r28 u31 H32 hM e30 h29 => ?_⟩
      replace h_mine := rep_ext e30 h_mine
      replace h_theirs := rep_ext e30 h_theirs
      replace h7 := rep_ext e30 h7
      replace h11 := rep_ext e30 h11
      replace h13 := rep_ext e30 h13
      replace h15 := rep_ext e30 h15
      replace hk22 := keep_ext e30 hk22
      replace hW := hW.ret0 e30
      obtain rfl := of_v h29
      refine ⟨_, rfl, ?_⟩
      refine ⟨_, rfl, ?_⟩
      refine ⟨ms, _, x_theirs, x18, _, rfl, hW.enter0, h_theirs, hM, fun r33 u36 H37 hM e35 h34 => ?_⟩
      replace h_mine := rep_ext e35 h_mine
      replace h_theirs := rep_ext e35 h_theirs
      replace h7 := rep_ext e35 h7
      replace h11 := rep_ext e35 h11
      replace h13 := rep_ext e35 h13
      replace h15 := rep_ext e35 h15
      replace hk22 := keep_ext e35 hk22
      replace hW := hW.ret0 e35
      obtain rfl := of_v h34
      refine ⟨rfl, ?_⟩
      refine ⟨_, rfl, ?_⟩
      refine ite3 hM (fun hM => ?_) (fun hM => ?_)
      · skip
        refine ⟨_, rfl, ?_⟩
        exact hQ (some x18) _ _ hM hW.out rep_v
      · skip
        exact hN25 () _ _ hM ⟨_, rfl, hW, hk22⟩
    · skip
      rintro s38 _ H41 hM ⟨w40, rfl, hW, hk39⟩
      replace h_mine := rep_keep hk39 h_mine
      replace h_theirs := rep_keep hk39 h_theirs
      replace h7 := rep_keep hk39 h7
      replace h11 := rep_keep hk39 h11
      replace h13 := rep_keep hk39 h13
      replace h15 := rep_keep hk39 h15
      exact hQ none _ _ hM hW.out rep_v
def M_Form_first (x_self : (Int × List Int × List (Int × Int × Int))) (KM : Int → Prop) : Prop :=
  (KM x_self.1)
def sp_Form_first (A : Ad) : Sp := fun vs H Q _ => ∃ (ms : List Addr) (v_self : V) (x_self : (Int × List Int × List (Int × Int × Int))) (KM : Int → Prop), vs = [v_self] ∧ Wd ms [] [] H H ∧ rep ms H (eForm A x_self) v_self ∧ M_Form_first x_self KM ∧ ∀ (r : Int) (u : V) (H1 : Hp), KM r → Ret [] H H1 → rep ms H1 (D.v (V.int r)) u → Q u H1
set_option maxHeartbeats 16000000 in
theorem ok_Form_first {P : Program} {w : World} {K : PySem.W.Frag} {mg : Str → Option Value} {base : Heap} {A : Ad} (T : Txt w K mg A) : FnOk P w K mg base CX0 1 A.a_Form_first A.d_Form_first ["self"] (sp_Form_first A) := by
  refine T.F_Form_first.ok sc_Form_first (fun vs H Q E h => ?_) (fun cdv A_ outer s_ H_0 vs Q E hr h => ?_)
  · obtain ⟨ms, v_self, x_self, KM, rfl, _⟩ := h
    rfl
  · obtain ⟨ms, v_self, x_self, KM, rfl, hW, h_self, hM, hQ⟩ := h
    unfold M_Form_first at hM
    refine ⟨_, (pss_one (ps_ret (pe_fld (pv 0) rfl))), ?_⟩
    refine ⟨_, rfl, ?_⟩
    apply rep_fld (j := 0) h_self T.cl_Form T.na_Form__first nd_Form rfl rfl
    intro u2 h1
    obtain rfl := of_v h1
    exact hQ x_self.1 _ _ hM hW.out rep_v
def M_Form_begin (x_self : (Int × List Int × List (Int × Int × Int))) (KM : Int → Prop) : Prop :=
  (KM (x_self.1 + (x_self.2.1.length : Int)))
def sp_Form_begin (A : Ad) : Sp := fun vs H Q _ => ∃ (ms : List Addr) (v_self : V) (x_self : (Int × List Int × List (Int × Int × Int))) (KM : Int → Prop), vs = [v_self] ∧ Wd ms [] [] H H ∧ rep ms H (eForm A x_self) v_self ∧ M_Form_begin x_self KM ∧ ∀ (r : Int) (u : V) (H1 : Hp), KM r → Ret [] H H1 → rep ms H1 (D.v (V.int r)) u → Q u H1
set_option maxHeartbeats 16000000 in
theorem ok_Form_begin {P : Program} {w : World} {K : PySem.W.Frag} {mg : Str → Option Value} {base : Heap} {A : Ad} (T : Txt w K mg A) : FnOk P w K mg base CX0 1 A.a_Form_begin A.d_Form_begin ["self"] (sp_Form_begin A) := by
  refine T.F_Form_begin.ok sc_Form_begin (fun vs H Q E h => ?_) (fun cdv A_ outer s_ H_0 vs Q E hr h => ?_)
  · obtain ⟨ms, v_self, x_self, KM, rfl, _⟩ := h
    rfl
  · obtain ⟨ms, v_self, x_self, KM, rfl, hW, h_self, hM, hQ⟩ := h
    unfold M_Form_begin at hM
    refine ⟨_, (pss_one (ps_ret (pe_op op_add (pe_fld (pv 0) rfl) (pe_callB (call_lenK (K := K) rfl) (by rfl) T.z_len PySem.boot_len (pa_cons (pe_fld (pv 0) rfl) pa_nil))))), ?_⟩
    refine ⟨_, rfl, ?_⟩
    apply rep_fld (j := 0) h_self T.cl_Form T.na_Form__first nd_Form rfl rfl
    intro u2 h1
    obtain rfl := of_v h1
    refine ⟨_, rfl, ?_⟩
    apply rep_fld (j := 1) h_self T.cl_Form T.na_Form__early nd_Form rfl rfl
    intro u4 h3
    apply rep_lenL (e := (fun y_ : Int => (D.v (V.int y_)))) (xs := x_self.2.1) h3
    refine ⟨_, _, rfl, rfl, ?_⟩
    exact hQ (x_self.1 + (x_self.2.1.length : Int)) _ _ hM hW.out rep_v
def M_Form_period (x_self : (Int × List Int × List (Int × Int × Int))) (KM : Int → Prop) : Prop :=
  (KM (x_self.2.2.length : Int))
def sp_Form_period (A : Ad) : Sp := fun vs H Q _ => ∃ (ms : List Addr) (v_self : V) (x_self : (Int × List Int × List (Int × Int × Int))) (KM : Int → Prop), vs = [v_self] ∧ Wd ms [] [] H H ∧ rep ms H (eForm A x_self) v_self ∧ M_Form_period x_self KM ∧ ∀ (r : Int) (u : V) (H1 : Hp), KM r → Ret [] H H1 → rep ms H1 (D.v (V.int r)) u → Q u H1
set_option maxHeartbeats 16000000 in
theorem ok_Form_period {P : Program} {w : World} {K : PySem.W.Frag} {mg : Str → Option Value} {base : Heap} {A : Ad} (T : Txt w K mg A) : FnOk P w K mg base CX0 1 A.a_Form_period A.d_Form_period ["self"] (sp_Form_period A) := by
  refine T.F_Form_period.ok sc_Form_period (fun vs H Q E h => ?_) (fun cdv A_ outer s_ H_0 vs Q E hr h => ?_)
  · obtain ⟨ms, v_self, x_self, KM, rfl, _⟩ := h
    rfl
  · obtain ⟨ms, v_self, x_self, KM, rfl, hW, h_self, hM, hQ⟩ := h
    unfold M_Form_period at hM
    refine ⟨_, (pss_one (ps_ret (pe_callB (call_lenK (K := K) rfl) (by rfl) T.z_len PySem.boot_len (pa_cons (pe_fld (pv 0) rfl) pa_nil)))), ?_⟩
    refine ⟨_, rfl, ?_⟩
    apply rep_fld (j := 2) h_self T.cl_Form T.na_Form__rows nd_Form rfl rfl
    intro u2 h1
    apply rep_lenL (e := (fun y_ : (Int × Int × Int) => (D.tup [(D.v (V.int y_.1)), (D.v (V.int y_.2.1)), (D.v (V.int y_.2.2))]))) (xs := x_self.2.2) h1
    exact hQ (x_self.2.2.length : Int) _ _ hM hW.out rep_v
def M_row_value (x_row : (Int × Int × Int)) (x_turn : Int) (KM : Int → Prop) : Prop :=
  (CMulW x_row.1 x_turn ∧ (CMulW ((x_row.1 * x_turn) + x_row.2.1) x_turn ∧ (KM ((((x_row.1 * x_turn) + x_row.2.1) * x_turn) + x_row.2.2))))
def sp_row_value (A : Ad) : Sp := fun vs H Q _ => ∃ (ms : List Addr) (v_row : V) (x_row : (Int × Int × Int)) (x_turn : Int) (KM : Int → Prop), vs = [v_row, V.int x_turn] ∧ Wd ms [] [] H H ∧ rep ms H (D.tup [(D.v (V.int x_row.1)), (D.v (V.int x_row.2.1)), (D.v (V.int x_row.2.2))]) v_row ∧ M_row_value x_row x_turn KM ∧ ∀ (r : Int) (u : V) (H1 : Hp), KM r → Ret [] H H1 → rep ms H1 (D.v (V.int r)) u → Q u H1
set_option maxHeartbeats 16000000 in
theorem ok_row_value {P : Program} {w : World} {K : PySem.W.Frag} {mg : Str → Option Value} {base : Heap} {A : Ad} (T : Txt w K mg A) : FnOk P w K mg base CX0 1 A.a_row_value A.d_row_value ["row", "turn"] (sp_row_value A) := by
  refine T.F_row_value.ok sc_row_value (fun vs H Q E h => ?_) (fun cdv A_ outer s_ H_0 vs Q E hr h => ?_)
  · obtain ⟨ms, v_row, x_row, x_turn, KM, rfl, _⟩ := h
    rfl
  · obtain ⟨ms, v_row, x_row, x_turn, KM, rfl, hW, h_row, hM, hQ⟩ := h
    unfold M_row_value at hM
    refine ⟨_, (pss_cons (ps_asg (pv 0) (pg_tup rfl (pgs_cons (pg_name (i := 2) sc_row_value.nd rfl (by first | exact Or.inl rfl | exact Or.inr rfl)) (pgs_cons (pg_name (i := 3) sc_row_value.nd rfl (by first | exact Or.inl rfl | exact Or.inr rfl)) (pgs_cons (pg_name (i := 4) sc_row_value.nd rfl (by first | exact Or.inl rfl | exact Or.inr rfl)) pgs_nil))))) (pss_one (ps_ret (pe_op op_add (pe_op op_mulW (pe_op op_add (pe_op op_mulW (pv 2) (pv 1)) (pv 3)) (pv 1)) (pv 4))))), ?_⟩
    refine ⟨_, rfl, ?_⟩
    apply rep_gtup h_row rfl
    intro vs1 hv2
    obtain ⟨u3, us4, rfl, h5, hv6⟩ := repL_uncons hv2
    obtain rfl := of_v h5
    obtain ⟨u7, us8, rfl, h9, hv10⟩ := repL_uncons hv6
    obtain rfl := of_v h9
    obtain ⟨u11, us12, rfl, h13, hv14⟩ := repL_uncons hv10
    obtain rfl := of_v h13
    obtain rfl := repL_empty hv14
    refine ⟨_, _, rfl, ?_⟩
    refine ⟨_, _, rfl, ?_⟩
    refine ⟨_, _, rfl, ?_⟩
    refine ⟨rfl, ?_⟩
    refine ⟨_, rfl, ?_⟩
    refine ⟨_, rfl, ?_⟩
    obtain ⟨g15, hM⟩ := hM
    refine ⟨_, _, rfl, rfl, g15, ?_⟩
    refine ⟨_, rfl, ?_⟩
    refine ⟨_, _, rfl, rfl, ?_⟩
    refine ⟨_, rfl, ?_⟩
    obtain ⟨g16, hM⟩ := hM
    refine ⟨_, _, rfl, rfl, g16, ?_⟩
    refine ⟨_, rfl, ?_⟩
    refine ⟨_, _, rfl, rfl, ?_⟩
    exact hQ ((((x_row.1 * x_turn) + x_row.2.1) * x_turn) + x_row.2.2) _ _ hM hW.out rep_v
def M_place_value (x_rows : (List (Int × Int × Int))) (x_place : Int) (KM : Int → Prop) : Prop :=
  (CDiv x_place (x_rows.length : Int) ∧ (0 ≤ (x_place % (x_rows.length : Int)) ∧ ∃ g19 : Int.toNat (x_place % (x_rows.length : Int)) < x_rows.length, ∀ x21, x21 = x_rows[Int.toNat (x_place % (x_rows.length : Int))]'g19 → (M_row_value x21 (x_place / (x_rows.length : Int)) fun r23 => (KM r23))))
def sp_place_value (A : Ad) : Sp := fun vs H Q _ => ∃ (ms : List Addr) (v_rows : V) (x_rows : (List (Int × Int × Int))) (x_place : Int) (KM : Int → Prop), vs = [v_rows, V.int x_place] ∧ Wd ms [] [] H H ∧ rep ms H (D.lst (x_rows.map (fun y_ : (Int × Int × Int) => (D.tup [(D.v (V.int y_.1)), (D.v (V.int y_.2.1)), (D.v (V.int y_.2.2))])))) v_rows ∧ M_place_value x_rows x_place KM ∧ ∀ (r : Int) (u : V) (H1 : Hp), KM r → Ret [] H H1 → rep ms H1 (D.v (V.int r)) u → Q u H1
set_option maxHeartbeats 16000000 in
theorem ok_place_value {P : Program} {w : World} {K : PySem.W.Frag} {mg : Str → Option Value} {base : Heap} {A : Ad} (T : Txt w K mg A) : FnOk P w K mg base CX0 2 A.a_place_value A.d_place_value ["rows", "place"] (sp_place_value A) := by
  refine T.F_place_value.ok sc_place_value (fun vs H Q E h => ?_) (fun cdv A_ outer s_ H_0 vs Q E hr h => ?_)
  · obtain ⟨ms, v_rows, x_rows, x_place, KM, rfl, _⟩ := h
    rfl
  · obtain ⟨ms, v_rows, x_rows, x_place, KM, rfl, hW, h_rows, hM, hQ⟩ := h
    unfold M_place_value at hM
    refine ⟨_, (pss_cons (ps_asg (pe_callB call_divmod (by rfl) T.z_divmod (by decide +kernel) (pa_cons (pv 1) (pa_cons (pe_callB (call_lenK (K := K) rfl) (by rfl) T.z_len PySem.boot_len (pa_cons (pv 0) pa_nil)) pa_nil))) (pg_tup rfl (pgs_cons (pg_name (i := 2) sc_place_value.nd rfl (by first | exact Or.inl rfl | exact Or.inr rfl)) (pgs_cons (pg_name (i := 3) sc_place_value.nd rfl (by first | exact Or.inl rfl | exact Or.inr rfl)) pgs_nil)))) (pss_one (ps_ret (pe_call (ok_row_value T) (hr.mono (by decide)) (by rfl) T.g_row_value T.F_row_value.kp T.b_row_value .nil pass0 (pa_cons (pe_ix (ix_listK (K := K) rfl) (pv 0) (pv 3) (fun _ _ => rfl)) (pa_cons (pv 2) pa_nil)))))), ?_⟩
    refine ⟨_, rfl, ?_⟩
    refine ⟨_, rfl, ?_⟩
    apply rep_lenL (e := (fun y_ : (Int × Int × Int) => (D.tup [(D.v (V.int y_.1)), (D.v (V.int y_.2.1)), (D.v (V.int y_.2.2))]))) (xs := x_rows) h_rows
    obtain ⟨g1, hM⟩ := hM
    refine ⟨_, _, rfl, g1, ?_⟩
    intro p2 n6
    have e3 := Rx.Ext.new (H := H_0) (o := (HO.tup [V.int (x_place / (x_rows.length : Int)), V.int (x_place % (x_rows.length : Int))])) n6
    have hp4 : upd H_0 p2 (HO.tup [V.int (x_place / (x_rows.length : Int)), V.int (x_place % (x_rows.length : Int))]) p2 = some (HO.tup [V.int (x_place / (x_rows.length : Int)), V.int (x_place % (x_rows.length : Int))]) := upd_same
    generalize upd H_0 p2 (HO.tup [V.int (x_place / (x_rows.length : Int)), V.int (x_place % (x_rows.length : Int))]) = H7 at e3 hp4 ⊢
    have h5 : rep ms _ (D.tup [D.v (V.int (x_place / (x_rows.length : Int))), D.v (V.int (x_place % (x_rows.length : Int)))]) (.ref p2) := rep_tup_mk hW n6 e3 hp4 (repL_cons rep_v (repL_cons rep_v repL_nil))
    replace h_rows := rep_ext e3 h_rows
    replace hW := hW.ret0 e3
    apply rep_gtup h5 rfl
    intro vs8 hv9
    obtain ⟨u10, us11, rfl, h12, hv13⟩ := repL_uncons hv9
    obtain rfl := of_v h12
    obtain ⟨u14, us15, rfl, h16, hv17⟩ := repL_uncons hv13
    obtain rfl := of_v h16
    obtain rfl := repL_empty hv17
    refine ⟨_, _, rfl, ?_⟩
    refine ⟨_, _, rfl, ?_⟩
    refine ⟨rfl, ?_⟩
    refine ⟨_, rfl, ?_⟩
    refine ⟨_, rfl, ?_⟩
    obtain ⟨g18, g19, hM⟩ := hM
    apply rep_ixL (e := (fun y_ : (Int × Int × Int) => (D.tup [(D.v (V.int y_.1)), (D.v (V.int y_.2.1)), (D.v (V.int y_.2.2))]))) (xs := x_rows) h_rows g18 g19
    intro u22 h20
    obtain ⟨x21, x21e⟩ : ∃ x_, x_ = x_rows[Int.toNat (x_place % (x_rows.length : Int))]'g19 := ⟨_, rfl⟩
    rw [← x21e] at h20
    replace hM := hM x21 x21e
    refine ⟨_, rfl, ?_⟩
    refine ⟨ms, _, x21, (x_place / (x_rows.length : Int)), _, rfl, hW.enter0, h20, hM, fun r23 u26 H27 hM e25 h24 => ?_⟩
    replace h_rows := rep_ext e25 h_rows
    replace h5 := rep_ext e25 h5
    replace h20 := rep_ext e25 h20
    replace hW := hW.ret0 e25
    obtain rfl := of_v h24
    exact hQ r23 _ _ hM hW.out rep_v
def M_value (x_form : (Int × List Int × List (Int × Int × Int))) (x_place : Int) (KM : Int → Prop) : Prop :=
  (M_Form_begin x_form fun r2 => (if (decide (x_place < r2)) = true then (0 ≤ (x_place - x_form.1) ∧ ∃ g12 : Int.toNat (x_place - x_form.1) < x_form.2.1.length, ∀ x14, x14 = x_form.2.1[Int.toNat (x_place - x_form.1)]'g12 → (KM x14)) else (M_place_value x_form.2.2 x_place fun r18 => (KM r18))))
def sp_value (A : Ad) : Sp := fun vs H Q _ => ∃ (ms : List Addr) (v_form : V) (x_form : (Int × List Int × List (Int × Int × Int))) (x_place : Int) (KM : Int → Prop), vs = [v_form, V.int x_place] ∧ Wd ms [] [] H H ∧ rep ms H (eForm A x_form) v_form ∧ M_value x_form x_place KM ∧ ∀ (r : Int) (u : V) (H1 : Hp), KM r → Ret [] H H1 → rep ms H1 (D.v (V.int r)) u → Q u H1
set_option maxHeartbeats 16000000 in
theorem ok_value {P : Program} {w : World} {K : PySem.W.Frag} {mg : Str → Option Value} {base : Heap} {A : Ad} (T : Txt w K mg A) : FnOk P w K mg base CX0 3 A.a_value A.d_value ["form", "place"] (sp_value A) := by
  refine T.F_value.ok sc_value (fun vs H Q E h => ?_) (fun cdv A_ outer s_ H_0 vs Q E hr h => ?_)
  · obtain ⟨ms, v_form, x_form, x_place, KM, rfl, _⟩ := h
    rfl
  · obtain ⟨ms, v_form, x_form, x_place, KM, rfl, hW, h_form, hM, hQ⟩ := h
    unfold M_value at hM
    refine ⟨_, (pss_cons (ps_if (pt_cmpR op_lt (pv 1) (pe_prop (pv 0) T.cl_Form T.p_Form_begin (ok_Form_begin T) (hr.mono (by decide)) T.b_Form_begin .nil pass0 rfl) (nomark _)) (pss_one (ps_ret (pe_ix (ix_listK (K := K) rfl) (pe_fld (pv 0) rfl) (pe_op op_sub (pv 1) (pe_fld (pv 0) rfl)) (fun _ _ => rfl)))) pss_nil) (pss_one (ps_ret (pe_call (ok_place_value T) (hr.mono (by decide)) (by rfl) T.g_place_value T.F_place_value.kp T.b_place_value .nil pass0 (pa_cons (pe_fld (pv 0) rfl) (pa_cons (pv 1) pa_nil)))))), ?_⟩
    refine ⟨_, rfl, ?_⟩
    refine ⟨_, rfl, ?_⟩
    apply rep_prop h_form
    intro _ h1
    refine ⟨ms, _, x_form, _, rfl, hW.enter0, h1, hM, fun r2 u5 H6 hM e4 h3 => ?_⟩
    replace h_form := rep_ext e4 h_form
    replace hW := hW.ret0 e4
    obtain rfl := of_v h3
    refine ⟨_, _, rfl, rfl, ?_⟩
    refine ⟨_, rfl, ?_⟩
    refine ite3 hM (fun hM => ?_) (fun hM => ?_)
    · skip
      refine ⟨_, rfl, ?_⟩
      apply rep_fld (j := 1) h_form T.cl_Form T.na_Form__early nd_Form rfl rfl
      intro u8 h7
      refine ⟨_, rfl, ?_⟩
      refine ⟨_, rfl, ?_⟩
      apply rep_fld (j := 0) h_form T.cl_Form T.na_Form__first nd_Form rfl rfl
      intro u10 h9
      obtain rfl := of_v h9
      refine ⟨_, _, rfl, rfl, ?_⟩
      obtain ⟨g11, g12, hM⟩ := hM
      apply rep_ixL (e := (fun y_ : Int => (D.v (V.int y_)))) (xs := x_form.2.1) h7 g11 g12
      intro u15 h13
      obtain ⟨x14, x14e⟩ : ∃ x_, x_ = x_form.2.1[Int.toNat (x_place - x_form.1)]'g12 := ⟨_, rfl⟩
      rw [← x14e] at h13
      replace hM := hM x14 x14e
      obtain rfl := of_v h13
      exact hQ x14 _ _ hM hW.out rep_v
    · skip
      refine ⟨_, rfl, ?_⟩
      apply rep_fld (j := 2) h_form T.cl_Form T.na_Form__rows nd_Form rfl rfl
      intro u17 h16
      refine ⟨_, rfl, ?_⟩
      refine ⟨ms, _, x_form.2.2, x_place, _, rfl, hW.enter0, h16, hM, fun r18 u21 H22 hM e20 h19 => ?_⟩
      replace h_form := rep_ext e20 h_form
      replace h16 := rep_ext e20 h16
      replace hW := hW.ret0 e20
      obtain rfl := of_v h19
      exact hQ r18 _ _ hM hW.out rep_v
def M_spread_row (x_row : (Int × Int × Int)) (x_many : Int) (x_ahead : Int) (KM : (Int × Int × Int) → Prop) : Prop :=
  (CMulW x_row.1 x_many ∧ (CMulW (x_row.1 * x_many) x_many ∧ (CMulW ((2 : Int) * x_row.1) x_ahead ∧ (CMulW ((((2 : Int) * x_row.1) * x_ahead) + x_row.2.1) x_many ∧ (M_row_value (x_row.1, x_row.2.1, x_row.2.2) x_ahead fun r25 => (KM (((x_row.1 * x_many) * x_many), (((((2 : Int) * x_row.1) * x_ahead) + x_row.2.1) * x_many), r25)))))))
def sp_spread_row (A : Ad) : Sp := fun vs H Q _ => ∃ (ms : List Addr) (v_row : V) (x_row : (Int × Int × Int)) (x_many : Int) (x_ahead : Int) (KM : (Int × Int × Int) → Prop), vs = [v_row, V.int x_many, V.int x_ahead] ∧ Wd ms [] [] H H ∧ rep ms H (D.tup [(D.v (V.int x_row.1)), (D.v (V.int x_row.2.1)), (D.v (V.int x_row.2.2))]) v_row ∧ M_spread_row x_row x_many x_ahead KM ∧ ∀ (r : (Int × Int × Int)) (u : V) (H1 : Hp), KM r → Ret [] H H1 → rep ms H1 (D.tup [(D.v (V.int r.1)), (D.v (V.int r.2.1)), (D.v (V.int r.2.2))]) u → Q u H1
set_option maxHeartbeats 16000000 in
theorem ok_spread_row {P : Program} {w : World} {K : PySem.W.Frag} {mg : Str → Option Value} {base : Heap} {A : Ad} (T : Txt w K mg A) : FnOk P w K mg base CX0 2 A.a_spread_row A.d_spread_row ["row", "many", "ahead"] (sp_spread_row A) := by
  refine T.F_spread_row.ok sc_spread_row (fun vs H Q E h => ?_) (fun cdv A_ outer s_ H_0 vs Q E hr h => ?_)
  · obtain ⟨ms, v_row, x_row, x_many, x_ahead, KM, rfl, _⟩ := h
    rfl
  · obtain ⟨ms, v_row, x_row, x_many, x_ahead, KM, rfl, hW, h_row, hM, hQ⟩ := h
    unfold M_spread_row at hM
    refine ⟨_, (pss_cons (ps_asg (pv 0) (pg_tup rfl (pgs_cons (pg_name (i := 3) sc_spread_row.nd rfl (by first | exact Or.inl rfl | exact Or.inr rfl)) (pgs_cons (pg_name (i := 4) sc_spread_row.nd rfl (by first | exact Or.inl rfl | exact Or.inr rfl)) (pgs_cons (pg_name (i := 5) sc_spread_row.nd rfl (by first | exact Or.inl rfl | exact Or.inr rfl)) pgs_nil))))) (pss_one (ps_ret (pe_tup (pa_cons (pe_op op_mulW (pe_op op_mulW (pv 3) (pv 1)) (pv 1)) (pa_cons (pe_op op_mulW (pe_op op_add (pe_op op_mulW (pe_op op_mul pe_int (pv 3)) (pv 2)) (pv 4)) (pv 1)) (pa_cons (pe_call (ok_row_value T) (hr.mono (by decide)) (by rfl) T.g_row_value T.F_row_value.kp T.b_row_value .nil pass0 (pa_cons (pe_tup (pa_cons (pv 3) (pa_cons (pv 4) (pa_cons (pv 5) pa_nil)))) (pa_cons (pv 2) pa_nil))) pa_nil))))))), ?_⟩
    refine ⟨_, rfl, ?_⟩
    apply rep_gtup h_row rfl
    intro vs1 hv2
    obtain ⟨u3, us4, rfl, h5, hv6⟩ := repL_uncons hv2
    obtain rfl := of_v h5
    obtain ⟨u7, us8, rfl, h9, hv10⟩ := repL_uncons hv6
    obtain rfl := of_v h9
    obtain ⟨u11, us12, rfl, h13, hv14⟩ := repL_uncons hv10
    obtain rfl := of_v h13
    obtain rfl := repL_empty hv14
    refine ⟨_, _, rfl, ?_⟩
    refine ⟨_, _, rfl, ?_⟩
    refine ⟨_, _, rfl, ?_⟩
    refine ⟨rfl, ?_⟩
    refine ⟨_, rfl, ?_⟩
    refine ⟨_, rfl, ?_⟩
    obtain ⟨g15, hM⟩ := hM
    refine ⟨_, _, rfl, rfl, g15, ?_⟩
    refine ⟨_, rfl, ?_⟩
    obtain ⟨g16, hM⟩ := hM
    refine ⟨_, _, rfl, rfl, g16, ?_⟩
    refine ⟨_, rfl, ?_⟩
    refine ⟨_, _, rfl, rfl, .inl ⟨by decide, by decide⟩, ?_⟩
    refine ⟨_, rfl, ?_⟩
    obtain ⟨g17, hM⟩ := hM
    refine ⟨_, _, rfl, rfl, g17, ?_⟩
    refine ⟨_, rfl, ?_⟩
    refine ⟨_, _, rfl, rfl, ?_⟩
    refine ⟨_, rfl, ?_⟩
    obtain ⟨g18, hM⟩ := hM
    refine ⟨_, _, rfl, rfl, g18, ?_⟩
    refine ⟨_, rfl, ?_⟩
    refine ⟨_, rfl, ?_⟩
    refine ⟨_, rfl, ?_⟩
    refine ⟨(by show 3 ≤ sizeLine; decide), ?_⟩
    intro p19 n23
    have e20 := Rx.Ext.new (H := H_0) (o := (HO.tup [V.int x_row.1, V.int x_row.2.1, V.int x_row.2.2])) n23
    have hp21 : upd H_0 p19 (HO.tup [V.int x_row.1, V.int x_row.2.1, V.int x_row.2.2]) p19 = some (HO.tup [V.int x_row.1, V.int x_row.2.1, V.int x_row.2.2]) := upd_same
    generalize upd H_0 p19 (HO.tup [V.int x_row.1, V.int x_row.2.1, V.int x_row.2.2]) = H24 at e20 hp21 ⊢
    have h22 : rep ms H24 (D.tup [(D.v (V.int x_row.1)), (D.v (V.int x_row.2.1)), (D.v (V.int x_row.2.2))]) (.ref p19) := rep_tup_mk hW n23 e20 hp21 (repL_cons rep_v (repL_cons rep_v (repL_cons rep_v repL_nil)))
    replace h_row := rep_ext e20 h_row
    replace hW := hW.ret0 e20
    refine ⟨_, rfl, ?_⟩
    refine ⟨ms, _, (x_row.1, x_row.2.1, x_row.2.2), x_ahead, _, rfl, hW.enter0, h22, hM, fun r25 u28 H29 hM e27 h26 => ?_⟩
    replace h_row := rep_ext e27 h_row
    replace h22 := rep_ext e27 h22
    replace hW := hW.ret0 e27
    obtain rfl := of_v h26
    refine ⟨(by show 3 ≤ sizeLine; decide), ?_⟩
    intro p30 n34
    have e31 := Rx.Ext.new (H := H29) (o := (HO.tup [V.int ((x_row.1 * x_many) * x_many), V.int (((((2 : Int) * x_row.1) * x_ahead) + x_row.2.1) * x_many), V.int r25])) n34
    have hp32 : upd H29 p30 (HO.tup [V.int ((x_row.1 * x_many) * x_many), V.int (((((2 : Int) * x_row.1) * x_ahead) + x_row.2.1) * x_many), V.int r25]) p30 = some (HO.tup [V.int ((x_row.1 * x_many) * x_many), V.int (((((2 : Int) * x_row.1) * x_ahead) + x_row.2.1) * x_many), V.int r25]) := upd_same
    generalize upd H29 p30 (HO.tup [V.int ((x_row.1 * x_many) * x_many), V.int (((((2 : Int) * x_row.1) * x_ahead) + x_row.2.1) * x_many), V.int r25]) = H35 at e31 hp32 ⊢
    have h33 : rep ms H35 (D.tup [(D.v (V.int ((x_row.1 * x_many) * x_many))), (D.v (V.int (((((2 : Int) * x_row.1) * x_ahead) + x_row.2.1) * x_many))), (D.v (V.int r25))]) (.ref p30) := rep_tup_mk hW n34 e31 hp32 (repL_cons rep_v (repL_cons rep_v (repL_cons rep_v repL_nil)))
    replace h_row := rep_ext e31 h_row
    replace h22 := rep_ext e31 h22
    replace hW := hW.ret0 e31
    exact hQ (((x_row.1 * x_many) * x_many), (((((2 : Int) * x_row.1) * x_ahead) + x_row.2.1) * x_many), r25) _ _ hM hW.out h33
def M_spread (x_rows : (List (Int × Int × Int))) (x_period : Int) (KM : (List (Int × Int × Int)) → Prop) : Prop :=
  ((rangeI (0 : Int) x_period).length < 100000 ∧ mapC (fun (x12 : Int) (k5 : (Int × Int × Int) → Prop) => (0 < (x_rows.length : Int) ∧ (0 ≤ (x12 % (x_rows.length : Int)) ∧ ∃ g20 : Int.toNat (x12 % (x_rows.length : Int)) < x_rows.length, ∀ x22, x22 = x_rows[Int.toNat (x12 % (x_rows.length : Int))]'g20 → (CDivW x_period (x_rows.length : Int) ∧ (CDivW x12 (x_rows.length : Int) ∧ (M_spread_row x22 (x_period / (x_rows.length : Int)) (x12 / (x_rows.length : Int)) fun r26 => (k5 r26))))))) (rangeI (0 : Int) x_period) [] fun ys36 => (KM ys36))
def sp_spread (A : Ad) : Sp := fun vs H Q _ => ∃ (ms : List Addr) (v_rows : V) (x_rows : (List (Int × Int × Int))) (x_period : Int) (KM : (List (Int × Int × Int)) → Prop), vs = [v_rows, V.int x_period] ∧ Wd ms [] [] H H ∧ rep ms H (D.lst (x_rows.map (fun y_ : (Int × Int × Int) => (D.tup [(D.v (V.int y_.1)), (D.v (V.int y_.2.1)), (D.v (V.int y_.2.2))])))) v_rows ∧ M_spread x_rows x_period KM ∧ ∀ (r : (List (Int × Int × Int))) (u : V) (H1 : Hp), KM r → Ret [] H H1 → rep ms H1 (D.lst (r.map (fun y_ : (Int × Int × Int) => (D.tup [(D.v (V.int y_.1)), (D.v (V.int y_.2.1)), (D.v (V.int y_.2.2))])))) u → Q u H1
set_option maxHeartbeats 16000000 in
theorem ok_spread {P : Program} {w : World} {K : PySem.W.Frag} {mg : Str → Option Value} {base : Heap} {A : Ad} (T : Txt w K mg A) : FnOk P w K mg base CX0 3 A.a_spread A.d_spread ["rows", "period"] (sp_spread A) := by
  refine T.F_spread.ok sc_spread (fun vs H Q E h => ?_) (fun cdv A_ outer s_ H_0 vs Q E hr h => ?_)
  · obtain ⟨ms, v_rows, x_rows, x_period, KM, rfl, _⟩ := h
    rfl
  · obtain ⟨ms, v_rows, x_rows, x_period, KM, rfl, hW, h_rows, hM, hQ⟩ := h
    unfold M_spread at hM
    refine ⟨_, (pss_cons (ps_set (i := 2) sc_spread.nd rfl (by first | exact Or.inl rfl | exact Or.inr rfl) (pe_callB (call_lenK (K := K) rfl) (by rfl) T.z_len PySem.boot_len (pa_cons (pv 0) pa_nil))) (pss_one (ps_ret (pe_lc (own := [("rest", 3)]) (g := gName 3) rfl sc_spread.nd (pi_rangeW1 (by rfl) T.z_range (pa_cons (pv 1) pa_nil)) (blkOk_by (N := ["rows", "period", "few", "rest"]) (sc := defScope s_spread) (by decide +kernel)) (fun _ _ _ _ _ => pg_name (i := 3) sc_spread.nd rfl (by first | exact Or.inl rfl | exact Or.inr rfl)) (fun _ _ _ _ _ => pts_nil) (fun _ _ _ _ _ => (pe_call (ok_spread_row T) (hr.mono (by decide)) (by rfl) T.g_spread_row T.F_spread_row.kp T.b_spread_row .nil pass0 (pa_cons (pe_ix (ix_listK (K := K) rfl) (pv 0) (pe_op op_mod (pv 3) (pv 2)) (fun _ _ => rfl)) (pa_cons (pe_op op_fdivW (pv 1) (pv 2)) (pa_cons (pe_op op_fdivW (pv 3) (pv 2)) pa_nil))))))))), ?_⟩
    refine ⟨_, rfl, ?_⟩
    apply rep_lenL (e := (fun y_ : (Int × Int × Int) => (D.tup [(D.v (V.int y_.1)), (D.v (V.int y_.2.1)), (D.v (V.int y_.2.2))]))) (xs := x_rows) h_rows
    refine ⟨_, rfl, ?_⟩
    refine ⟨_, rfl, ?_⟩
    refine fun L1 nl2 => ?_
    have nm16 := nm_new hW nl2
    refine lc_rangeG (L := L1) (fun n_ ys_ h_ => Wd (L1 :: ms) [] [] H_0 h_ ∧ Keep (L1 :: ms) H_0 h_ ∧ MutO (L1 :: ms) [] H_0 h_ L1 (D.lst (ys_.map (fun y_ : (Int × Int × Int) => (D.tup [(D.v (V.int y_.1)), (D.v (V.int y_.2.1)), (D.v (V.int y_.2.2))])))) ∧ ys_.length ≤ n_) (lo := (0 : Int)) (hi := x_period) (N := Int.toNat x_period) (by simp) hM ⟨wd_cell hW nl2, keep_cell nl2 Keep.refl, mo_newL (ds := []) hW nl2 repL_nil, Nat.le_refl _⟩ ?_ ?_
    · skip
      rintro x12  n3 ys4 k5 H17 hn ⟨hW, hk6, mu7, ln8⟩ hM Nx11 hN9
      replace h_rows := rep_keep hk6 (rep_new nl2 h_rows)
      refine ⟨rfl, ?_⟩
      refine tyes_of ?_
      refine ⟨_, rfl, ?_⟩
      refine ⟨_, rfl, ?_⟩
      refine ⟨_, rfl, ?_⟩
      obtain ⟨g18, hM⟩ := hM
      refine ⟨_, _, rfl, rfl, g18, ?_⟩
      obtain ⟨g19, g20, hM⟩ := hM
      apply rep_ixL (e := (fun y_ : (Int × Int × Int) => (D.tup [(D.v (V.int y_.1)), (D.v (V.int y_.2.1)), (D.v (V.int y_.2.2))]))) (xs := x_rows) h_rows g19 g20
      intro u23 h21
      obtain ⟨x22, x22e⟩ : ∃ x_, x_ = x_rows[Int.toNat (x12 % (x_rows.length : Int))]'g20 := ⟨_, rfl⟩
      rw [← x22e] at h21
      replace hM := hM x22 x22e
      refine ⟨_, rfl, ?_⟩
      refine ⟨_, rfl, ?_⟩
      obtain ⟨g24, hM⟩ := hM
      refine ⟨_, _, rfl, rfl, g24, ?_⟩
      refine ⟨_, rfl, ?_⟩
      refine ⟨_, rfl, ?_⟩
      obtain ⟨g25, hM⟩ := hM
      refine ⟨_, _, rfl, rfl, g25, ?_⟩
      refine ⟨(L1 :: ms), _, x22, (x_period / (x_rows.length : Int)), (x12 / (x_rows.length : Int)), _, rfl, hW.enter0, h21, hM, fun r26 u29 H30 hM e28 h27 => ?_⟩
      replace h_rows := rep_ext e28 h_rows
      replace hk6 := keep_ext e28 hk6
      replace h21 := rep_ext e28 h21
      replace mu7 := mo_ext e28 mu7
      replace hW := hW.ret0 e28
      refine mo_end mu7 hn (by rw [List.length_map]; exact ln8) fun vs31 hr32 => ?_
      have mk34 := mo_setL mu7 (repL_snoc (e := (fun y_ : (Int × Int × Int) => (D.tup [(D.v (V.int y_.1)), (D.v (V.int y_.2.1)), (D.v (V.int y_.2.2))]))) (xs := ys4) (y := r26) hr32 h27)
      replace h_rows := rep_put (o := .lst (vs31 ++ [u29])) mu7.im h_rows
      replace hk6 := keep_put (o := .lst (vs31 ++ [u29])) mu7.im hk6
      replace h21 := rep_put (o := .lst (vs31 ++ [u29])) mu7.im h21
      replace h27 := rep_put (o := .lst (vs31 ++ [u29])) mu7.im h27
      replace hW := wd_put (o := .lst (vs31 ++ [u29])) hW mu7
      replace mu7 := mk34
      generalize upd H30 L1 (.lst (vs31 ++ [u29])) = H35 at *
      replace mu7 : MutO (L1 :: ms) [] H_0 H35 L1 (D.lst ((ys4 ++ [r26]).map (fun y_ : (Int × Int × Int) => (D.tup [(D.v (V.int y_.1)), (D.v (V.int y_.2.1)), (D.v (V.int y_.2.2))])))) := mu7
      clear mk34
      exact hN9 r26 _ hM ⟨hW, hk6, mu7, by rw [List.length_append]; exact Nat.add_le_add_right ln8 1⟩
    · skip
      rintro n3 ys36 H37 hM ⟨hW, hk6, mu7, ln8⟩
      replace h_rows := rep_keep hk6 (rep_new nl2 h_rows)
      clear hk6 ln8
      have h38 := mo_rep_dr dr_here nm16 mu7
      replace hW := wd_dr dr_here mu7.hp hW
      replace h_rows := rep_dr dr_here h_rows
      clear mu7
      exact hQ ys36 _ _ hM hW.out h38
def M_Reckoned_init (x_parts : (List Int)) (KM : (List Int) → Prop) : Prop :=
  (KM x_parts)
def sp_Reckoned_init (A : Ad) : Sp := fun vs H Q _ => ∃ (ms : List Addr) (p_ dx_ : Addr) (v_parts : V) (x_parts : (List Int)) (KM : (List Int) → Prop), vs = [.ref p_, v_parts] ∧ Wd ms [] [] H H ∧ p_ ∈ ms ∧ H p_ = some (.ins A.c_Reckoned dx_ []) ∧ rep ms H (D.lst (x_parts.map (fun y_ : Int => (D.v (V.int y_))))) v_parts ∧ M_Reckoned_init x_parts KM ∧ ∀ (r : (List Int)) (us : List V) (H1 : Hp), KM r → KpI p_ H H1 → H1 p_ = some (.ins A.c_Reckoned dx_ (List.zip ns_Reckoned us)) → ns_Reckoned.length = us.length → repL ms H1 [(D.lst (r.map (fun y_ : Int => (D.v (V.int y_)))))] us → Q .non H1
set_option maxHeartbeats 16000000 in
theorem ok_Reckoned_init {P : Program} {w : World} {K : PySem.W.Frag} {mg : Str → Option Value} {base : Heap} {A : Ad} (T : Txt w K mg A) : FnOk P w K mg base CX0 1 A.a_Reckoned_init A.d_Reckoned_init ["self", "parts"] (sp_Reckoned_init A) := by
  refine T.F_Reckoned_init.ok sc_Reckoned_init (fun vs H Q E h => ?_) (fun cdv A_ outer s_ H_0 vs Q E hr h => ?_)
  · obtain ⟨ms, p_, dx_, v_parts, x_parts, KM, rfl, _⟩ := h
    rfl
  · obtain ⟨ms, p_, dx_, v_parts, x_parts, KM, rfl, hW, pm_, hp, h_parts, hM, hQ⟩ := h
    unfold M_Reckoned_init at hM
    have hK := ki_refl (p := p_) (H := H_0)
    replace hp : H_0 p_ = some (.ins A.c_Reckoned dx_ (List.zip ([] : List Str) ([] : List V))) := hp
    refine ⟨_, (pss_one (ps_fld (pv 0) (pe_callTy (call_list_ofK (K := K) rfl) (by rfl) T.z_list (by decide +kernel) (pa_cons (pv 1) pa_nil)) rfl)), ?_⟩
    refine ⟨_, rfl, ?_⟩
    apply rep_listL h_parts
    intro ys1 hr2
    intro p3 n4
    have e5 := Rx.Ext.new (H := H_0) (o := (HO.lst ys1)) n4
    have hp6 : upd H_0 p3 (HO.lst ys1) p3 = some (HO.lst ys1) := upd_same
    generalize upd H_0 p3 (HO.lst ys1) = H9 at e5 hp6 ⊢
    have h7 : rep ms H9 (D.lst (x_parts.map (fun y_ : Int => (D.v (V.int y_))))) (.ref p3) := rep_lst_mk hW n4 e5 hp6 hr2
    replace h_parts := rep_ext e5 h_parts
    replace hp := Rx.Ext.keep e5 hp
    replace hW := hW.ret0 e5
    refine ⟨_, rfl, p_, A.c_Reckoned, dx_, _, rfl, hp, T.cl_Reckoned, T.na_Reckoned_parts, (by first | decide | simp), ?_⟩
    have z10 : putF ("parts" : Str) ((V.ref p3)) (List.zip ([] : List Str) ([] : List V)) = List.zip [("parts" : Str)] [(V.ref p3)] := putF_zip (ns := ([] : List Str)) (us := ([] : List V)) rfl (nin_of (by decide +kernel))
    replace h_parts := rep_put (o := .ins A.c_Reckoned dx_ (putF ("parts" : Str) ((V.ref p3)) (List.zip ([] : List Str) ([] : List V)))) pm_ h_parts
    replace h7 := rep_put (o := .ins A.c_Reckoned dx_ (putF ("parts" : Str) ((V.ref p3)) (List.zip ([] : List Str) ([] : List V)))) pm_ h7
    replace hK := ki_put (o := .ins A.c_Reckoned dx_ (putF ("parts" : Str) ((V.ref p3)) (List.zip ([] : List Str) ([] : List V)))) hK hW
    replace hW := wd_at (p := p_) (o := .ins A.c_Reckoned dx_ (putF ("parts" : Str) ((V.ref p3)) (List.zip ([] : List Str) ([] : List V)))) hW
    replace hp : upd H9 p_ (.ins A.c_Reckoned dx_ (putF ("parts" : Str) ((V.ref p3)) (List.zip ([] : List Str) ([] : List V)))) p_ = some (.ins A.c_Reckoned dx_ (putF ("parts" : Str) ((V.ref p3)) (List.zip ([] : List Str) ([] : List V)))) := upd_same
    generalize upd H9 p_ (.ins A.c_Reckoned dx_ (putF ("parts" : Str) ((V.ref p3)) (List.zip ([] : List Str) ([] : List V)))) = H11 at *
    rw [z10] at hp
    exact hQ x_parts [(V.ref p3)] _ hM (ki_wd hK hW) hp rfl (repL_cons h7 repL_nil)
theorem make_Reckoned_init {ms ps : List Addr} {cs : List (Addr × List V)} {H0 H : Hp} {A : Ad} {v_parts : V} {x_parts : (List Int)} {KM : (List Int) → Prop} {Q : Addr → Hp → Prop} {E : XK} (hW : Wd ms ps cs H0 H) (h_parts : rep ms H (D.lst (x_parts.map (fun y_ : Int => (D.v (V.int y_))))) v_parts) (hM : M_Reckoned_init x_parts KM)
    (k : ∀ (x : Addr) (H1 : Hp) (r : (List Int)), KM r → Rx.Ext H H1 → rep ms H1 (eReckonedI A r) (.ref x) → Q x H1) :
    ∀ x dx, H x = none → H dx = none → dx ≠ x → sp_Reckoned_init A (.ref x :: ([v_parts] ++ [])) (upd (upd H dx (.own x)) x (.ins A.c_Reckoned dx [])) (fun v H2 => v = .non ∧ Q x H2) E := by
  intro x dx nx ndx ne
  exact ⟨x :: ms, x, dx, v_parts, x_parts, KM, rfl, wd_new hW nx ndx, List.mem_cons_self, upd_same, mem_new nx h_parts ndx, hM, fun r us H1 hr hK hp hl hu => ⟨rfl, k x H1 r hr (ext_new hK nx ndx) (rep_insW hW nx hp hl hu)⟩⟩
def M_Reckoned_init_nltiii (x_parts : (List (Int × Int × Int))) (KM : (List (Int × Int × Int)) → Prop) : Prop :=
  (KM x_parts)
def sp_Reckoned_init_nltiii (A : Ad) : Sp := fun vs H Q _ => ∃ (ms : List Addr) (p_ dx_ : Addr) (v_parts : V) (x_parts : (List (Int × Int × Int))) (KM : (List (Int × Int × Int)) → Prop), vs = [.ref p_, v_parts] ∧ Wd ms [] [] H H ∧ p_ ∈ ms ∧ H p_ = some (.ins A.c_Reckoned dx_ []) ∧ rep ms H (D.lst (x_parts.map (fun y_ : (Int × Int × Int) => (D.tup [(D.v (V.int y_.1)), (D.v (V.int y_.2.1)), (D.v (V.int y_.2.2))])))) v_parts ∧ M_Reckoned_init_nltiii x_parts KM ∧ ∀ (r : (List (Int × Int × Int))) (us : List V) (H1 : Hp), KM r → KpI p_ H H1 → H1 p_ = some (.ins A.c_Reckoned dx_ (List.zip ns_Reckoned us)) → ns_Reckoned.length = us.length → repL ms H1 [(D.lst (r.map (fun y_ : (Int × Int × Int) => (D.tup [(D.v (V.int y_.1)), (D.v (V.int y_.2.1)), (D.v (V.int y_.2.2))]))))] us → Q .non H1
set_option maxHeartbeats 16000000 in
theorem ok_Reckoned_init_nltiii {P : Program} {w : World} {K : PySem.W.Frag} {mg : Str → Option Value} {base : Heap} {A : Ad} (T : Txt w K mg A) : FnOk P w K mg base CX0 1 A.a_Reckoned_init A.d_Reckoned_init ["self", "parts"] (sp_Reckoned_init_nltiii A) := by
  refine T.F_Reckoned_init.ok sc_Reckoned_init (fun vs H Q E h => ?_) (fun cdv A_ outer s_ H_0 vs Q E hr h => ?_)
  · obtain ⟨ms, p_, dx_, v_parts, x_parts, KM, rfl, _⟩ := h
    rfl
  · obtain ⟨ms, p_, dx_, v_parts, x_parts, KM, rfl, hW, pm_, hp, h_parts, hM, hQ⟩ := h
    unfold M_Reckoned_init_nltiii at hM
    have hK := ki_refl (p := p_) (H := H_0)
    replace hp : H_0 p_ = some (.ins A.c_Reckoned dx_ (List.zip ([] : List Str) ([] : List V))) := hp
    refine ⟨_, (pss_one (ps_fld (pv 0) (pe_callTy (call_list_ofK (K := K) rfl) (by rfl) T.z_list (by decide +kernel) (pa_cons (pv 1) pa_nil)) rfl)), ?_⟩
    refine ⟨_, rfl, ?_⟩
    apply rep_listL h_parts
    intro ys1 hr2
    intro p3 n4
    have e5 := Rx.Ext.new (H := H_0) (o := (HO.lst ys1)) n4
    have hp6 : upd H_0 p3 (HO.lst ys1) p3 = some (HO.lst ys1) := upd_same
    generalize upd H_0 p3 (HO.lst ys1) = H9 at e5 hp6 ⊢
    have h7 : rep ms H9 (D.lst (x_parts.map (fun y_ : (Int × Int × Int) => (D.tup [(D.v (V.int y_.1)), (D.v (V.int y_.2.1)), (D.v (V.int y_.2.2))])))) (.ref p3) := rep_lst_mk hW n4 e5 hp6 hr2
    replace h_parts := rep_ext e5 h_parts
    replace hp := Rx.Ext.keep e5 hp
    replace hW := hW.ret0 e5
    refine ⟨_, rfl, p_, A.c_Reckoned, dx_, _, rfl, hp, T.cl_Reckoned, T.na_Reckoned_parts, (by first | decide | simp), ?_⟩
    have z10 : putF ("parts" : Str) ((V.ref p3)) (List.zip ([] : List Str) ([] : List V)) = List.zip [("parts" : Str)] [(V.ref p3)] := putF_zip (ns := ([] : List Str)) (us := ([] : List V)) rfl (nin_of (by decide +kernel))
    replace h_parts := rep_put (o := .ins A.c_Reckoned dx_ (putF ("parts" : Str) ((V.ref p3)) (List.zip ([] : List Str) ([] : List V)))) pm_ h_parts
    replace h7 := rep_put (o := .ins A.c_Reckoned dx_ (putF ("parts" : Str) ((V.ref p3)) (List.zip ([] : List Str) ([] : List V)))) pm_ h7
    replace hK := ki_put (o := .ins A.c_Reckoned dx_ (putF ("parts" : Str) ((V.ref p3)) (List.zip ([] : List Str) ([] : List V)))) hK hW
    replace hW := wd_at (p := p_) (o := .ins A.c_Reckoned dx_ (putF ("parts" : Str) ((V.ref p3)) (List.zip ([] : List Str) ([] : List V)))) hW
    replace hp : upd H9 p_ (.ins A.c_Reckoned dx_ (putF ("parts" : Str) ((V.ref p3)) (List.zip ([] : List Str) ([] : List V)))) p_ = some (.ins A.c_Reckoned dx_ (putF ("parts" : Str) ((V.ref p3)) (List.zip ([] : List Str) ([] : List V)))) := upd_same
    generalize upd H9 p_ (.ins A.c_Reckoned dx_ (putF ("parts" : Str) ((V.ref p3)) (List.zip ([] : List Str) ([] : List V)))) = H11 at *
    rw [z10] at hp
    exact hQ x_parts [(V.ref p3)] _ hM (ki_wd hK hW) hp rfl (repL_cons h7 repL_nil)
theorem make_Reckoned_init_nltiii {ms ps : List Addr} {cs : List (Addr × List V)} {H0 H : Hp} {A : Ad} {v_parts : V} {x_parts : (List (Int × Int × Int))} {KM : (List (Int × Int × Int)) → Prop} {Q : Addr → Hp → Prop} {E : XK} (hW : Wd ms ps cs H0 H) (h_parts : rep ms H (D.lst (x_parts.map (fun y_ : (Int × Int × Int) => (D.tup [(D.v (V.int y_.1)), (D.v (V.int y_.2.1)), (D.v (V.int y_.2.2))])))) v_parts) (hM : M_Reckoned_init_nltiii x_parts KM)
    (k : ∀ (x : Addr) (H1 : Hp) (r : (List (Int × Int × Int))), KM r → Rx.Ext H H1 → rep ms H1 (eReckonedR A r) (.ref x) → Q x H1) :
    ∀ x dx, H x = none → H dx = none → dx ≠ x → sp_Reckoned_init_nltiii A (.ref x :: ([v_parts] ++ [])) (upd (upd H dx (.own x)) x (.ins A.c_Reckoned dx [])) (fun v H2 => v = .non ∧ Q x H2) E := by
  intro x dx nx ndx ne
  exact ⟨x :: ms, x, dx, v_parts, x_parts, KM, rfl, wd_new hW nx ndx, List.mem_cons_self, upd_same, mem_new nx h_parts ndx, hM, fun r us H1 hr hK hp hl hu => ⟨rfl, k x H1 r hr (ext_new hK nx ndx) (rep_insW hW nx hp hl hu)⟩⟩
def M_Form_init_nioReckonedIoReckonedR (x_first : Int) (x_early : (List Int)) (x_rows : (List (Int × Int × Int))) (KM : (Int × List Int × List (Int × Int × Int)) → Prop) : Prop :=
  (KM (x_first, x_early, x_rows))
def sp_Form_init_nioReckonedIoReckonedR (A : Ad) : Sp := fun vs H Q _ => ∃ (ms : List Addr) (p_ dx_ : Addr) (v_early : V) (v_rows : V) (x_first : Int) (x_early : (List Int)) (x_rows : (List (Int × Int × Int))) (KM : (Int × List Int × List (Int × Int × Int)) → Prop), vs = [.ref p_, V.int x_first, v_early, v_rows] ∧ Wd ms [] [] H H ∧ p_ ∈ ms ∧ H p_ = some (.ins A.c_Form dx_ []) ∧ rep ms H (eReckonedI A x_early) v_early ∧ rep ms H (eReckonedR A x_rows) v_rows ∧ M_Form_init_nioReckonedIoReckonedR x_first x_early x_rows KM ∧ ∀ (r : (Int × List Int × List (Int × Int × Int))) (us : List V) (H1 : Hp), KM r → KpI p_ H H1 → H1 p_ = some (.ins A.c_Form dx_ (List.zip ns_Form us)) → ns_Form.length = us.length → repL ms H1 [(D.v (V.int r.1)), (D.lst (r.2.1.map (fun y_ : Int => (D.v (V.int y_))))), (D.lst (r.2.2.map (fun y_ : (Int × Int × Int) => (D.tup [(D.v (V.int y_.1)), (D.v (V.int y_.2.1)), (D.v (V.int y_.2.2))]))))] us → Q .non H1
set_option maxHeartbeats 16000000 in
theorem ok_Form_init_nioReckonedIoReckonedR {P : Program} {w : World} {K : PySem.W.Frag} {mg : Str → Option Value} {base : Heap} {A : Ad} (T : Txt w K mg A) : FnOk P w K mg base CX0 1 A.a_Form_init A.d_Form_init ["self", "first", "early", "rows"] (sp_Form_init_nioReckonedIoReckonedR A) := by
  refine T.F_Form_init.ok sc_Form_init (fun vs H Q E h => ?_) (fun cdv A_ outer s_ H_0 vs Q E hr h => ?_)
  · obtain ⟨ms, p_, dx_, v_early, v_rows, x_first, x_early, x_rows, KM, rfl, _⟩ := h
    rfl
  · obtain ⟨ms, p_, dx_, v_early, v_rows, x_first, x_early, x_rows, KM, rfl, hW, pm_, hp, h_early, h_rows, hM, hQ⟩ := h
    unfold M_Form_init_nioReckonedIoReckonedR at hM
    have hK := ki_refl (p := p_) (H := H_0)
    replace hp : H_0 p_ = some (.ins A.c_Form dx_ (List.zip ([] : List Str) ([] : List V))) := hp
    refine ⟨_, (pss_one (ps_if (PW.pt (pw_and (pt_val (pe_callB (call_isiK (K := K) rfl) (by rfl) T.z_isinstance (by decide +kernel) (pa_cons (pv 2) (pa_cons (pe_glob (v := .ref A.c_Reckoned) (by rfl) T.g_Reckoned rfl) pa_nil)))) (pw_and1 (pt_val (pe_callB (call_isiK (K := K) rfl) (by rfl) T.z_isinstance (by decide +kernel) (pa_cons (pv 3) (pa_cons (pe_glob (v := .ref A.c_Reckoned) (by rfl) T.g_Reckoned rfl) pa_nil))))))) (pss_cons (ps_fld (pv 0) (pv 1) rfl) (pss_cons (ps_fld (pv 0) (pe_callTy (call_list_ofK (K := K) rfl) (by rfl) T.z_list (by decide +kernel) (pa_cons (pe_fld (pv 2) rfl) pa_nil)) rfl) (pss_one (ps_fld (pv 0) (pe_callTy (call_list_ofK (K := K) rfl) (by rfl) T.z_list (by decide +kernel) (pa_cons (pe_fld (pv 3) rfl) pa_nil)) rfl)))) (pss_cons ps_never (pss_cons ps_never (pss_cons ps_never (pss_one ps_never)))))), ?_⟩
    refine ⟨_, rfl, ?_⟩
    apply rep_isi h_early T.ic_Reckoned
    refine ⟨_, rfl, ?_⟩
    refine iteT ?_
    refine ⟨_, rfl, ?_⟩
    apply rep_isi h_rows T.ic_Reckoned
    refine ⟨_, rfl, ?_⟩
    refine iteT ?_
    refine ⟨_, rfl, ?_⟩
    refine ⟨_, rfl, p_, A.c_Form, dx_, _, rfl, hp, T.cl_Form, T.na_Form__first, (by first | decide | simp), ?_⟩
    have z1 : putF ("_first" : Str) (V.int x_first) (List.zip ([] : List Str) ([] : List V)) = List.zip [("_first" : Str)] [V.int x_first] := putF_zip (ns := ([] : List Str)) (us := ([] : List V)) rfl (nin_of (by decide +kernel))
    replace h_early := rep_put (o := .ins A.c_Form dx_ (putF ("_first" : Str) (V.int x_first) (List.zip ([] : List Str) ([] : List V)))) pm_ h_early
    replace h_rows := rep_put (o := .ins A.c_Form dx_ (putF ("_first" : Str) (V.int x_first) (List.zip ([] : List Str) ([] : List V)))) pm_ h_rows
    replace hK := ki_put (o := .ins A.c_Form dx_ (putF ("_first" : Str) (V.int x_first) (List.zip ([] : List Str) ([] : List V)))) hK hW
    replace hW := wd_at (p := p_) (o := .ins A.c_Form dx_ (putF ("_first" : Str) (V.int x_first) (List.zip ([] : List Str) ([] : List V)))) hW
    replace hp : upd H_0 p_ (.ins A.c_Form dx_ (putF ("_first" : Str) (V.int x_first) (List.zip ([] : List Str) ([] : List V)))) p_ = some (.ins A.c_Form dx_ (putF ("_first" : Str) (V.int x_first) (List.zip ([] : List Str) ([] : List V)))) := upd_same
    generalize upd H_0 p_ (.ins A.c_Form dx_ (putF ("_first" : Str) (V.int x_first) (List.zip ([] : List Str) ([] : List V)))) = H2 at *
    rw [z1] at hp
    refine ⟨_, rfl, ?_⟩
    apply rep_fld (j := 0) h_early T.cl_Reckoned T.na_Reckoned_parts nd_Reckoned rfl rfl
    intro u4 h3
    apply rep_listL h3
    intro ys5 hr6
    intro p7 n8
    have e9 := Rx.Ext.new (H := H2) (o := (HO.lst ys5)) n8
    have hp10 : upd H2 p7 (HO.lst ys5) p7 = some (HO.lst ys5) := upd_same
    generalize upd H2 p7 (HO.lst ys5) = H13 at e9 hp10 ⊢
    have h11 : rep ms H13 (D.lst (x_early.map (fun y_ : Int => (D.v (V.int y_))))) (.ref p7) := rep_lst_mk hW n8 e9 hp10 hr6
    replace h_early := rep_ext e9 h_early
    replace h_rows := rep_ext e9 h_rows
    replace h3 := rep_ext e9 h3
    replace hp := Rx.Ext.keep e9 hp
    replace hW := hW.ret0 e9
    refine ⟨_, rfl, p_, A.c_Form, dx_, _, rfl, hp, T.cl_Form, T.na_Form__early, (by first | decide | simp), ?_⟩
    have z14 : putF ("_early" : Str) ((V.ref p7)) (List.zip [("_first" : Str)] [V.int x_first]) = List.zip [("_first" : Str), ("_early" : Str)] [V.int x_first, (V.ref p7)] := putF_zip (ns := [("_first" : Str)]) (us := [V.int x_first]) rfl (nin_of (by decide +kernel))
    replace h_early := rep_put (o := .ins A.c_Form dx_ (putF ("_early" : Str) ((V.ref p7)) (List.zip [("_first" : Str)] [V.int x_first]))) pm_ h_early
    replace h_rows := rep_put (o := .ins A.c_Form dx_ (putF ("_early" : Str) ((V.ref p7)) (List.zip [("_first" : Str)] [V.int x_first]))) pm_ h_rows
    replace h3 := rep_put (o := .ins A.c_Form dx_ (putF ("_early" : Str) ((V.ref p7)) (List.zip [("_first" : Str)] [V.int x_first]))) pm_ h3
    replace h11 := rep_put (o := .ins A.c_Form dx_ (putF ("_early" : Str) ((V.ref p7)) (List.zip [("_first" : Str)] [V.int x_first]))) pm_ h11
    replace hK := ki_put (o := .ins A.c_Form dx_ (putF ("_early" : Str) ((V.ref p7)) (List.zip [("_first" : Str)] [V.int x_first]))) hK hW
    replace hW := wd_at (p := p_) (o := .ins A.c_Form dx_ (putF ("_early" : Str) ((V.ref p7)) (List.zip [("_first" : Str)] [V.int x_first]))) hW
    replace hp : upd H13 p_ (.ins A.c_Form dx_ (putF ("_early" : Str) ((V.ref p7)) (List.zip [("_first" : Str)] [V.int x_first]))) p_ = some (.ins A.c_Form dx_ (putF ("_early" : Str) ((V.ref p7)) (List.zip [("_first" : Str)] [V.int x_first]))) := upd_same
    generalize upd H13 p_ (.ins A.c_Form dx_ (putF ("_early" : Str) ((V.ref p7)) (List.zip [("_first" : Str)] [V.int x_first]))) = H15 at *
    rw [z14] at hp
    refine ⟨_, rfl, ?_⟩
    apply rep_fld (j := 0) h_rows T.cl_Reckoned T.na_Reckoned_parts nd_Reckoned rfl rfl
    intro u17 h16
    apply rep_listL h16
    intro ys18 hr19
    intro p20 n21
    have e22 := Rx.Ext.new (H := H15) (o := (HO.lst ys18)) n21
    have hp23 : upd H15 p20 (HO.lst ys18) p20 = some (HO.lst ys18) := upd_same
    generalize upd H15 p20 (HO.lst ys18) = H26 at e22 hp23 ⊢
    have h24 : rep ms H26 (D.lst (x_rows.map (fun y_ : (Int × Int × Int) => (D.tup [(D.v (V.int y_.1)), (D.v (V.int y_.2.1)), (D.v (V.int y_.2.2))])))) (.ref p20) := rep_lst_mk hW n21 e22 hp23 hr19
    replace h_early := rep_ext e22 h_early
    replace h_rows := rep_ext e22 h_rows
    replace h3 := rep_ext e22 h3
    replace h11 := rep_ext e22 h11
    replace h16 := rep_ext e22 h16
    replace hp := Rx.Ext.keep e22 hp
    replace hW := hW.ret0 e22
    refine ⟨_, rfl, p_, A.c_Form, dx_, _, rfl, hp, T.cl_Form, T.na_Form__rows, (by first | decide | simp), ?_⟩
    have z27 : putF ("_rows" : Str) ((V.ref p20)) (List.zip [("_first" : Str), ("_early" : Str)] [V.int x_first, (V.ref p7)]) = List.zip [("_first" : Str), ("_early" : Str), ("_rows" : Str)] [V.int x_first, (V.ref p7), (V.ref p20)] := putF_zip (ns := [("_first" : Str), ("_early" : Str)]) (us := [V.int x_first, (V.ref p7)]) rfl (nin_of (by decide +kernel))
    replace h_early := rep_put (o := .ins A.c_Form dx_ (putF ("_rows" : Str) ((V.ref p20)) (List.zip [("_first" : Str), ("_early" : Str)] [V.int x_first, (V.ref p7)]))) pm_ h_early
    replace h_rows := rep_put (o := .ins A.c_Form dx_ (putF ("_rows" : Str) ((V.ref p20)) (List.zip [("_first" : Str), ("_early" : Str)] [V.int x_first, (V.ref p7)]))) pm_ h_rows
    replace h3 := rep_put (o := .ins A.c_Form dx_ (putF ("_rows" : Str) ((V.ref p20)) (List.zip [("_first" : Str), ("_early" : Str)] [V.int x_first, (V.ref p7)]))) pm_ h3
    replace h11 := rep_put (o := .ins A.c_Form dx_ (putF ("_rows" : Str) ((V.ref p20)) (List.zip [("_first" : Str), ("_early" : Str)] [V.int x_first, (V.ref p7)]))) pm_ h11
    replace h16 := rep_put (o := .ins A.c_Form dx_ (putF ("_rows" : Str) ((V.ref p20)) (List.zip [("_first" : Str), ("_early" : Str)] [V.int x_first, (V.ref p7)]))) pm_ h16
    replace h24 := rep_put (o := .ins A.c_Form dx_ (putF ("_rows" : Str) ((V.ref p20)) (List.zip [("_first" : Str), ("_early" : Str)] [V.int x_first, (V.ref p7)]))) pm_ h24
    replace hK := ki_put (o := .ins A.c_Form dx_ (putF ("_rows" : Str) ((V.ref p20)) (List.zip [("_first" : Str), ("_early" : Str)] [V.int x_first, (V.ref p7)]))) hK hW
    replace hW := wd_at (p := p_) (o := .ins A.c_Form dx_ (putF ("_rows" : Str) ((V.ref p20)) (List.zip [("_first" : Str), ("_early" : Str)] [V.int x_first, (V.ref p7)]))) hW
    replace hp : upd H26 p_ (.ins A.c_Form dx_ (putF ("_rows" : Str) ((V.ref p20)) (List.zip [("_first" : Str), ("_early" : Str)] [V.int x_first, (V.ref p7)]))) p_ = some (.ins A.c_Form dx_ (putF ("_rows" : Str) ((V.ref p20)) (List.zip [("_first" : Str), ("_early" : Str)] [V.int x_first, (V.ref p7)]))) := upd_same
    generalize upd H26 p_ (.ins A.c_Form dx_ (putF ("_rows" : Str) ((V.ref p20)) (List.zip [("_first" : Str), ("_early" : Str)] [V.int x_first, (V.ref p7)]))) = H28 at *
    rw [z27] at hp
    exact hQ (x_first, x_early, x_rows) [V.int x_first, (V.ref p7), (V.ref p20)] _ hM (ki_wd hK hW) hp rfl (repL_cons rep_v (repL_cons h11 (repL_cons h24 repL_nil)))
theorem make_Form_init_nioReckonedIoReckonedR {ms ps : List Addr} {cs : List (Addr × List V)} {H0 H : Hp} {A : Ad} {v_early : V} {v_rows : V} {x_first : Int} {x_early : (List Int)} {x_rows : (List (Int × Int × Int))} {KM : (Int × List Int × List (Int × Int × Int)) → Prop} {Q : Addr → Hp → Prop} {E : XK} (hW : Wd ms ps cs H0 H) (h_early : rep ms H (eReckonedI A x_early) v_early) (h_rows : rep ms H (eReckonedR A x_rows) v_rows) (hM : M_Form_init_nioReckonedIoReckonedR x_first x_early x_rows KM)
    (k : ∀ (x : Addr) (H1 : Hp) (r : (Int × List Int × List (Int × Int × Int))), KM r → Rx.Ext H H1 → rep ms H1 (eForm A r) (.ref x) → Q x H1) :
    ∀ x dx, H x = none → H dx = none → dx ≠ x → sp_Form_init_nioReckonedIoReckonedR A (.ref x :: ([V.int x_first, v_early, v_rows] ++ [])) (upd (upd H dx (.own x)) x (.ins A.c_Form dx [])) (fun v H2 => v = .non ∧ Q x H2) E := by
  intro x dx nx ndx ne
  exact ⟨x :: ms, x, dx, v_early, v_rows, x_first, x_early, x_rows, KM, rfl, wd_new hW nx ndx, List.mem_cons_self, upd_same, mem_new nx h_early ndx, mem_new nx h_rows ndx, hM, fun r us H1 hr hK hp hl hu => ⟨rfl, k x H1 r hr (ext_new hK nx ndx) (rep_insW hW nx hp hl hu)⟩⟩
def M_reckoned_form (x_first : Int) (x_early : (List Int)) (x_rows : (List (Int × Int × Int))) (KM : (Int × List Int × List (Int × Int × Int)) → Prop) : Prop :=
  (M_Reckoned_init x_early fun r4 => (M_Reckoned_init_nltiii x_rows fun r9 => (M_Form_init_nioReckonedIoReckonedR x_first r4 r9 fun r14 => (KM r14))))
def sp_reckoned_form (A : Ad) : Sp := fun vs H Q _ => ∃ (ms : List Addr) (v_early : V) (v_rows : V) (x_first : Int) (x_early : (List Int)) (x_rows : (List (Int × Int × Int))) (KM : (Int × List Int × List (Int × Int × Int)) → Prop), vs = [V.int x_first, v_early, v_rows] ∧ Wd ms [] [] H H ∧ rep ms H (D.lst (x_early.map (fun y_ : Int => (D.v (V.int y_))))) v_early ∧ rep ms H (D.lst (x_rows.map (fun y_ : (Int × Int × Int) => (D.tup [(D.v (V.int y_.1)), (D.v (V.int y_.2.1)), (D.v (V.int y_.2.2))])))) v_rows ∧ M_reckoned_form x_first x_early x_rows KM ∧ ∀ (r : (Int × List Int × List (Int × Int × Int))) (u : V) (H1 : Hp), KM r → Ret [] H H1 → rep ms H1 (eForm A r) u → Q u H1
set_option maxHeartbeats 16000000 in
theorem ok_reckoned_form {P : Program} {w : World} {K : PySem.W.Frag} {mg : Str → Option Value} {base : Heap} {A : Ad} (T : Txt w K mg A) : FnOk P w K mg base CX0 3 A.a_reckoned_form A.d_reckoned_form ["first", "early", "rows"] (sp_reckoned_form A) := by
  refine T.F_reckoned_form.ok sc_reckoned_form (fun vs H Q E h => ?_) (fun cdv A_ outer s_ H_0 vs Q E hr h => ?_)
  · obtain ⟨ms, v_early, v_rows, x_first, x_early, x_rows, KM, rfl, _⟩ := h
    rfl
  · obtain ⟨ms, v_early, v_rows, x_first, x_early, x_rows, KM, rfl, hW, h_early, h_rows, hM, hQ⟩ := h
    unfold M_reckoned_form at hM
    refine ⟨_, (pss_one (ps_ret (pe_make T.mk_Form (ok_Form_init_nioReckonedIoReckonedR T) (hr.mono (by decide)) (by rfl) T.g_Form T.b_Form_init .nil pass0 (pa_cons (pv 0) (pa_cons (pe_make T.mk_Reckoned (ok_Reckoned_init T) (hr.mono (by decide)) (by rfl) T.g_Reckoned T.b_Reckoned_init .nil pass0 (pa_cons (pv 1) pa_nil)) (pa_cons (pe_make T.mk_Reckoned (ok_Reckoned_init_nltiii T) (hr.mono (by decide)) (by rfl) T.g_Reckoned T.b_Reckoned_init .nil pass0 (pa_cons (pv 2) pa_nil)) pa_nil)))))), ?_⟩
    refine ⟨_, rfl, ?_⟩
    refine ⟨_, rfl, ?_⟩
    conv => whnf
    apply make_Reckoned_init (ms := ms) hW h_early hM
    intro p1 H5 r4 hM e3 h2
    replace h_early := rep_ext e3 h_early
    replace h_rows := rep_ext e3 h_rows
    replace hW := hW.ret0 e3
    refine ⟨_, rfl, ?_⟩
    conv => whnf
    apply make_Reckoned_init_nltiii (ms := ms) hW h_rows hM
    intro p6 H10 r9 hM e8 h7
    replace h_early := rep_ext e8 h_early
    replace h_rows := rep_ext e8 h_rows
    replace h2 := rep_ext e8 h2
    replace hW := hW.ret0 e8
    conv => whnf
    apply make_Form_init_nioReckonedIoReckonedR (ms := ms) hW h2 h7 hM
    intro p11 H15 r14 hM e13 h12
    replace h_early := rep_ext e13 h_early
    replace h_rows := rep_ext e13 h_rows
    replace h2 := rep_ext e13 h2
    replace h7 := rep_ext e13 h7
    replace hW := hW.ret0 e13
    exact hQ r14 _ _ hM hW.out h12
def M_joined (x_one : (Int × List Int × List (Int × Int × Int))) (x_other : (Int × List Int × List (Int × Int × Int))) (x_sign : Int) (KM : (Int × List Int × List (Int × Int × Int)) → Prop) : Prop :=
  (M_Form_first x_one fun r2 => (M_Form_first x_other fun r8 => (M_Form_begin x_one fun r14 => (M_Form_begin x_other fun r20 => (M_Form_period x_one fun r26 => (M_Form_period x_other fun r32 => ((Int.natAbs r26 < 2 ^ 64 ∧ Int.natAbs r32 < 2 ^ 64) ∧ ((rangeI (if r8 > r2 then r8 else r2) (if r20 > r14 then r20 else r14)).length < 100000 ∧ mapC (fun (x49 : Int) (k42 : Int → Prop) => (M_value x_one x49 fun r55 => (M_value x_other x49 fun r60 => (CMulW x_sign r60 ∧ (k42 (r55 + (x_sign * r60))))))) (rangeI (if r8 > r2 then r8 else r2) (if r20 > r14 then r20 else r14)) [] fun ys71 => (M_spread x_one.2.2 ((Nat.lcm (Int.natAbs r26) (Int.natAbs r32) : Nat) : Int) fun r76 => (M_spread x_other.2.2 ((Nat.lcm (Int.natAbs r26) (Int.natAbs r32) : Nat) : Int) fun r83 => ((List.zip r76 r83).length < 100000 ∧ mapC (fun (x109 : ((Int × Int × Int) × (Int × Int × Int))) (k102 : (Int × Int × Int) → Prop) => (CMulW x_sign x109.2.1 ∧ (CMulW x_sign x109.2.2.1 ∧ (CMulW x_sign x109.2.2.2 ∧ (k102 ((x109.1.1 + (x_sign * x109.2.1)), (x109.1.2.1 + (x_sign * x109.2.2.1)), (x109.1.2.2 + (x_sign * x109.2.2.2)))))))) (List.zip r76 r83) [] fun ys169 => (M_reckoned_form (if r8 > r2 then r8 else r2) ys71 ys169 fun r172 => (KM r172)))))))))))))
def sp_joined (A : Ad) : Sp := fun vs H Q _ => ∃ (ms : List Addr) (v_one : V) (v_other : V) (x_one : (Int × List Int × List (Int × Int × Int))) (x_other : (Int × List Int × List (Int × Int × Int))) (x_sign : Int) (KM : (Int × List Int × List (Int × Int × Int)) → Prop), vs = [v_one, v_other, V.int x_sign] ∧ Wd ms [] [] H H ∧ rep ms H (eForm A x_one) v_one ∧ rep ms H (eForm A x_other) v_other ∧ M_joined x_one x_other x_sign KM ∧ ∀ (r : (Int × List Int × List (Int × Int × Int))) (u : V) (H1 : Hp), KM r → Ret [] H H1 → rep ms H1 (eForm A r) u → Q u H1
set_option maxHeartbeats 16000000 in
theorem ok_joined {P : Program} {w : World} {K : PySem.W.Frag} {mg : Str → Option Value} {base : Heap} {A : Ad} (T : Txt w K mg A) : FnOk P w K mg base CX0 4 A.a_joined A.d_joined ["one", "other", "sign"] (sp_joined A) := by
  refine T.F_joined.ok sc_joined (fun vs H Q E h => ?_) (fun cdv A_ outer s_ H_0 vs Q E hr h => ?_)
  · obtain ⟨ms, v_one, v_other, x_one, x_other, x_sign, KM, rfl, _⟩ := h
    rfl
  · obtain ⟨ms, v_one, v_other, x_one, x_other, x_sign, KM, rfl, hW, h_one, h_other, hM, hQ⟩ := h
    unfold M_joined at hM
    refine ⟨_, (pss_cons (ps_set (i := 3) sc_joined.nd rfl (by first | exact Or.inl rfl | exact Or.inr rfl) (pe_callB (call_max2 rfl) (by rfl) T.z_max (by decide +kernel) (pa_cons (pe_prop (pv 0) T.cl_Form T.p_Form_first (ok_Form_first T) (hr.mono (by decide)) T.b_Form_first .nil pass0 rfl) (pa_cons (pe_prop (pv 1) T.cl_Form T.p_Form_first (ok_Form_first T) (hr.mono (by decide)) T.b_Form_first .nil pass0 rfl) pa_nil)))) (pss_cons (ps_set (i := 4) sc_joined.nd rfl (by first | exact Or.inl rfl | exact Or.inr rfl) (pe_callB (call_max2 rfl) (by rfl) T.z_max (by decide +kernel) (pa_cons (pe_prop (pv 0) T.cl_Form T.p_Form_begin (ok_Form_begin T) (hr.mono (by decide)) T.b_Form_begin .nil pass0 rfl) (pa_cons (pe_prop (pv 1) T.cl_Form T.p_Form_begin (ok_Form_begin T) (hr.mono (by decide)) T.b_Form_begin .nil pass0 rfl) pa_nil)))) (pss_cons (ps_set (i := 5) sc_joined.nd rfl (by first | exact Or.inl rfl | exact Or.inr rfl) (pe_callBfun cr_lcm (by rfl) T.i_lcm (pa_cons (pe_prop (pv 0) T.cl_Form T.p_Form_period (ok_Form_period T) (hr.mono (by decide)) T.b_Form_period .nil pass0 rfl) (pa_cons (pe_prop (pv 1) T.cl_Form T.p_Form_period (ok_Form_period T) (hr.mono (by decide)) T.b_Form_period .nil pass0 rfl) pa_nil)))) (pss_cons (ps_setLc (i := 6) (own := [("place", 10)]) (g := gName 10) rfl sc_joined.nd rfl rfl (sw_true rfl rfl rfl (by decide +kernel)) (pi_rangeW2 (by rfl) T.z_range (pa_cons (pv 3) (pa_cons (pv 4) pa_nil))) (blkOk_by (N := ["one", "other", "sign", "first", "begin", "period", "early", "mine", "others", "rows", "place", "a", "b", "c", "d", "e", "f"]) (sc := defScope s_joined) (by decide +kernel)) (fun _ _ _ _ _ => pg_name (i := 10) sc_joined.nd rfl (by first | exact Or.inl rfl | exact Or.inr rfl)) (fun _ _ _ _ _ => pts_nil) (fun _ _ _ _ _ => (pe_op op_add (pe_call (ok_value T) (hr.mono (by decide)) (by rfl) T.g_value T.F_value.kp T.b_value .nil pass0 (pa_cons (pv 0) (pa_cons (pv 10) pa_nil))) (pe_op op_mulW (pv 2) (pe_call (ok_value T) (hr.mono (by decide)) (by rfl) T.g_value T.F_value.kp T.b_value .nil pass0 (pa_cons (pv 1) (pa_cons (pv 10) pa_nil))))))) (pss_cons (ps_set (i := 7) sc_joined.nd rfl (by first | exact Or.inl rfl | exact Or.inr rfl) (pe_call (ok_spread T) (hr.mono (by decide)) (by rfl) T.g_spread T.F_spread.kp T.b_spread .nil pass0 (pa_cons (pe_fld (pv 0) rfl) (pa_cons (pv 5) pa_nil)))) (pss_cons (ps_set (i := 8) sc_joined.nd rfl (by first | exact Or.inl rfl | exact Or.inr rfl) (pe_call (ok_spread T) (hr.mono (by decide)) (by rfl) T.g_spread T.F_spread.kp T.b_spread .nil pass0 (pa_cons (pe_fld (pv 1) rfl) (pa_cons (pv 5) pa_nil)))) (pss_cons (ps_setLc (i := 9) (own := [("a", 11), ("b", 12), ("c", 13), ("d", 14), ("e", 15), ("f", 16)]) (g := (gTup K 2 (gCons (gTup K 3 (gCons (gName 11) (gCons (gName 12) (gCons (gName 13) gNil)))) (gCons (gTup K 3 (gCons (gName 14) (gCons (gName 15) (gCons (gName 16) gNil)))) gNil)))) rfl sc_joined.nd rfl rfl (sw_true rfl rfl rfl (by decide +kernel)) (pi_zip (by rfl) T.z_zip (pa_cons (pv 7) (pa_cons (pv 8) pa_nil))) (blkOk_by (N := ["one", "other", "sign", "first", "begin", "period", "early", "mine", "others", "rows", "place", "a", "b", "c", "d", "e", "f"]) (sc := defScope s_joined) (by decide +kernel)) (fun _ _ _ _ _ => (pg_tup rfl (pgs_cons (pg_tup rfl (pgs_cons (pg_name (i := 11) sc_joined.nd rfl (by first | exact Or.inl rfl | exact Or.inr rfl)) (pgs_cons (pg_name (i := 12) sc_joined.nd rfl (by first | exact Or.inl rfl | exact Or.inr rfl)) (pgs_cons (pg_name (i := 13) sc_joined.nd rfl (by first | exact Or.inl rfl | exact Or.inr rfl)) pgs_nil)))) (pgs_cons (pg_tup rfl (pgs_cons (pg_name (i := 14) sc_joined.nd rfl (by first | exact Or.inl rfl | exact Or.inr rfl)) (pgs_cons (pg_name (i := 15) sc_joined.nd rfl (by first | exact Or.inl rfl | exact Or.inr rfl)) (pgs_cons (pg_name (i := 16) sc_joined.nd rfl (by first | exact Or.inl rfl | exact Or.inr rfl)) pgs_nil)))) pgs_nil)))) (fun _ _ _ _ _ => pts_nil) (fun _ _ _ _ _ => (pe_tup (pa_cons (pe_op op_add (pv 11) (pe_op op_mulW (pv 2) (pv 14))) (pa_cons (pe_op op_add (pv 12) (pe_op op_mulW (pv 2) (pv 15))) (pa_cons (pe_op op_add (pv 13) (pe_op op_mulW (pv 2) (pv 16))) pa_nil)))))) (pss_one (ps_ret (pe_call (ok_reckoned_form T) (hr.mono (by decide)) (by rfl) T.g_reckoned_form T.F_reckoned_form.kp T.b_reckoned_form .nil pass0 (pa_cons (pv 3) (pa_cons (pv 6) (pa_cons (pv 9) pa_nil))))))))))))), ?_⟩
    refine ⟨_, (by repeat (first | refine gs_ne (by decide) ?_ | exact gs_eq (by simp only [List.length_set, L2.wipe_length]; exact of_decide_eq_true rfl) | rfl)), ?_⟩
    apply rep_prop h_one
    intro _ h1
    refine ⟨ms, _, x_one, _, rfl, hW.enter0, h1, hM, fun r2 u5 H6 hM e4 h3 => ?_⟩
    replace h_one := rep_ext e4 h_one
    replace h_other := rep_ext e4 h_other
    replace hW := hW.ret0 e4
    obtain rfl := of_v h3
    refine ⟨_, (by repeat (first | refine gs_ne (by decide) ?_ | exact gs_eq (by simp only [List.length_set, L2.wipe_length]; exact of_decide_eq_true rfl) | rfl)), ?_⟩
    apply rep_prop h_other
    intro _ h7
    refine ⟨ms, _, x_other, _, rfl, hW.enter0, h7, hM, fun r8 u11 H12 hM e10 h9 => ?_⟩
    replace h_one := rep_ext e10 h_one
    replace h_other := rep_ext e10 h_other
    replace hW := hW.ret0 e10
    obtain rfl := of_v h9
    refine ⟨_, _, rfl, ?_⟩
    refine ⟨_, (by repeat (first | refine gs_ne (by decide) ?_ | exact gs_eq (by simp only [List.length_set, L2.wipe_length]; exact of_decide_eq_true rfl) | rfl)), ?_⟩
    apply rep_prop h_one
    intro _ h13
    refine ⟨ms, _, x_one, _, rfl, hW.enter0, h13, hM, fun r14 u17 H18 hM e16 h15 => ?_⟩
    replace h_one := rep_ext e16 h_one
    replace h_other := rep_ext e16 h_other
    replace hW := hW.ret0 e16
    obtain rfl := of_v h15
    refine ⟨_, (by repeat (first | refine gs_ne (by decide) ?_ | exact gs_eq (by simp only [List.length_set, L2.wipe_length]; exact of_decide_eq_true rfl) | rfl)), ?_⟩
    apply rep_prop h_other
    intro _ h19
    refine ⟨ms, _, x_other, _, rfl, hW.enter0, h19, hM, fun r20 u23 H24 hM e22 h21 => ?_⟩
    replace h_one := rep_ext e22 h_one
    replace h_other := rep_ext e22 h_other
    replace hW := hW.ret0 e22
    obtain rfl := of_v h21
    refine ⟨_, _, rfl, ?_⟩
    refine ⟨_, (by repeat (first | refine gs_ne (by decide) ?_ | exact gs_eq (by simp only [List.length_set, L2.wipe_length]; exact of_decide_eq_true rfl) | rfl)), ?_⟩
    apply rep_prop h_one
    intro _ h25
    refine ⟨ms, _, x_one, _, rfl, hW.enter0, h25, hM, fun r26 u29 H30 hM e28 h27 => ?_⟩
    replace h_one := rep_ext e28 h_one
    replace h_other := rep_ext e28 h_other
    replace hW := hW.ret0 e28
    obtain rfl := of_v h27
    refine ⟨_, (by repeat (first | refine gs_ne (by decide) ?_ | exact gs_eq (by simp only [List.length_set, L2.wipe_length]; exact of_decide_eq_true rfl) | rfl)), ?_⟩
    apply rep_prop h_other
    intro _ h31
    refine ⟨ms, _, x_other, _, rfl, hW.enter0, h31, hM, fun r32 u35 H36 hM e34 h33 => ?_⟩
    replace h_one := rep_ext e34 h_one
    replace h_other := rep_ext e34 h_other
    replace hW := hW.ret0 e34
    obtain rfl := of_v h33
    obtain ⟨g37, hM⟩ := hM
    refine ⟨_, _, rfl, g37.1, g37.2, ?_⟩
    refine ⟨_, (by repeat (first | refine gs_ne (by decide) ?_ | exact gs_eq (by simp only [List.length_set, L2.wipe_length]; exact of_decide_eq_true rfl) | rfl)), ?_⟩
    refine ⟨_, (by repeat (first | refine gs_ne (by decide) ?_ | exact gs_eq (by simp only [List.length_set, L2.wipe_length]; exact of_decide_eq_true rfl) | rfl)), ?_⟩
    refine ⟨_, _, rfl, ?_⟩
    refine fun L38 nl39 => ?_
    have nm53 := nm_new hW nl39
    refine lc_rangeG (L := L38) (fun n_ ys_ h_ => Wd (L38 :: ms) [] [] H_0 h_ ∧ Keep (L38 :: ms) H36 h_ ∧ MutO (L38 :: ms) [] H_0 h_ L38 (D.lst (ys_.map (fun y_ : Int => (D.v (V.int y_))))) ∧ ys_.length ≤ n_) (lo := (if r8 > r2 then r8 else r2)) (hi := (if r20 > r14 then r20 else r14)) (N := Int.toNat ((if r20 > r14 then r20 else r14) - (if r8 > r2 then r8 else r2))) (by simp) hM ⟨wd_cell hW nl39, keep_cell nl39 Keep.refl, mo_newL (ds := []) hW nl39 repL_nil, Nat.le_refl _⟩ ?_ ?_
    · skip
      rintro x49  n40 ys41 k42 H54 hn ⟨hW, hk43, mu44, ln45⟩ hM Nx48 hN46
      replace h_one := rep_keep hk43 (rep_new nl39 h_one)
      replace h_other := rep_keep hk43 (rep_new nl39 h_other)
      refine ⟨rfl, ?_⟩
      refine tyes_of ?_
      refine ⟨_, (by repeat (first | refine gs_ne (by decide) ?_ | exact gs_eq (by simp only [List.length_set, L2.wipe_length]; exact of_decide_eq_true rfl) | rfl)), ?_⟩
      refine ⟨_, (by repeat (first | refine gs_ne (by decide) ?_ | exact gs_eq (by simp only [List.length_set, L2.wipe_length]; exact of_decide_eq_true rfl) | rfl)), ?_⟩
      refine ⟨(L38 :: ms), _, x_one, x49, _, rfl, hW.enter0, h_one, hM, fun r55 u58 H59 hM e57 h56 => ?_⟩
      replace h_one := rep_ext e57 h_one
      replace h_other := rep_ext e57 h_other
      replace hk43 := keep_ext e57 hk43
      replace mu44 := mo_ext e57 mu44
      replace hW := hW.ret0 e57
      obtain rfl := of_v h56
      refine ⟨_, (by repeat (first | refine gs_ne (by decide) ?_ | exact gs_eq (by simp only [List.length_set, L2.wipe_length]; exact of_decide_eq_true rfl) | rfl)), ?_⟩
      refine ⟨_, (by repeat (first | refine gs_ne (by decide) ?_ | exact gs_eq (by simp only [List.length_set, L2.wipe_length]; exact of_decide_eq_true rfl) | rfl)), ?_⟩
      refine ⟨_, (by repeat (first | refine gs_ne (by decide) ?_ | exact gs_eq (by simp only [List.length_set, L2.wipe_length]; exact of_decide_eq_true rfl) | rfl)), ?_⟩
      refine ⟨(L38 :: ms), _, x_other, x49, _, rfl, hW.enter0, h_other, hM, fun r60 u63 H64 hM e62 h61 => ?_⟩
      replace h_one := rep_ext e62 h_one
      replace h_other := rep_ext e62 h_other
      replace hk43 := keep_ext e62 hk43
      replace mu44 := mo_ext e62 mu44
      replace hW := hW.ret0 e62
      obtain rfl := of_v h61
      obtain ⟨g65, hM⟩ := hM
      refine ⟨_, _, rfl, rfl, g65, ?_⟩
      refine ⟨_, _, rfl, rfl, ?_⟩
      refine mo_end mu44 hn (by rw [List.length_map]; exact ln45) fun vs66 hr67 => ?_
      have mk69 := mo_setL mu44 (repL_snoc (e := (fun y_ : Int => (D.v (V.int y_)))) (xs := ys41) (y := (r55 + (x_sign * r60))) hr67 rep_v)
      replace h_one := rep_put (o := .lst (vs66 ++ [V.int (r55 + (x_sign * r60))])) mu44.im h_one
      replace h_other := rep_put (o := .lst (vs66 ++ [V.int (r55 + (x_sign * r60))])) mu44.im h_other
      replace hk43 := keep_put (o := .lst (vs66 ++ [V.int (r55 + (x_sign * r60))])) mu44.im hk43
      replace hW := wd_put (o := .lst (vs66 ++ [V.int (r55 + (x_sign * r60))])) hW mu44
      replace mu44 := mk69
      generalize upd H64 L38 (.lst (vs66 ++ [V.int (r55 + (x_sign * r60))])) = H70 at *
      replace mu44 : MutO (L38 :: ms) [] H_0 H70 L38 (D.lst ((ys41 ++ [(r55 + (x_sign * r60))]).map (fun y_ : Int => (D.v (V.int y_))))) := mu44
      clear mk69
      exact hN46 (r55 + (x_sign * r60)) _ hM ⟨hW, hk43, mu44, by rw [List.length_append]; exact Nat.add_le_add_right ln45 1⟩
    · skip
      rintro n40 ys71 H72 hM ⟨hW, hk43, mu44, ln45⟩
      replace h_one := rep_keep hk43 (rep_new nl39 h_one)
      replace h_other := rep_keep hk43 (rep_new nl39 h_other)
      clear hk43 ln45
      have h73 := mo_rep_dr dr_here nm53 mu44
      replace hW := wd_dr dr_here mu44.hp hW
      replace h_one := rep_dr dr_here h_one
      replace h_other := rep_dr dr_here h_other
      clear mu44
      refine ⟨_, (by repeat (first | refine gs_ne (by decide) ?_ | exact gs_eq (by simp only [List.length_set, L2.wipe_length]; exact of_decide_eq_true rfl) | rfl)), ?_⟩
      apply rep_fld (j := 2) h_one T.cl_Form T.na_Form__rows nd_Form rfl rfl
      intro u75 h74
      refine ⟨_, (by repeat (first | refine gs_ne (by decide) ?_ | exact gs_eq (by simp only [List.length_set, L2.wipe_length]; exact of_decide_eq_true rfl) | rfl)), ?_⟩
      refine ⟨ms, _, x_one.2.2, ((Nat.lcm (Int.natAbs r26) (Int.natAbs r32) : Nat) : Int), _, rfl, hW.enter0, h74, hM, fun r76 u79 H80 hM e78 h77 => ?_⟩
      replace h_one := rep_ext e78 h_one
      replace h_other := rep_ext e78 h_other
      replace h73 := rep_ext e78 h73
      replace h74 := rep_ext e78 h74
      replace hW := hW.ret0 e78
      refine ⟨_, (by repeat (first | refine gs_ne (by decide) ?_ | exact gs_eq (by simp only [List.length_set, L2.wipe_length]; exact of_decide_eq_true rfl) | rfl)), ?_⟩
      apply rep_fld (j := 2) h_other T.cl_Form T.na_Form__rows nd_Form rfl rfl
      intro u82 h81
      refine ⟨_, (by repeat (first | refine gs_ne (by decide) ?_ | exact gs_eq (by simp only [List.length_set, L2.wipe_length]; exact of_decide_eq_true rfl) | rfl)), ?_⟩
      refine ⟨ms, _, x_other.2.2, ((Nat.lcm (Int.natAbs r26) (Int.natAbs r32) : Nat) : Int), _, rfl, hW.enter0, h81, hM, fun r83 u86 H87 hM e85 h84 => ?_⟩
      replace h_one := rep_ext e85 h_one
      replace h_other := rep_ext e85 h_other
      replace h73 := rep_ext e85 h73
      replace h74 := rep_ext e85 h74
      replace h77 := rep_ext e85 h77
      replace h81 := rep_ext e85 h81
      replace hW := hW.ret0 e85
      refine ⟨_, (by repeat (first | refine gs_ne (by decide) ?_ | exact gs_eq (by simp only [List.length_set, L2.wipe_length]; exact of_decide_eq_true rfl) | rfl)), ?_⟩
      refine ⟨_, (by repeat (first | refine gs_ne (by decide) ?_ | exact gs_eq (by simp only [List.length_set, L2.wipe_length]; exact of_decide_eq_true rfl) | rfl)), ?_⟩
      obtain ⟨a88, xs89, rfl, an90, hp91, hl92⟩ := rep_lstAt h77
      obtain ⟨a93, xs94, rfl, an95, hp96, hl97⟩ := rep_lstAt h84
      refine ⟨_, _, _, _, rfl, .inl (.inl hp91), .inl (.inl hp96), ?_⟩
      refine fun L98 nl99 => ?_
      have nm113 := nm_new hW nl99
      refine lc_zipG (L := L98) (fun n_ ys_ h_ => Wd (L98 :: ms) [] [] H_0 h_ ∧ Keep (L98 :: ms) H87 h_ ∧ MutO (L98 :: ms) [] H_0 h_ L98 (D.lst (ys_.map (fun y_ : (Int × Int × Int) => (D.tup [(D.v (V.int y_.1)), (D.v (V.int y_.2.1)), (D.v (V.int y_.2.2))])))) ∧ ys_.length ≤ n_) (items := r76) (items2 := r83) (e := (fun y_ : (Int × Int × Int) => (D.tup [(D.v (V.int y_.1)), (D.v (V.int y_.2.1)), (D.v (V.int y_.2.2))]))) (e2 := (fun y_ : (Int × Int × Int) => (D.tup [(D.v (V.int y_.1)), (D.v (V.int y_.2.1)), (D.v (V.int y_.2.2))]))) an90 hp91 hl92 an95 hp96 hl97 nl99 (fun _ _ _ q_ => q_.2.1) (fun _ _ _ q_ => q_.1.tr) hM ⟨wd_cell hW nl99, keep_cell nl99 Keep.refl, mo_newL (ds := []) hW nl99 repL_nil, Nat.le_refl _⟩ ?_ ?_
      · skip
        rintro x109 u110 n100 ys101 k102 H114 H115 hn ⟨hW, hk103, mu104, ln105⟩ ex116 h111 hM Nx108 hN106
        replace h_one := rep_keep hk103 (rep_new nl99 h_one)
        replace h_other := rep_keep hk103 (rep_new nl99 h_other)
        replace h73 := rep_keep hk103 (rep_new nl99 h73)
        replace h74 := rep_keep hk103 (rep_new nl99 h74)
        replace h77 := rep_keep hk103 (rep_new nl99 h77)
        replace h81 := rep_keep hk103 (rep_new nl99 h81)
        replace h84 := rep_keep hk103 (rep_new nl99 h84)
        replace h_one := rep_ext ex116 h_one
        replace h_other := rep_ext ex116 h_other
        replace h73 := rep_ext ex116 h73
        replace h74 := rep_ext ex116 h74
        replace h77 := rep_ext ex116 h77
        replace h81 := rep_ext ex116 h81
        replace h84 := rep_ext ex116 h84
        replace hk103 := keep_ext ex116 hk103
        replace mu104 := mo_ext ex116 mu104
        replace hW := hW.ret0 ex116
        apply rep_gtup h111 rfl
        intro vs117 hv118
        obtain ⟨u119, us120, rfl, h121, hv122⟩ := repL_uncons hv118
        obtain ⟨u123, us124, rfl, h125, hv126⟩ := repL_uncons hv122
        obtain rfl := repL_empty hv126
        refine ⟨_, _, rfl, ?_⟩
        apply rep_gtup h121 rfl
        intro vs127 hv128
        obtain ⟨u129, us130, rfl, h131, hv132⟩ := repL_uncons hv128
        obtain rfl := of_v h131
        obtain ⟨u133, us134, rfl, h135, hv136⟩ := repL_uncons hv132
        obtain rfl := of_v h135
        obtain ⟨u137, us138, rfl, h139, hv140⟩ := repL_uncons hv136
        obtain rfl := of_v h139
        obtain rfl := repL_empty hv140
        refine ⟨_, _, rfl, ?_⟩
        refine ⟨_, _, rfl, ?_⟩
        refine ⟨_, _, rfl, ?_⟩
        refine ⟨rfl, ?_⟩
        refine ⟨_, _, rfl, ?_⟩
        apply rep_gtup h125 rfl
        intro vs141 hv142
        obtain ⟨u143, us144, rfl, h145, hv146⟩ := repL_uncons hv142
        obtain rfl := of_v h145
        obtain ⟨u147, us148, rfl, h149, hv150⟩ := repL_uncons hv146
        obtain rfl := of_v h149
        obtain ⟨u151, us152, rfl, h153, hv154⟩ := repL_uncons hv150
        obtain rfl := of_v h153
        obtain rfl := repL_empty hv154
        refine ⟨_, _, rfl, ?_⟩
        refine ⟨_, _, rfl, ?_⟩
        refine ⟨_, _, rfl, ?_⟩
        refine ⟨rfl, ?_⟩
        refine ⟨rfl, ?_⟩
        refine ⟨(by rw [wipe_set (by decide), wipe_set (by decide), wipe_set (by decide), wipe_set (by decide), wipe_set (by decide), wipe_set (by decide), wipe_idem]), ?_⟩
        refine tyes_of ?_
        refine ⟨_, (by repeat (first | refine gs_ne (by decide) ?_ | exact gs_eq (by simp only [List.length_set, L2.wipe_length]; exact of_decide_eq_true rfl) | rfl)), ?_⟩
        refine ⟨_, (by repeat (first | refine gs_ne (by decide) ?_ | exact gs_eq (by simp only [List.length_set, L2.wipe_length]; exact of_decide_eq_true rfl) | rfl)), ?_⟩
        refine ⟨_, (by repeat (first | refine gs_ne (by decide) ?_ | exact gs_eq (by simp only [List.length_set, L2.wipe_length]; exact of_decide_eq_true rfl) | rfl)), ?_⟩
        obtain ⟨g155, hM⟩ := hM
        refine ⟨_, _, rfl, rfl, g155, ?_⟩
        refine ⟨_, _, rfl, rfl, ?_⟩
        refine ⟨_, (by repeat (first | refine gs_ne (by decide) ?_ | exact gs_eq (by simp only [List.length_set, L2.wipe_length]; exact of_decide_eq_true rfl) | rfl)), ?_⟩
        refine ⟨_, (by repeat (first | refine gs_ne (by decide) ?_ | exact gs_eq (by simp only [List.length_set, L2.wipe_length]; exact of_decide_eq_true rfl) | rfl)), ?_⟩
        refine ⟨_, (by repeat (first | refine gs_ne (by decide) ?_ | exact gs_eq (by simp only [List.length_set, L2.wipe_length]; exact of_decide_eq_true rfl) | rfl)), ?_⟩
        obtain ⟨g156, hM⟩ := hM
        refine ⟨_, _, rfl, rfl, g156, ?_⟩
        refine ⟨_, _, rfl, rfl, ?_⟩
        refine ⟨_, (by repeat (first | refine gs_ne (by decide) ?_ | exact gs_eq (by simp only [List.length_set, L2.wipe_length]; exact of_decide_eq_true rfl) | rfl)), ?_⟩
        refine ⟨_, (by repeat (first | refine gs_ne (by decide) ?_ | exact gs_eq (by simp only [List.length_set, L2.wipe_length]; exact of_decide_eq_true rfl) | rfl)), ?_⟩
        refine ⟨_, (by repeat (first | refine gs_ne (by decide) ?_ | exact gs_eq (by simp only [List.length_set, L2.wipe_length]; exact of_decide_eq_true rfl) | rfl)), ?_⟩
        obtain ⟨g157, hM⟩ := hM
        refine ⟨_, _, rfl, rfl, g157, ?_⟩
        refine ⟨_, _, rfl, rfl, ?_⟩
        refine ⟨(by show 3 ≤ sizeLine; decide), ?_⟩
        intro p158 n162
        have e159 := Rx.Ext.new (H := H115) (o := (HO.tup [V.int (x109.1.1 + (x_sign * x109.2.1)), V.int (x109.1.2.1 + (x_sign * x109.2.2.1)), V.int (x109.1.2.2 + (x_sign * x109.2.2.2))])) n162
        have hp160 : upd H115 p158 (HO.tup [V.int (x109.1.1 + (x_sign * x109.2.1)), V.int (x109.1.2.1 + (x_sign * x109.2.2.1)), V.int (x109.1.2.2 + (x_sign * x109.2.2.2))]) p158 = some (HO.tup [V.int (x109.1.1 + (x_sign * x109.2.1)), V.int (x109.1.2.1 + (x_sign * x109.2.2.1)), V.int (x109.1.2.2 + (x_sign * x109.2.2.2))]) := upd_same
        generalize upd H115 p158 (HO.tup [V.int (x109.1.1 + (x_sign * x109.2.1)), V.int (x109.1.2.1 + (x_sign * x109.2.2.1)), V.int (x109.1.2.2 + (x_sign * x109.2.2.2))]) = H163 at e159 hp160 ⊢
        have h161 : rep (L98 :: ms) H163 (D.tup [(D.v (V.int (x109.1.1 + (x_sign * x109.2.1)))), (D.v (V.int (x109.1.2.1 + (x_sign * x109.2.2.1)))), (D.v (V.int (x109.1.2.2 + (x_sign * x109.2.2.2))))]) (.ref p158) := rep_tup_mk hW n162 e159 hp160 (repL_cons rep_v (repL_cons rep_v (repL_cons rep_v repL_nil)))
        replace h_one := rep_ext e159 h_one
        replace h_other := rep_ext e159 h_other
        replace h73 := rep_ext e159 h73
        replace h74 := rep_ext e159 h74
        replace h77 := rep_ext e159 h77
        replace h81 := rep_ext e159 h81
        replace h84 := rep_ext e159 h84
        replace hk103 := keep_ext e159 hk103
        replace h111 := rep_ext e159 h111
        replace h121 := rep_ext e159 h121
        replace h125 := rep_ext e159 h125
        replace mu104 := mo_ext e159 mu104
        replace hW := hW.ret0 e159
        refine mo_end mu104 hn (by rw [List.length_map]; exact ln105) fun vs164 hr165 => ?_
        have mk167 := mo_setL mu104 (repL_snoc (e := (fun y_ : (Int × Int × Int) => (D.tup [(D.v (V.int y_.1)), (D.v (V.int y_.2.1)), (D.v (V.int y_.2.2))]))) (xs := ys101) (y := ((x109.1.1 + (x_sign * x109.2.1)), (x109.1.2.1 + (x_sign * x109.2.2.1)), (x109.1.2.2 + (x_sign * x109.2.2.2)))) hr165 h161)
        replace h_one := rep_put (o := .lst (vs164 ++ [(V.ref p158)])) mu104.im h_one
        replace h_other := rep_put (o := .lst (vs164 ++ [(V.ref p158)])) mu104.im h_other
        replace h73 := rep_put (o := .lst (vs164 ++ [(V.ref p158)])) mu104.im h73
        replace h74 := rep_put (o := .lst (vs164 ++ [(V.ref p158)])) mu104.im h74
        replace h77 := rep_put (o := .lst (vs164 ++ [(V.ref p158)])) mu104.im h77
        replace h81 := rep_put (o := .lst (vs164 ++ [(V.ref p158)])) mu104.im h81
        replace h84 := rep_put (o := .lst (vs164 ++ [(V.ref p158)])) mu104.im h84
        replace hk103 := keep_put (o := .lst (vs164 ++ [(V.ref p158)])) mu104.im hk103
        replace h111 := rep_put (o := .lst (vs164 ++ [(V.ref p158)])) mu104.im h111
        replace h121 := rep_put (o := .lst (vs164 ++ [(V.ref p158)])) mu104.im h121
        replace h125 := rep_put (o := .lst (vs164 ++ [(V.ref p158)])) mu104.im h125
        replace h161 := rep_put (o := .lst (vs164 ++ [(V.ref p158)])) mu104.im h161
        replace hW := wd_put (o := .lst (vs164 ++ [(V.ref p158)])) hW mu104
        replace mu104 := mk167
        generalize upd H163 L98 (.lst (vs164 ++ [(V.ref p158)])) = H168 at *
        replace mu104 : MutO (L98 :: ms) [] H_0 H168 L98 (D.lst ((ys101 ++ [((x109.1.1 + (x_sign * x109.2.1)), (x109.1.2.1 + (x_sign * x109.2.2.1)), (x109.1.2.2 + (x_sign * x109.2.2.2)))]).map (fun y_ : (Int × Int × Int) => (D.tup [(D.v (V.int y_.1)), (D.v (V.int y_.2.1)), (D.v (V.int y_.2.2))])))) := mu104
        clear mk167
        exact hN106 ((x109.1.1 + (x_sign * x109.2.1)), (x109.1.2.1 + (x_sign * x109.2.2.1)), (x109.1.2.2 + (x_sign * x109.2.2.2))) _ hM ⟨hW, hk103, mu104, by rw [List.length_append]; exact Nat.add_le_add_right ln105 1⟩
      · skip
        rintro n100 ys169 H170 hM ⟨hW, hk103, mu104, ln105⟩
        replace h_one := rep_keep hk103 (rep_new nl99 h_one)
        replace h_other := rep_keep hk103 (rep_new nl99 h_other)
        replace h73 := rep_keep hk103 (rep_new nl99 h73)
        replace h74 := rep_keep hk103 (rep_new nl99 h74)
        replace h77 := rep_keep hk103 (rep_new nl99 h77)
        replace h81 := rep_keep hk103 (rep_new nl99 h81)
        replace h84 := rep_keep hk103 (rep_new nl99 h84)
        clear hk103 ln105
        have h171 := mo_rep_dr dr_here nm113 mu104
        replace hW := wd_dr dr_here mu104.hp hW
        replace h_one := rep_dr dr_here h_one
        replace h_other := rep_dr dr_here h_other
        replace h73 := rep_dr dr_here h73
        replace h74 := rep_dr dr_here h74
        replace h77 := rep_dr dr_here h77
        replace h81 := rep_dr dr_here h81
        replace h84 := rep_dr dr_here h84
        clear mu104
        refine ⟨_, (by repeat (first | refine gs_ne (by decide) ?_ | exact gs_eq (by simp only [List.length_set, L2.wipe_length]; exact of_decide_eq_true rfl) | rfl)), ?_⟩
        refine ⟨_, (by repeat (first | refine gs_ne (by decide) ?_ | exact gs_eq (by simp only [List.length_set, L2.wipe_length]; exact of_decide_eq_true rfl) | rfl)), ?_⟩
        refine ⟨_, (by repeat (first | refine gs_ne (by decide) ?_ | exact gs_eq (by simp only [List.length_set, L2.wipe_length]; exact of_decide_eq_true rfl) | rfl)), ?_⟩
        refine ⟨ms, _, _, (if r8 > r2 then r8 else r2), ys71, ys169, _, rfl, hW.enter0, h73, h171, hM, fun r172 u175 H176 hM e174 h173 => ?_⟩
        replace h_one := rep_ext e174 h_one
        replace h_other := rep_ext e174 h_other
        replace h73 := rep_ext e174 h73
        replace h74 := rep_ext e174 h74
        replace h77 := rep_ext e174 h77
        replace h81 := rep_ext e174 h81
        replace h84 := rep_ext e174 h84
        replace h171 := rep_ext e174 h171
        replace hW := hW.ret0 e174
        exact hQ r172 _ _ hM hW.out h173
def M_fewest_early (x_first : Int) (x_early : (List Int)) (x_rows : (List (Int × Int × Int))) (KM : (List Int) → Prop) : Prop :=
  (∃ fu1, whileC (fun (s2 : Int) (k3 k4 : Int → Prop) => (if (decide ((0 : Int) < s2)) = true then (0 ≤ (s2 - (1 : Int)) ∧ ∃ g12 : Int.toNat (s2 - (1 : Int)) < x_early.length, ∀ x14, x14 = x_early[Int.toNat (s2 - (1 : Int))]'g12 → (M_place_value x_rows ((x_first + s2) - (1 : Int)) fun r16 => (if (decide (V.int x14 = V.int r16)) = true then (k3 ((s2 - (1 : Int)))) else (k4 (s2))))) else (k4 (s2)))) fu1 ((x_early.length : Int)) fun s21 => (KM (cutM x_early none (some s21))))
def sp_fewest_early (A : Ad) : Sp := fun vs H Q _ => ∃ (ms : List Addr) (v_early : V) (v_rows : V) (x_first : Int) (x_early : (List Int)) (x_rows : (List (Int × Int × Int))) (KM : (List Int) → Prop), vs = [V.int x_first, v_early, v_rows] ∧ Wd ms [] [] H H ∧ rep ms H (D.lst (x_early.map (fun y_ : Int => (D.v (V.int y_))))) v_early ∧ rep ms H (D.lst (x_rows.map (fun y_ : (Int × Int × Int) => (D.tup [(D.v (V.int y_.1)), (D.v (V.int y_.2.1)), (D.v (V.int y_.2.2))])))) v_rows ∧ M_fewest_early x_first x_early x_rows KM ∧ ∀ (r : (List Int)) (u : V) (H1 : Hp), KM r → Ret [] H H1 → rep ms H1 (D.lst (r.map (fun y_ : Int => (D.v (V.int y_))))) u → Q u H1
set_option maxHeartbeats 16000000 in
theorem ok_fewest_early {P : Program} {w : World} {K : PySem.W.Frag} {mg : Str → Option Value} {base : Heap} {A : Ad} (T : Txt w K mg A) : FnOk P w K mg base CX0 3 A.a_fewest_early A.d_fewest_early ["first", "early", "rows"] (sp_fewest_early A) := by
  refine T.F_fewest_early.ok sc_fewest_early (fun vs H Q E h => ?_) (fun cdv A_ outer s_ H_0 vs Q E hr h => ?_)
  · obtain ⟨ms, v_early, v_rows, x_first, x_early, x_rows, KM, rfl, _⟩ := h
    rfl
  · obtain ⟨ms, v_early, v_rows, x_first, x_early, x_rows, KM, rfl, hW, h_early, h_rows, hM, hQ⟩ := h
    unfold M_fewest_early at hM
    refine ⟨_, (pss_cons (ps_set (i := 3) sc_fewest_early.nd rfl (by first | exact Or.inl rfl | exact Or.inr rfl) (pe_callB (call_lenK (K := K) rfl) (by rfl) T.z_len PySem.boot_len (pa_cons (pv 1) pa_nil))) (pss_cons (ps_while PassesOwn.never (pt_up (PW.pt (pw_and (pt_cmpR op_gt (pv 3) pe_int (nomark _)) (pw_and1 (pt_cmpR op_eq (pe_ix (ix_listK (K := K) rfl) (pv 1) (pe_op op_sub (pv 3) pe_int) (fun _ _ => rfl)) (pe_call (ok_place_value T) (hr.mono (by decide)) (by rfl) T.g_place_value T.F_place_value.kp T.b_place_value .nil pass0 (pa_cons (pv 2) (pa_cons (pe_op op_sub (pe_op op_add (pv 0) (pv 3)) pe_int) pa_nil))) (nomark _)))))) (pss_one (ps_set (i := 3) sc_fewest_early.nd rfl (by first | exact Or.inl rfl | exact Or.inr rfl) (pe_op op_sub (pv 3) pe_int)))) (pss_one (ps_ret (pe_slice (sl_listK (K := K) rfl) (pv 1) po_none (po_some (pv 3))))))), ?_⟩
    refine ⟨_, rfl, ?_⟩
    apply rep_lenL (e := (fun y_ : Int => (D.v (V.int y_)))) (xs := x_early) h_early
    obtain ⟨fu1, hM⟩ := hM
    refine while_G (S := Int) (fun (s : Int) σ_ h_ => σ_ = [some (V.int x_first), some v_early, some v_rows, some (V.int s)] ∧ Wd ms [] [] H_0 h_ ∧ Keep ms H_0 h_) ((x_early.length : Int)) hM ⟨rfl, hW, Keep.refl⟩ ?_ ?_ ?_
    · skip
      rintro s2 k3 k4 _ H10 ⟨rfl, hW, hk5⟩ hM Nx6 Ex7 hN8 hE9
      replace h_early := rep_keep hk5 h_early
      replace h_rows := rep_keep hk5 h_rows
      refine ⟨_, ?_, fun _ _ h_ => h_⟩
      refine ⟨_, rfl, ?_⟩
      refine ⟨_, _, rfl, rfl, ?_⟩
      refine ⟨_, rfl, ?_⟩
      refine ite3 hM (fun hM => ?_) (fun hM => ?_)
      · skip
        refine ⟨_, rfl, ?_⟩
        refine ⟨_, rfl, ?_⟩
        refine ⟨_, _, rfl, rfl, ?_⟩
        obtain ⟨g11, g12, hM⟩ := hM
        apply rep_ixL (e := (fun y_ : Int => (D.v (V.int y_)))) (xs := x_early) h_early g11 g12
        intro u15 h13
        obtain ⟨x14, x14e⟩ : ∃ x_, x_ = x_early[Int.toNat (s2 - (1 : Int))]'g12 := ⟨_, rfl⟩
        rw [← x14e] at h13
        replace hM := hM x14 x14e
        obtain rfl := of_v h13
        refine ⟨_, rfl, ?_⟩
        refine ⟨_, rfl, ?_⟩
        refine ⟨_, rfl, ?_⟩
        refine ⟨_, _, rfl, rfl, ?_⟩
        refine ⟨_, _, rfl, rfl, ?_⟩
        refine ⟨ms, _, x_rows, ((x_first + s2) - (1 : Int)), _, rfl, hW.enter0, h_rows, hM, fun r16 u19 H20 hM e18 h17 => ?_⟩
        replace h_early := rep_ext e18 h_early
        replace h_rows := rep_ext e18 h_rows
        replace hk5 := keep_ext e18 hk5
        replace hW := hW.ret0 e18
        obtain rfl := of_v h17
        refine ⟨rfl, ?_⟩
        refine ⟨_, rfl, ?_⟩
        refine ite3 hM (fun hM => ?_) (fun hM => ?_)
        · skip
          refine ⟨_, rfl, ?_⟩
          refine ⟨_, _, rfl, rfl, ?_⟩
          exact hN8 ((s2 - (1 : Int))) _ _ hM ⟨rfl, hW, hk5⟩
        · skip
          exact hE9 (s2) _ _ hM ⟨rfl, hW, hk5⟩
      · skip
        refine iteF ?_
        exact hE9 (s2) _ _ hM ⟨rfl, hW, hk5⟩
    · skip
      rintro s21 _ H23 hM ⟨rfl, hW, hk22⟩
      replace h_early := rep_keep hk22 h_early
      replace h_rows := rep_keep hk22 h_rows
      refine ⟨_, rfl, ?_⟩
      refine ⟨_, rfl, ?_⟩
      refine ⟨_, rfl, ?_⟩
      apply rep_lsU h_early
      intro vs24 hr25
      intro p26 n30
      have e27 := Rx.Ext.new (H := H23) (o := (HO.lst (cutV vs24 none (some s21)))) n30
      have hp28 : upd H23 p26 (HO.lst (cutV vs24 none (some s21))) p26 = some (HO.lst (cutV vs24 none (some s21))) := upd_same
      generalize upd H23 p26 (HO.lst (cutV vs24 none (some s21))) = H31 at e27 hp28 ⊢
      have h29 : rep ms H31 (D.lst ((cutM x_early none (some s21)).map (fun y_ : Int => (D.v (V.int y_))))) (.ref p26) := rep_lst_mk hW n30 e27 hp28 (repL_cut (e := (fun y_ : Int => (D.v (V.int y_)))) (xs := x_early) hr25)
      replace h_early := rep_ext e27 h_early
      replace h_rows := rep_ext e27 h_rows
      replace hW := hW.ret0 e27
      exact hQ (cutM x_early none (some s21)) _ _ hM hW.out h29
    · skip
      exact fun _ _ _ _ m_ ⟨Q_, h_, m1_⟩ => ⟨Q_, h_, fun b_ H_ q_ => m_ b_ H_ (m1_ b_ H_ q_)⟩
def M_folded (x_rows : (List (Int × Int × Int))) (x_period : Int) (KM : (List (Int × Int × Int)) → Prop) : Prop :=
  (CDivW (x_rows.length : Int) x_period ∧ ((cutM x_rows none (some x_period)).length < 100000 ∧ mapC (fun (x26 : (Int × Int × Int)) (k19 : (Int × Int × Int) → Prop) => (CMulW ((x_rows.length : Int) / x_period) ((x_rows.length : Int) / x_period) ∧ (CDivW x26.1 (((x_rows.length : Int) / x_period) * ((x_rows.length : Int) / x_period)) ∧ (CDivW x26.2.1 ((x_rows.length : Int) / x_period) ∧ (k19 ((x26.1 / (((x_rows.length : Int) / x_period) * ((x_rows.length : Int) / x_period))), (x26.2.1 / ((x_rows.length : Int) / x_period)), x26.2.2)))))) (cutM x_rows none (some x_period)) [] fun ys60 => (KM ys60)))
def sp_folded (A : Ad) : Sp := fun vs H Q _ => ∃ (ms : List Addr) (v_rows : V) (x_rows : (List (Int × Int × Int))) (x_period : Int) (KM : (List (Int × Int × Int)) → Prop), vs = [v_rows, V.int x_period] ∧ Wd ms [] [] H H ∧ rep ms H (D.lst (x_rows.map (fun y_ : (Int × Int × Int) => (D.tup [(D.v (V.int y_.1)), (D.v (V.int y_.2.1)), (D.v (V.int y_.2.2))])))) v_rows ∧ M_folded x_rows x_period KM ∧ ∀ (r : (List (Int × Int × Int))) (u : V) (H1 : Hp), KM r → Ret [] H H1 → rep ms H1 (D.lst (r.map (fun y_ : (Int × Int × Int) => (D.tup [(D.v (V.int y_.1)), (D.v (V.int y_.2.1)), (D.v (V.int y_.2.2))])))) u → Q u H1
set_option maxHeartbeats 16000000 in
theorem ok_folded {P : Program} {w : World} {K : PySem.W.Frag} {mg : Str → Option Value} {base : Heap} {A : Ad} (T : Txt w K mg A) : FnOk P w K mg base CX0 1 A.a_folded A.d_folded ["rows", "period"] (sp_folded A) := by
  refine T.F_folded.ok sc_folded (fun vs H Q E h => ?_) (fun cdv A_ outer s_ H_0 vs Q E hr h => ?_)
  · obtain ⟨ms, v_rows, x_rows, x_period, KM, rfl, _⟩ := h
    rfl
  · obtain ⟨ms, v_rows, x_rows, x_period, KM, rfl, hW, h_rows, hM, hQ⟩ := h
    unfold M_folded at hM
    refine ⟨_, (pss_cons (ps_set (i := 2) sc_folded.nd rfl (by first | exact Or.inl rfl | exact Or.inr rfl) (pe_op op_fdivW (pe_callB (call_lenK (K := K) rfl) (by rfl) T.z_len PySem.boot_len (pa_cons (pv 0) pa_nil)) (pv 1))) (pss_one (ps_ret (pe_lc (own := [("a", 3), ("b", 4), ("c", 5)]) (g := (gTup K 3 (gCons (gName 3) (gCons (gName 4) (gCons (gName 5) gNil))))) rfl sc_folded.nd (pi_list (pe_slice (sl_listK (K := K) rfl) (pv 0) po_none (po_some (pv 1)))) (blkOk_by (N := ["rows", "period", "many", "a", "b", "c"]) (sc := defScope s_folded) (by decide +kernel)) (fun _ _ _ _ _ => (pg_tup rfl (pgs_cons (pg_name (i := 3) sc_folded.nd rfl (by first | exact Or.inl rfl | exact Or.inr rfl)) (pgs_cons (pg_name (i := 4) sc_folded.nd rfl (by first | exact Or.inl rfl | exact Or.inr rfl)) (pgs_cons (pg_name (i := 5) sc_folded.nd rfl (by first | exact Or.inl rfl | exact Or.inr rfl)) pgs_nil))))) (fun _ _ _ _ _ => pts_nil) (fun _ _ _ _ _ => (pe_tup (pa_cons (pe_op op_fdivW (pv 3) (pe_op op_mulW (pv 2) (pv 2))) (pa_cons (pe_op op_fdivW (pv 4) (pv 2)) (pa_cons (pv 5) pa_nil))))))))), ?_⟩
    refine ⟨_, rfl, ?_⟩
    apply rep_lenL (e := (fun y_ : (Int × Int × Int) => (D.tup [(D.v (V.int y_.1)), (D.v (V.int y_.2.1)), (D.v (V.int y_.2.2))]))) (xs := x_rows) h_rows
    refine ⟨_, rfl, ?_⟩
    obtain ⟨g1, hM⟩ := hM
    refine ⟨_, _, rfl, rfl, g1, ?_⟩
    refine ⟨_, rfl, ?_⟩
    refine ⟨_, rfl, ?_⟩
    refine ⟨_, rfl, ?_⟩
    apply rep_lsU h_rows
    intro vs2 hr3
    intro p4 n8
    have e5 := Rx.Ext.new (H := H_0) (o := (HO.lst (cutV vs2 none (some x_period)))) n8
    have hp6 : upd H_0 p4 (HO.lst (cutV vs2 none (some x_period))) p4 = some (HO.lst (cutV vs2 none (some x_period))) := upd_same
    generalize upd H_0 p4 (HO.lst (cutV vs2 none (some x_period))) = H9 at e5 hp6 ⊢
    have h7 : rep ms H9 (D.lst ((cutM x_rows none (some x_period)).map (fun y_ : (Int × Int × Int) => (D.tup [(D.v (V.int y_.1)), (D.v (V.int y_.2.1)), (D.v (V.int y_.2.2))])))) (.ref p4) := rep_lst_mk hW n8 e5 hp6 (repL_cut (e := (fun y_ : (Int × Int × Int) => (D.tup [(D.v (V.int y_.1)), (D.v (V.int y_.2.1)), (D.v (V.int y_.2.2))]))) (xs := x_rows) hr3)
    replace h_rows := rep_ext e5 h_rows
    replace hW := hW.ret0 e5
    apply rep_iter h7
    intro a10 xs11 _ an12 hp13 hl14
    refine fun L15 nl16 => ?_
    have nm30 := nm_new hW nl16
    refine lc_listG (L := L15) (fun n_ ys_ h_ => Wd (L15 :: ms) [] [] H_0 h_ ∧ Keep (L15 :: ms) H9 h_ ∧ MutO (L15 :: ms) [] H_0 h_ L15 (D.lst (ys_.map (fun y_ : (Int × Int × Int) => (D.tup [(D.v (V.int y_.1)), (D.v (V.int y_.2.1)), (D.v (V.int y_.2.2))])))) ∧ ys_.length ≤ n_) (items := (cutM x_rows none (some x_period))) (e := (fun y_ : (Int × Int × Int) => (D.tup [(D.v (V.int y_.1)), (D.v (V.int y_.2.1)), (D.v (V.int y_.2.2))]))) an12 hp13 hl14 nl16 (fun _ _ _ q_ => q_.2.1) hM ⟨wd_cell hW nl16, keep_cell nl16 Keep.refl, mo_newL (ds := []) hW nl16 repL_nil, Nat.le_refl _⟩ ?_ ?_
    · skip
      rintro x26 u27 n17 ys18 k19 H31 hn ⟨hW, hk20, mu21, ln22⟩ h28 hM Nx25 hN23
      replace h_rows := rep_keep hk20 (rep_new nl16 h_rows)
      replace h7 := rep_keep hk20 (rep_new nl16 h7)
      apply rep_gtup h28 rfl
      intro vs32 hv33
      obtain ⟨u34, us35, rfl, h36, hv37⟩ := repL_uncons hv33
      obtain rfl := of_v h36
      obtain ⟨u38, us39, rfl, h40, hv41⟩ := repL_uncons hv37
      obtain rfl := of_v h40
      obtain ⟨u42, us43, rfl, h44, hv45⟩ := repL_uncons hv41
      obtain rfl := of_v h44
      obtain rfl := repL_empty hv45
      refine ⟨_, _, rfl, ?_⟩
      refine ⟨_, _, rfl, ?_⟩
      refine ⟨_, _, rfl, ?_⟩
      refine ⟨rfl, ?_⟩
      refine ⟨rfl, ?_⟩
      refine tyes_of ?_
      refine ⟨_, rfl, ?_⟩
      refine ⟨_, rfl, ?_⟩
      refine ⟨_, rfl, ?_⟩
      obtain ⟨g46, hM⟩ := hM
      refine ⟨_, _, rfl, rfl, g46, ?_⟩
      obtain ⟨g47, hM⟩ := hM
      refine ⟨_, _, rfl, rfl, g47, ?_⟩
      refine ⟨_, rfl, ?_⟩
      refine ⟨_, rfl, ?_⟩
      obtain ⟨g48, hM⟩ := hM
      refine ⟨_, _, rfl, rfl, g48, ?_⟩
      refine ⟨_, rfl, ?_⟩
      refine ⟨(by show 3 ≤ sizeLine; decide), ?_⟩
      intro p49 n53
      have e50 := Rx.Ext.new (H := H31) (o := (HO.tup [V.int (x26.1 / (((x_rows.length : Int) / x_period) * ((x_rows.length : Int) / x_period))), V.int (x26.2.1 / ((x_rows.length : Int) / x_period)), V.int x26.2.2])) n53
      have hp51 : upd H31 p49 (HO.tup [V.int (x26.1 / (((x_rows.length : Int) / x_period) * ((x_rows.length : Int) / x_period))), V.int (x26.2.1 / ((x_rows.length : Int) / x_period)), V.int x26.2.2]) p49 = some (HO.tup [V.int (x26.1 / (((x_rows.length : Int) / x_period) * ((x_rows.length : Int) / x_period))), V.int (x26.2.1 / ((x_rows.length : Int) / x_period)), V.int x26.2.2]) := upd_same
      generalize upd H31 p49 (HO.tup [V.int (x26.1 / (((x_rows.length : Int) / x_period) * ((x_rows.length : Int) / x_period))), V.int (x26.2.1 / ((x_rows.length : Int) / x_period)), V.int x26.2.2]) = H54 at e50 hp51 ⊢
      have h52 : rep (L15 :: ms) H54 (D.tup [(D.v (V.int (x26.1 / (((x_rows.length : Int) / x_period) * ((x_rows.length : Int) / x_period))))), (D.v (V.int (x26.2.1 / ((x_rows.length : Int) / x_period)))), (D.v (V.int x26.2.2))]) (.ref p49) := rep_tup_mk hW n53 e50 hp51 (repL_cons rep_v (repL_cons rep_v (repL_cons rep_v repL_nil)))
      replace h_rows := rep_ext e50 h_rows
      replace h7 := rep_ext e50 h7
      replace hk20 := keep_ext e50 hk20
      replace h28 := rep_ext e50 h28
      replace mu21 := mo_ext e50 mu21
      replace hW := hW.ret0 e50
      refine mo_end mu21 hn (by rw [List.length_map]; exact ln22) fun vs55 hr56 => ?_
      have mk58 := mo_setL mu21 (repL_snoc (e := (fun y_ : (Int × Int × Int) => (D.tup [(D.v (V.int y_.1)), (D.v (V.int y_.2.1)), (D.v (V.int y_.2.2))]))) (xs := ys18) (y := ((x26.1 / (((x_rows.length : Int) / x_period) * ((x_rows.length : Int) / x_period))), (x26.2.1 / ((x_rows.length : Int) / x_period)), x26.2.2)) hr56 h52)
      replace h_rows := rep_put (o := .lst (vs55 ++ [(V.ref p49)])) mu21.im h_rows
      replace h7 := rep_put (o := .lst (vs55 ++ [(V.ref p49)])) mu21.im h7
      replace hk20 := keep_put (o := .lst (vs55 ++ [(V.ref p49)])) mu21.im hk20
      replace h28 := rep_put (o := .lst (vs55 ++ [(V.ref p49)])) mu21.im h28
      replace h52 := rep_put (o := .lst (vs55 ++ [(V.ref p49)])) mu21.im h52
      replace hW := wd_put (o := .lst (vs55 ++ [(V.ref p49)])) hW mu21
      replace mu21 := mk58
      generalize upd H54 L15 (.lst (vs55 ++ [(V.ref p49)])) = H59 at *
      replace mu21 : MutO (L15 :: ms) [] H_0 H59 L15 (D.lst ((ys18 ++ [((x26.1 / (((x_rows.length : Int) / x_period) * ((x_rows.length : Int) / x_period))), (x26.2.1 / ((x_rows.length : Int) / x_period)), x26.2.2)]).map (fun y_ : (Int × Int × Int) => (D.tup [(D.v (V.int y_.1)), (D.v (V.int y_.2.1)), (D.v (V.int y_.2.2))])))) := mu21
      clear mk58
      exact hN23 ((x26.1 / (((x_rows.length : Int) / x_period) * ((x_rows.length : Int) / x_period))), (x26.2.1 / ((x_rows.length : Int) / x_period)), x26.2.2) _ hM ⟨hW, hk20, mu21, by rw [List.length_append]; exact Nat.add_le_add_right ln22 1⟩
    · skip
      rintro n17 ys60 H61 hM ⟨hW, hk20, mu21, ln22⟩
      replace h_rows := rep_keep hk20 (rep_new nl16 h_rows)
      replace h7 := rep_keep hk20 (rep_new nl16 h7)
      clear hk20 ln22
      have h62 := mo_rep_dr dr_here nm30 mu21
      replace hW := wd_dr dr_here mu21.hp hW
      replace h_rows := rep_dr dr_here h_rows
      replace h7 := rep_dr dr_here h7
      clear mu21
      exact hQ ys60 _ _ hM hW.out h62
def M_fewest_rows (x_rows : (List (Int × Int × Int))) (KM : (List (Int × Int × Int)) → Prop) : Prop :=
  (forC (fun (x1 : Int) (s3 : Unit) (k4 : Unit → Prop) => (0 < x1 ∧ (if (decide (V.int ((x_rows.length : Int) % x1) = V.int (0 : Int))) = true then (M_folded x_rows x1 fun r13 => (M_spread r13 (x_rows.length : Int) fun r18 => (((plainD (D.lst (r18.map (fun y_ : (Int × Int × Int) => (D.tup [(D.v (V.int y_.1)), (D.v (V.int y_.2.1)), (D.v (V.int y_.2.2))])))) = true ∧ plainD (D.lst (x_rows.map (fun y_ : (Int × Int × Int) => (D.tup [(D.v (V.int y_.1)), (D.v (V.int y_.2.1)), (D.v (V.int y_.2.2))])))) = true ∧ SeqAt.shaped (pyOf (D.lst (r18.map (fun y_ : (Int × Int × Int) => (D.tup [(D.v (V.int y_.1)), (D.v (V.int y_.2.1)), (D.v (V.int y_.2.2))]))))) = true ∧ SeqAt.shaped (pyOf (D.lst (x_rows.map (fun y_ : (Int × Int × Int) => (D.tup [(D.v (V.int y_.1)), (D.v (V.int y_.2.1)), (D.v (V.int y_.2.2))]))))) = true)) ∧ (if (PyData.eqv (pyOf (D.lst (r18.map (fun y_ : (Int × Int × Int) => (D.tup [(D.v (V.int y_.1)), (D.v (V.int y_.2.1)), (D.v (V.int y_.2.2))]))))) (pyOf (D.lst (x_rows.map (fun y_ : (Int × Int × Int) => (D.tup [(D.v (V.int y_.1)), (D.v (V.int y_.2.1)), (D.v (V.int y_.2.2))])))))) = true then (KM r13) else (k4 ()))))) else (k4 ())))) (rangeI (1 : Int) (x_rows.length : Int)) () fun s24 => (KM x_rows))
def sp_fewest_rows (A : Ad) : Sp := fun vs H Q _ => ∃ (ms : List Addr) (v_rows : V) (x_rows : (List (Int × Int × Int))) (KM : (List (Int × Int × Int)) → Prop), vs = [v_rows] ∧ Wd ms [] [] H H ∧ rep ms H (D.lst (x_rows.map (fun y_ : (Int × Int × Int) => (D.tup [(D.v (V.int y_.1)), (D.v (V.int y_.2.1)), (D.v (V.int y_.2.2))])))) v_rows ∧ M_fewest_rows x_rows KM ∧ ∀ (r : (List (Int × Int × Int))) (u : V) (H1 : Hp), KM r → Ret [] H H1 → rep ms H1 (D.lst (r.map (fun y_ : (Int × Int × Int) => (D.tup [(D.v (V.int y_.1)), (D.v (V.int y_.2.1)), (D.v (V.int y_.2.2))])))) u → Q u H1
set_option maxHeartbeats 16000000 in
theorem ok_fewest_rows {P : Program} {w : World} {K : PySem.W.Frag} {mg : Str → Option Value} {base : Heap} {A : Ad} (T : Txt w K mg A) : FnOk P w K mg base CX0 4 A.a_fewest_rows A.d_fewest_rows ["rows"] (sp_fewest_rows A) := by
  refine T.F_fewest_rows.ok sc_fewest_rows (fun vs H Q E h => ?_) (fun cdv A_ outer s_ H_0 vs Q E hr h => ?_)
  · obtain ⟨ms, v_rows, x_rows, KM, rfl, _⟩ := h
    rfl
  · obtain ⟨ms, v_rows, x_rows, KM, rfl, hW, h_rows, hM, hQ⟩ := h
    unfold M_fewest_rows at hM
    refine ⟨_, (pss_cons (ps_for PassesOwn.never rfl (pi_rangeW2 (by rfl) T.z_range (pa_cons pe_int (pa_cons (pe_callB (call_lenK (K := K) rfl) (by rfl) T.z_len PySem.boot_len (pa_cons (pv 0) pa_nil)) pa_nil))) (pg_name (i := 1) sc_fewest_rows.nd rfl (by first | exact Or.inl rfl | exact Or.inr rfl)) (pss_one (ps_if (pt_cmpR op_eq (pe_op op_mod (pe_callB (call_lenK (K := K) rfl) (by rfl) T.z_len PySem.boot_len (pa_cons (pv 0) pa_nil)) (pv 1)) pe_int (nomark _)) (pss_cons (ps_set (i := 2) sc_fewest_rows.nd rfl (by first | exact Or.inl rfl | exact Or.inr rfl) (pe_call (ok_folded T) (hr.mono (by decide)) (by rfl) T.g_folded T.F_folded.kp T.b_folded .nil pass0 (pa_cons (pv 0) (pa_cons (pv 1) pa_nil)))) (pss_one (ps_if (pt_cmpR (op_eqDK (K := K) rfl hr.units) (pe_call (ok_spread T) (hr.mono (by decide)) (by rfl) T.g_spread T.F_spread.kp T.b_spread .nil pass0 (pa_cons (pv 2) (pa_cons (pe_callB (call_lenK (K := K) rfl) (by rfl) T.z_len PySem.boot_len (pa_cons (pv 0) pa_nil)) pa_nil))) (pv 0) (nomark _)) (pss_one (ps_ret (pv 2))) pss_nil))) pss_nil))) (pss_one (ps_ret (pe_callTy (call_list_ofK (K := K) rfl) (by rfl) T.z_list (by decide +kernel) (pa_cons (pv 0) pa_nil))))), ?_⟩
    refine ⟨_, rfl, ?_⟩
    apply rep_lenL (e := (fun y_ : (Int × Int × Int) => (D.tup [(D.v (V.int y_.1)), (D.v (V.int y_.2.1)), (D.v (V.int y_.2.2))]))) (xs := x_rows) h_rows
    refine ⟨_, _, rfl, ?_⟩
    refine for_rangeG (S := Unit) (lo := (1 : Int)) (hi := (x_rows.length : Int)) (N := Int.toNat ((x_rows.length : Int) - (1 : Int))) (fun (s : Unit) σ_ h_ => ∃ (w_0 : Option V), ∃ (w_1 : Option V), σ_ = [some v_rows, w_0, w_1] ∧ Wd ms [] [] H_0 h_ ∧ Keep ms H_0 h_) () (by simp) hM ⟨_, _, rfl, hW, Keep.refl⟩ ?_ ?_
    · skip
      rintro x1 s3 k4 _ H11 ⟨w9, w10, rfl, hW, hk5⟩ hM Nx7 hN8
      replace h_rows := rep_keep hk5 h_rows
      refine ⟨_, rfl, ?_⟩
      apply rep_lenL (e := (fun y_ : (Int × Int × Int) => (D.tup [(D.v (V.int y_.1)), (D.v (V.int y_.2.1)), (D.v (V.int y_.2.2))]))) (xs := x_rows) h_rows
      refine ⟨_, rfl, ?_⟩
      obtain ⟨g12, hM⟩ := hM
      refine ⟨_, _, rfl, rfl, g12, ?_⟩
      refine ⟨rfl, ?_⟩
      refine ⟨_, rfl, ?_⟩
      refine ite3 hM (fun hM => ?_) (fun hM => ?_)
      · skip
        refine ⟨_, rfl, ?_⟩
        refine ⟨_, rfl, ?_⟩
        refine ⟨ms, _, x_rows, x1, _, rfl, hW.enter0, h_rows, hM, fun r13 u16 H17 hM e15 h14 => ?_⟩
        replace h_rows := rep_ext e15 h_rows
        replace hk5 := keep_ext e15 hk5
        replace hW := hW.ret0 e15
        refine ⟨_, rfl, ?_⟩
        refine ⟨_, rfl, ?_⟩
        apply rep_lenL (e := (fun y_ : (Int × Int × Int) => (D.tup [(D.v (V.int y_.1)), (D.v (V.int y_.2.1)), (D.v (V.int y_.2.2))]))) (xs := x_rows) h_rows
        refine ⟨ms, _, r13, (x_rows.length : Int), _, rfl, hW.enter0, h14, hM, fun r18 u21 H22 hM e20 h19 => ?_⟩
        replace h_rows := rep_ext e20 h_rows
        replace hk5 := keep_ext e20 hk5
        replace h14 := rep_ext e20 h14
        replace hW := hW.ret0 e20
        refine ⟨_, rfl, ?_⟩
        obtain ⟨g23, hM⟩ := hM
        apply rep_eqD (d := (D.lst (r18.map (fun y_ : (Int × Int × Int) => (D.tup [(D.v (V.int y_.1)), (D.v (V.int y_.2.1)), (D.v (V.int y_.2.2))]))))) (e := (D.lst (x_rows.map (fun y_ : (Int × Int × Int) => (D.tup [(D.v (V.int y_.1)), (D.v (V.int y_.2.1)), (D.v (V.int y_.2.2))]))))) h19 h_rows g23.1 g23.2.1 g23.2.2.1 g23.2.2.2
        refine ⟨_, rfl, ?_⟩
        refine ite3 hM (fun hM => ?_) (fun hM => ?_)
        · skip
          refine ⟨_, rfl, ?_⟩
          exact hQ r13 _ _ hM hW.out h14
        · skip
          exact hN8 () _ _ hM ⟨_, _, rfl, hW, hk5⟩
      · skip
        exact hN8 () _ _ hM ⟨_, _, rfl, hW, hk5⟩
    · skip
      rintro s24 _ H28 hM ⟨w26, w27, rfl, hW, hk25⟩
      replace h_rows := rep_keep hk25 h_rows
      refine ⟨_, rfl, ?_⟩
      apply rep_listL h_rows
      intro ys29 hr30
      intro p31 n32
      have e33 := Rx.Ext.new (H := H28) (o := (HO.lst ys29)) n32
      have hp34 : upd H28 p31 (HO.lst ys29) p31 = some (HO.lst ys29) := upd_same
      generalize upd H28 p31 (HO.lst ys29) = H37 at e33 hp34 ⊢
      have h35 : rep ms H37 (D.lst (x_rows.map (fun y_ : (Int × Int × Int) => (D.tup [(D.v (V.int y_.1)), (D.v (V.int y_.2.1)), (D.v (V.int y_.2.2))])))) (.ref p31) := rep_lst_mk hW n32 e33 hp34 hr30
      replace h_rows := rep_ext e33 h_rows
      replace hW := hW.ret0 e33
      exact hQ x_rows _ _ hM hW.out h35
def M_Form_reduced (x_self : (Int × List Int × List (Int × Int × Int))) (KM : (Int × List Int × List (Int × Int × Int)) → Prop) : Prop :=
  (M_fewest_early x_self.1 x_self.2.1 x_self.2.2 fun r7 => (M_fewest_rows x_self.2.2 fun r16 => (M_reckoned_form x_self.1 r7 r16 fun r21 => (KM r21))))
def sp_Form_reduced (A : Ad) : Sp := fun vs H Q _ => ∃ (ms : List Addr) (v_self : V) (x_self : (Int × List Int × List (Int × Int × Int))) (KM : (Int × List Int × List (Int × Int × Int)) → Prop), vs = [v_self] ∧ Wd ms [] [] H H ∧ rep ms H (eForm A x_self) v_self ∧ M_Form_reduced x_self KM ∧ ∀ (r : (Int × List Int × List (Int × Int × Int))) (u : V) (H1 : Hp), KM r → Ret [] H H1 → rep ms H1 (eForm A r) u → Q u H1
set_option maxHeartbeats 16000000 in
theorem ok_Form_reduced {P : Program} {w : World} {K : PySem.W.Frag} {mg : Str → Option Value} {base : Heap} {A : Ad} (T : Txt w K mg A) : FnOk P w K mg base CX0 5 A.a_Form_reduced A.d_Form_reduced ["self"] (sp_Form_reduced A) := by
  refine T.F_Form_reduced.ok sc_Form_reduced (fun vs H Q E h => ?_) (fun cdv A_ outer s_ H_0 vs Q E hr h => ?_)
  · obtain ⟨ms, v_self, x_self, KM, rfl, _⟩ := h
    rfl
  · obtain ⟨ms, v_self, x_self, KM, rfl, hW, h_self, hM, hQ⟩ := h
    unfold M_Form_reduced at hM
    refine ⟨_, (pss_cons (ps_set (i := 1) sc_Form_reduced.nd rfl (by first | exact Or.inl rfl | exact Or.inr rfl) (pe_call (ok_fewest_early T) (hr.mono (by decide)) (by rfl) T.g_fewest_early T.F_fewest_early.kp T.b_fewest_early .nil pass0 (pa_cons (pe_fld (pv 0) rfl) (pa_cons (pe_fld (pv 0) rfl) (pa_cons (pe_fld (pv 0) rfl) pa_nil))))) (pss_one (ps_ret (pe_call (ok_reckoned_form T) (hr.mono (by decide)) (by rfl) T.g_reckoned_form T.F_reckoned_form.kp T.b_reckoned_form .nil pass0 (pa_cons (pe_fld (pv 0) rfl) (pa_cons (pv 1) (pa_cons (pe_call (ok_fewest_rows T) (hr.mono (by decide)) (by rfl) T.g_fewest_rows T.F_fewest_rows.kp T.b_fewest_rows .nil pass0 (pa_cons (pe_fld (pv 0) rfl) pa_nil)) pa_nil))))))), ?_⟩
    refine ⟨_, rfl, ?_⟩
    apply rep_fld (j := 0) h_self T.cl_Form T.na_Form__first nd_Form rfl rfl
    intro u2 h1
    obtain rfl := of_v h1
    refine ⟨_, rfl, ?_⟩
    apply rep_fld (j := 1) h_self T.cl_Form T.na_Form__early nd_Form rfl rfl
    intro u4 h3
    refine ⟨_, rfl, ?_⟩
    apply rep_fld (j := 2) h_self T.cl_Form T.na_Form__rows nd_Form rfl rfl
    intro u6 h5
    refine ⟨ms, _, _, x_self.1, x_self.2.1, x_self.2.2, _, rfl, hW.enter0, h3, h5, hM, fun r7 u10 H11 hM e9 h8 => ?_⟩
    replace h_self := rep_ext e9 h_self
    replace h3 := rep_ext e9 h3
    replace h5 := rep_ext e9 h5
    replace hW := hW.ret0 e9
    refine ⟨_, rfl, ?_⟩
    apply rep_fld (j := 0) h_self T.cl_Form T.na_Form__first nd_Form rfl rfl
    intro u13 h12
    obtain rfl := of_v h12
    refine ⟨_, rfl, ?_⟩
    refine ⟨_, rfl, ?_⟩
    apply rep_fld (j := 2) h_self T.cl_Form T.na_Form__rows nd_Form rfl rfl
    intro u15 h14
    refine ⟨ms, _, x_self.2.2, _, rfl, hW.enter0, h14, hM, fun r16 u19 H20 hM e18 h17 => ?_⟩
    replace h_self := rep_ext e18 h_self
    replace h3 := rep_ext e18 h3
    replace h5 := rep_ext e18 h5
    replace h8 := rep_ext e18 h8
    replace h14 := rep_ext e18 h14
    replace hW := hW.ret0 e18
    refine ⟨ms, _, _, x_self.1, r7, r16, _, rfl, hW.enter0, h8, h17, hM, fun r21 u24 H25 hM e23 h22 => ?_⟩
    replace h_self := rep_ext e23 h_self
    replace h3 := rep_ext e23 h3
    replace h5 := rep_ext e23 h5
    replace h8 := rep_ext e23 h8
    replace h14 := rep_ext e23 h14
    replace h17 := rep_ext e23 h17
    replace hW := hW.ret0 e23
    exact hQ r21 _ _ hM hW.out h22
def M_Form_sub (x_self : (Int × List Int × List (Int × Int × Int))) (x_other : (Int × List Int × List (Int × Int × Int))) (KM : (Int × List Int × List (Int × Int × Int)) → Prop) : Prop :=
  (M_joined x_self x_other (-(1 : Int)) fun r1 => (M_Form_reduced r1 fun r6 => (KM r6)))
def sp_Form_sub (A : Ad) : Sp := fun vs H Q _ => ∃ (ms : List Addr) (v_self : V) (v_other : V) (x_self : (Int × List Int × List (Int × Int × Int))) (x_other : (Int × List Int × List (Int × Int × Int))) (KM : (Int × List Int × List (Int × Int × Int)) → Prop), vs = [v_self, v_other] ∧ Wd ms [] [] H H ∧ rep ms H (eForm A x_self) v_self ∧ rep ms H (eForm A x_other) v_other ∧ M_Form_sub x_self x_other KM ∧ ∀ (r : (Int × List Int × List (Int × Int × Int))) (u : V) (H1 : Hp), KM r → Ret [] H H1 → rep ms H1 (eForm A r) u → Q u H1
set_option maxHeartbeats 16000000 in
theorem ok_Form_sub {P : Program} {w : World} {K : PySem.W.Frag} {mg : Str → Option Value} {base : Heap} {A : Ad} (T : Txt w K mg A) : FnOk P w K mg base CX0 6 A.a_Form_sub A.d_Form_sub ["self", "other"] (sp_Form_sub A) := by
  refine T.F_Form_sub.ok sc_Form_sub (fun vs H Q E h => ?_) (fun cdv A_ outer s_ H_0 vs Q E hr h => ?_)
  · obtain ⟨ms, v_self, v_other, x_self, x_other, KM, rfl, _⟩ := h
    rfl
  · obtain ⟨ms, v_self, v_other, x_self, x_other, KM, rfl, hW, h_self, h_other, hM, hQ⟩ := h
    unfold M_Form_sub at hM
    refine ⟨_, (pss_cons (ps_if (pt_val (pe_callB (call_isiK (K := K) rfl) (by rfl) T.z_isinstance (by decide +kernel) (pa_cons (pv 1) (pa_cons (pe_glob (v := .ref A.c_Form) (by rfl) T.g_Form rfl) pa_nil)))) (pss_one (ps_ret (pe_meth0 (pe_call (ok_joined T) (hr.mono (by decide)) (by rfl) T.g_joined T.F_joined.kp T.b_joined .nil pass0 (pa_cons (pv 0) (pa_cons (pv 1) (pa_cons (pe_un un_neg pe_int) pa_nil)))) T.cl_Form T.m_Form_reduced (ok_Form_reduced T) (hr.mono (by decide)) T.b_Form_reduced .nil pass0))) pss_nil) (pss_one ps_never)), ?_⟩
    refine ⟨_, rfl, ?_⟩
    apply rep_isi h_other T.ic_Form
    refine ⟨_, rfl, ?_⟩
    refine iteT ?_
    refine ⟨_, rfl, ?_⟩
    refine ⟨_, rfl, ?_⟩
    refine ⟨_, rfl, ?_⟩
    refine ⟨ms, _, _, x_self, x_other, (-(1 : Int)), _, rfl, hW.enter0, h_self, h_other, hM, fun r1 u4 H5 hM e3 h2 => ?_⟩
    replace h_self := rep_ext e3 h_self
    replace h_other := rep_ext e3 h_other
    replace hW := hW.ret0 e3
    apply rep_meth (m := "reduced") h2 (by decide +kernel)
    refine ⟨ms, _, r1, _, rfl, hW.enter0, h2, hM, fun r6 u9 H10 hM e8 h7 => ?_⟩
    replace h_self := rep_ext e8 h_self
    replace h_other := rep_ext e8 h_other
    replace h2 := rep_ext e8 h2
    replace hW := hW.ret0 e8
    exact hQ r6 _ _ hM hW.out h7
def M_first_unlike (x_one : (Int × List Int × List (Int × Int × Int))) (x_other : (Int × List Int × List (Int × Int × Int))) (KM : (Option Int) → Prop) : Prop :=
  (M_Form_sub x_one x_other fun r1 => (M_Form_first r1 fun r8 => (M_Form_begin r1 fun r14 => (M_Form_period r1 fun r20 => (forC (fun (x25 : Int) (s27 : Unit) (k28 : Unit → Prop) => (M_value r1 x25 fun r35 => (if (!(decide (V.int r35 = V.int (0 : Int)))) = true then (KM (some x25)) else (k28 ())))) (rangeI r8 (r14 + ((3 : Int) * r20))) () fun s40 => (KM none))))))
def sp_first_unlike (A : Ad) : Sp := fun vs H Q _ => ∃ (ms : List Addr) (v_one : V) (v_other : V) (x_one : (Int × List Int × List (Int × Int × Int))) (x_other : (Int × List Int × List (Int × Int × Int))) (KM : (Option Int) → Prop), vs = [v_one, v_other] ∧ Wd ms [] [] H H ∧ rep ms H (eForm A x_one) v_one ∧ rep ms H (eForm A x_other) v_other ∧ M_first_unlike x_one x_other KM ∧ ∀ (r : (Option Int)) (u : V) (H1 : Hp), KM r → Ret [] H H1 → rep ms H1 (encO (fun y_ : Int => (D.v (V.int y_))) r) u → Q u H1
set_option maxHeartbeats 16000000 in
theorem ok_first_unlike {P : Program} {w : World} {K : PySem.W.Frag} {mg : Str → Option Value} {base : Heap} {A : Ad} (T : Txt w K mg A) : FnOk P w K mg base CX0 7 A.a_first_unlike A.d_first_unlike ["one", "other"] (sp_first_unlike A) := by
  refine T.F_first_unlike.ok sc_first_unlike (fun vs H Q E h => ?_) (fun cdv A_ outer s_ H_0 vs Q E hr h => ?_)
  · obtain ⟨ms, v_one, v_other, x_one, x_other, KM, rfl, _⟩ := h
    rfl
  · obtain ⟨ms, v_one, v_other, x_one, x_other, KM, rfl, hW, h_one, h_other, hM, hQ⟩ := h
    unfold M_first_unlike at hM
    refine ⟨_, (pss_cons (ps_set (i := 2) sc_first_unlike.nd rfl (by first | exact Or.inl rfl | exact Or.inr rfl) (pe_op (op_ownBin (K := K) rfl (ok_Form_sub T) (hr.mono (by decide)) T.ob_Form_Sub T.b_Form_sub pass0) (pv 0) (pv 1))) (pss_cons (ps_for PassesOwn.never rfl (pi_rangeW2 (by rfl) T.z_range (pa_cons (pe_prop (pv 2) T.cl_Form T.p_Form_first (ok_Form_first T) (hr.mono (by decide)) T.b_Form_first .nil pass0 rfl) (pa_cons (pe_op op_add (pe_prop (pv 2) T.cl_Form T.p_Form_begin (ok_Form_begin T) (hr.mono (by decide)) T.b_Form_begin .nil pass0 rfl) (pe_op op_mul pe_int (pe_prop (pv 2) T.cl_Form T.p_Form_period (ok_Form_period T) (hr.mono (by decide)) T.b_Form_period .nil pass0 rfl))) pa_nil))) (pg_name (i := 3) sc_first_unlike.nd rfl (by first | exact Or.inl rfl | exact Or.inr rfl)) (pss_one (ps_if (pt_cmpR op_ne (pe_call (ok_value T) (hr.mono (by decide)) (by rfl) T.g_value T.F_value.kp T.b_value .nil pass0 (pa_cons (pv 2) (pa_cons (pv 3) pa_nil))) pe_int (nomark _)) (pss_one (ps_ret (pv 3))) pss_nil))) (pss_one (ps_ret pe_non)))), ?_⟩
    refine ⟨_, rfl, ?_⟩
    refine ⟨_, rfl, ?_⟩
    apply rep_ownBin h_one h_other
    refine ⟨ms, _, _, x_one, x_other, _, rfl, hW.enter0, h_one, h_other, hM, fun r1 u4 H5 hM e3 h2 => ?_⟩
    replace h_one := rep_ext e3 h_one
    replace h_other := rep_ext e3 h_other
    replace hW := hW.ret0 e3
    obtain ⟨p6, _, _, rfl, _⟩ := rep_insA h2
    refine ⟨_, rfl, ?_⟩
    refine ⟨_, rfl, ?_⟩
    apply rep_prop h2
    intro _ h7
    refine ⟨ms, _, r1, _, rfl, hW.enter0, h7, hM, fun r8 u11 H12 hM e10 h9 => ?_⟩
    replace h_one := rep_ext e10 h_one
    replace h_other := rep_ext e10 h_other
    replace h2 := rep_ext e10 h2
    replace hW := hW.ret0 e10
    obtain rfl := of_v h9
    refine ⟨_, rfl, ?_⟩
    apply rep_prop h2
    intro _ h13
    refine ⟨ms, _, r1, _, rfl, hW.enter0, h13, hM, fun r14 u17 H18 hM e16 h15 => ?_⟩
    replace h_one := rep_ext e16 h_one
    replace h_other := rep_ext e16 h_other
    replace h2 := rep_ext e16 h2
    replace hW := hW.ret0 e16
    obtain rfl := of_v h15
    refine ⟨_, rfl, ?_⟩
    apply rep_prop h2
    intro _ h19
    refine ⟨ms, _, r1, _, rfl, hW.enter0, h19, hM, fun r20 u23 H24 hM e22 h21 => ?_⟩
    replace h_one := rep_ext e22 h_one
    replace h_other := rep_ext e22 h_other
    replace h2 := rep_ext e22 h2
    replace hW := hW.ret0 e22
    obtain rfl := of_v h21
    refine ⟨_, _, rfl, rfl, .inl ⟨by decide, by decide⟩, ?_⟩
    refine ⟨_, _, rfl, rfl, ?_⟩
    refine ⟨_, _, rfl, ?_⟩
    refine for_rangeG (S := Unit) (lo := r8) (hi := (r14 + ((3 : Int) * r20))) (N := Int.toNat ((r14 + ((3 : Int) * r20)) - r8)) (fun (s : Unit) σ_ h_ => ∃ (w_0 : Option V), σ_ = [some v_one, some v_other, some (V.ref p6), w_0] ∧ Wd ms [] [] H_0 h_ ∧ Keep ms H24 h_) () (by simp) hM ⟨_, rfl, hW, Keep.refl⟩ ?_ ?_
    · skip
      rintro x25 s27 k28 _ H34 ⟨w33, rfl, hW, hk29⟩ hM Nx31 hN32
      replace h_one := rep_keep hk29 h_one
      replace h_other := rep_keep hk29 h_other
      replace h2 := rep_keep hk29 h2
      refine ⟨_, rfl, ?_⟩
      refine ⟨_, rfl, ?_⟩
      refine ⟨ms, _, r1, x25, _, rfl, hW.enter0, h2, hM, fun r35 u38 H39 hM e37 h36 => ?_⟩
      replace h_one := rep_ext e37 h_one
      replace h_other := rep_ext e37 h_other
      replace h2 := rep_ext e37 h2
      replace hk29 := keep_ext e37 hk29
      replace hW := hW.ret0 e37
      obtain rfl := of_v h36
      refine ⟨rfl, ?_⟩
      refine ⟨_, rfl, ?_⟩
      refine ite3 hM (fun hM => ?_) (fun hM => ?_)
      · skip
        refine ⟨_, rfl, ?_⟩
        exact hQ (some x25) _ _ hM hW.out rep_v
      · skip
        exact hN32 () _ _ hM ⟨_, rfl, hW, hk29⟩
    · skip
      rintro s40 _ H43 hM ⟨w42, rfl, hW, hk41⟩
      replace h_one := rep_keep hk41 h_one
      replace h_other := rep_keep hk41 h_other
      replace h2 := rep_keep hk41 h2
      exact hQ none _ _ hM hW.out rep_v
def M_same_values (x_one : (Int × List Int × List (Int × Int × Int))) (x_other : (Int × List Int × List (Int × Int × Int))) (KM : Bool → Prop) : Prop :=
  (M_first_unlike x_one x_other fun r1 => (KM (Option.isNone r1)))
def sp_same_values (A : Ad) : Sp := fun vs H Q _ => ∃ (ms : List Addr) (v_one : V) (v_other : V) (x_one : (Int × List Int × List (Int × Int × Int))) (x_other : (Int × List Int × List (Int × Int × Int))) (KM : Bool → Prop), vs = [v_one, v_other] ∧ Wd ms [] [] H H ∧ rep ms H (eForm A x_one) v_one ∧ rep ms H (eForm A x_other) v_other ∧ M_same_values x_one x_other KM ∧ ∀ (r : Bool) (u : V) (H1 : Hp), KM r → Ret [] H H1 → rep ms H1 (D.v (V.bl r)) u → Q u H1
set_option maxHeartbeats 16000000 in
theorem ok_same_values {P : Program} {w : World} {K : PySem.W.Frag} {mg : Str → Option Value} {base : Heap} {A : Ad} (T : Txt w K mg A) : FnOk P w K mg base CX0 8 A.a_same_values A.d_same_values ["one", "other"] (sp_same_values A) := by
  refine T.F_same_values.ok sc_same_values (fun vs H Q E h => ?_) (fun cdv A_ outer s_ H_0 vs Q E hr h => ?_)
  · obtain ⟨ms, v_one, v_other, x_one, x_other, KM, rfl, _⟩ := h
    rfl
  · obtain ⟨ms, v_one, v_other, x_one, x_other, KM, rfl, hW, h_one, h_other, hM, hQ⟩ := h
    unfold M_same_values at hM
    refine ⟨_, (pss_one (ps_ret (pe_cmpR op_isN (pe_call (ok_first_unlike T) (hr.mono (by decide)) (by rfl) T.g_first_unlike T.F_first_unlike.kp T.b_first_unlike .nil pass0 (pa_cons (pv 0) (pa_cons (pv 1) pa_nil))) pe_non (nomark _)))), ?_⟩
    refine ⟨_, rfl, ?_⟩
    refine ⟨_, rfl, ?_⟩
    refine ⟨ms, _, _, x_one, x_other, _, rfl, hW.enter0, h_one, h_other, hM, fun r1 u4 H5 hM e3 h2 => ?_⟩
    replace h_one := rep_ext e3 h_one
    replace h_other := rep_ext e3 h_other
    replace hW := hW.ret0 e3
    obtain rfl := rep_optV h2
    refine ⟨rfl, ?_⟩
    rw [optV_isN (fun _ z_ => by cases z_)]
    exact hQ (Option.isNone r1) _ _ hM hW.out rep_v
def M_checked (x_number : Int) (KM : Int → Prop) : Prop :=
  (M_is_integer x_number fun r1 => (if (!r1) = true then False else (KM x_number)))
def sp_checked (A : Ad) : Sp := fun vs H Q _ => ∃ (ms : List Addr) (x_number : Int) (KM : Int → Prop), vs = [V.int x_number] ∧ Wd ms [] [] H H ∧ M_checked x_number KM ∧ ∀ (r : Int) (u : V) (H1 : Hp), KM r → Ret [] H H1 → rep ms H1 (D.v (V.int r)) u → Q u H1
set_option maxHeartbeats 16000000 in
theorem ok_checked {P : Program} {w : World} {K : PySem.W.Frag} {mg : Str → Option Value} {base : Heap} {A : Ad} (T : Txt w K mg A) : FnOk P w K mg base CX0 2 A.a_checked A.d_checked ["number"] (sp_checked A) := by
  refine T.F_checked.ok sc_checked (fun vs H Q E h => ?_) (fun cdv A_ outer s_ H_0 vs Q E hr h => ?_)
  · obtain ⟨ms, x_number, KM, rfl, _⟩ := h
    rfl
  · obtain ⟨ms, x_number, KM, rfl, hW, hM, hQ⟩ := h
    unfold M_checked at hM
    refine ⟨_, (pss_cons (ps_if (pt_not (pt_val (pe_call (ok_is_integer T) (hr.mono (by decide)) (by rfl) T.g_is_integer T.F_is_integer.kp T.b_is_integer .nil pass0 (pa_cons (pv 0) pa_nil)))) (pss_one ps_never) pss_nil) (pss_one (ps_ret (pv 0)))), ?_⟩
    refine ⟨_, rfl, ?_⟩
    refine ⟨ms, x_number, _, rfl, hW.enter0, hM, fun r1 u4 H5 hM e3 h2 => ?_⟩
    replace hW := hW.ret0 e3
    obtain rfl := of_v h2
    refine ⟨_, rfl, ?_⟩
    refine ite3 hM (fun hM => ?_) (fun hM => ?_)
    · skip
      exact hM
    · skip
      refine ⟨_, rfl, ?_⟩
      exact hQ x_number _ _ hM hW.out rep_v
def M_lifted (x_form : (Int × List Int × List (Int × Int × Int))) (x_number : Int) (KM : (Int × List Int × List (Int × Int × Int)) → Prop) : Prop :=
  (x_form.2.1.length < 100000 ∧ mapC (fun (x19 : Int) (k12 : Int → Prop) => (k12 (x19 + x_number))) x_form.2.1 [] fun ys30 => (x_form.2.2.length < 100000 ∧ mapC (fun (x53 : (Int × Int × Int)) (k46 : (Int × Int × Int) → Prop) => (k46 (x53.1, x53.2.1, (x53.2.2 + x_number)))) x_form.2.2 [] fun ys84 => (M_reckoned_form x_form.1 ys30 ys84 fun r87 => (KM r87))))
def sp_lifted (A : Ad) : Sp := fun vs H Q _ => ∃ (ms : List Addr) (v_form : V) (x_form : (Int × List Int × List (Int × Int × Int))) (x_number : Int) (KM : (Int × List Int × List (Int × Int × Int)) → Prop), vs = [v_form, V.int x_number] ∧ Wd ms [] [] H H ∧ rep ms H (eForm A x_form) v_form ∧ M_lifted x_form x_number KM ∧ ∀ (r : (Int × List Int × List (Int × Int × Int))) (u : V) (H1 : Hp), KM r → Ret [] H H1 → rep ms H1 (eForm A r) u → Q u H1
set_option maxHeartbeats 16000000 in
theorem ok_lifted {P : Program} {w : World} {K : PySem.W.Frag} {mg : Str → Option Value} {base : Heap} {A : Ad} (T : Txt w K mg A) : FnOk P w K mg base CX0 4 A.a_lifted A.d_lifted ["form", "number"] (sp_lifted A) := by
  refine T.F_lifted.ok sc_lifted (fun vs H Q E h => ?_) (fun cdv A_ outer s_ H_0 vs Q E hr h => ?_)
  · obtain ⟨ms, v_form, x_form, x_number, KM, rfl, _⟩ := h
    rfl
  · obtain ⟨ms, v_form, x_form, x_number, KM, rfl, hW, h_form, hM, hQ⟩ := h
    unfold M_lifted at hM
    refine ⟨_, (pss_cons (ps_setLc (i := 2) (own := [("value", 3)]) (g := gName 3) rfl sc_lifted.nd rfl rfl (sw_true rfl rfl rfl (by decide +kernel)) (pi_list (pe_fld (pv 0) rfl)) (blkOk_by (N := ["form", "number", "early", "value", "a", "b", "c"]) (sc := defScope s_lifted) (by decide +kernel)) (fun _ _ _ _ _ => pg_name (i := 3) sc_lifted.nd rfl (by first | exact Or.inl rfl | exact Or.inr rfl)) (fun _ _ _ _ _ => pts_nil) (fun _ _ _ _ _ => (pe_op op_add (pv 3) (pv 1)))) (pss_one (ps_ret (pe_call (ok_reckoned_form T) (hr.mono (by decide)) (by rfl) T.g_reckoned_form T.F_reckoned_form.kp T.b_reckoned_form .nil pass0 (pa_cons (pe_fld (pv 0) rfl) (pa_cons (pv 2) (pa_cons (pe_lc (own := [("a", 4), ("b", 5), ("c", 6)]) (g := (gTup K 3 (gCons (gName 4) (gCons (gName 5) (gCons (gName 6) gNil))))) rfl sc_lifted.nd (pi_list (pe_fld (pv 0) rfl)) (blkOk_by (N := ["form", "number", "early", "value", "a", "b", "c"]) (sc := defScope s_lifted) (by decide +kernel)) (fun _ _ _ _ _ => (pg_tup rfl (pgs_cons (pg_name (i := 4) sc_lifted.nd rfl (by first | exact Or.inl rfl | exact Or.inr rfl)) (pgs_cons (pg_name (i := 5) sc_lifted.nd rfl (by first | exact Or.inl rfl | exact Or.inr rfl)) (pgs_cons (pg_name (i := 6) sc_lifted.nd rfl (by first | exact Or.inl rfl | exact Or.inr rfl)) pgs_nil))))) (fun _ _ _ _ _ => pts_nil) (fun _ _ _ _ _ => (pe_tup (pa_cons (pv 4) (pa_cons (pv 5) (pa_cons (pe_op op_add (pv 6) (pv 1)) pa_nil)))))) pa_nil))))))), ?_⟩
    refine ⟨_, rfl, ?_⟩
    apply rep_fld (j := 1) h_form T.cl_Form T.na_Form__early nd_Form rfl rfl
    intro u2 h1
    apply rep_iter h1
    intro a3 xs4 _ an5 hp6 hl7
    refine fun L8 nl9 => ?_
    have nm23 := nm_new hW nl9
    refine lc_listG (L := L8) (fun n_ ys_ h_ => Wd (L8 :: ms) [] [] H_0 h_ ∧ Keep (L8 :: ms) H_0 h_ ∧ MutO (L8 :: ms) [] H_0 h_ L8 (D.lst (ys_.map (fun y_ : Int => (D.v (V.int y_))))) ∧ ys_.length ≤ n_) (items := x_form.2.1) (e := (fun y_ : Int => (D.v (V.int y_)))) an5 hp6 hl7 nl9 (fun _ _ _ q_ => q_.2.1) hM ⟨wd_cell hW nl9, keep_cell nl9 Keep.refl, mo_newL (ds := []) hW nl9 repL_nil, Nat.le_refl _⟩ ?_ ?_
    · skip
      rintro x19 u20 n10 ys11 k12 H24 hn ⟨hW, hk13, mu14, ln15⟩ h21 hM Nx18 hN16
      replace h_form := rep_keep hk13 (rep_new nl9 h_form)
      replace h1 := rep_keep hk13 (rep_new nl9 h1)
      obtain rfl := of_v h21
      refine ⟨rfl, ?_⟩
      refine tyes_of ?_
      refine ⟨_, rfl, ?_⟩
      refine ⟨_, rfl, ?_⟩
      refine ⟨_, _, rfl, rfl, ?_⟩
      refine mo_end mu14 hn (by rw [List.length_map]; exact ln15) fun vs25 hr26 => ?_
      have mk28 := mo_setL mu14 (repL_snoc (e := (fun y_ : Int => (D.v (V.int y_)))) (xs := ys11) (y := (x19 + x_number)) hr26 rep_v)
      replace h_form := rep_put (o := .lst (vs25 ++ [V.int (x19 + x_number)])) mu14.im h_form
      replace h1 := rep_put (o := .lst (vs25 ++ [V.int (x19 + x_number)])) mu14.im h1
      replace hk13 := keep_put (o := .lst (vs25 ++ [V.int (x19 + x_number)])) mu14.im hk13
      replace hW := wd_put (o := .lst (vs25 ++ [V.int (x19 + x_number)])) hW mu14
      replace mu14 := mk28
      generalize upd H24 L8 (.lst (vs25 ++ [V.int (x19 + x_number)])) = H29 at *
      replace mu14 : MutO (L8 :: ms) [] H_0 H29 L8 (D.lst ((ys11 ++ [(x19 + x_number)]).map (fun y_ : Int => (D.v (V.int y_))))) := mu14
      clear mk28
      exact hN16 (x19 + x_number) _ hM ⟨hW, hk13, mu14, by rw [List.length_append]; exact Nat.add_le_add_right ln15 1⟩
    · skip
      rintro n10 ys30 H31 hM ⟨hW, hk13, mu14, ln15⟩
      replace h_form := rep_keep hk13 (rep_new nl9 h_form)
      replace h1 := rep_keep hk13 (rep_new nl9 h1)
      clear hk13 ln15
      have h32 := mo_rep_dr dr_here nm23 mu14
      replace hW := wd_dr dr_here mu14.hp hW
      replace h_form := rep_dr dr_here h_form
      replace h1 := rep_dr dr_here h1
      clear mu14
      refine ⟨_, rfl, ?_⟩
      apply rep_fld (j := 0) h_form T.cl_Form T.na_Form__first nd_Form rfl rfl
      intro u34 h33
      obtain rfl := of_v h33
      refine ⟨_, rfl, ?_⟩
      refine ⟨_, rfl, ?_⟩
      apply rep_fld (j := 2) h_form T.cl_Form T.na_Form__rows nd_Form rfl rfl
      intro u36 h35
      apply rep_iter h35
      intro a37 xs38 _ an39 hp40 hl41
      refine fun L42 nl43 => ?_
      have nm57 := nm_new hW nl43
      refine lc_listG (L := L42) (fun n_ ys_ h_ => Wd (L42 :: ms) [] [] H_0 h_ ∧ Keep (L42 :: ms) H31 h_ ∧ MutO (L42 :: ms) [] H_0 h_ L42 (D.lst (ys_.map (fun y_ : (Int × Int × Int) => (D.tup [(D.v (V.int y_.1)), (D.v (V.int y_.2.1)), (D.v (V.int y_.2.2))])))) ∧ ys_.length ≤ n_) (items := x_form.2.2) (e := (fun y_ : (Int × Int × Int) => (D.tup [(D.v (V.int y_.1)), (D.v (V.int y_.2.1)), (D.v (V.int y_.2.2))]))) an39 hp40 hl41 nl43 (fun _ _ _ q_ => q_.2.1) hM ⟨wd_cell hW nl43, keep_cell nl43 Keep.refl, mo_newL (ds := []) hW nl43 repL_nil, Nat.le_refl _⟩ ?_ ?_
      · skip
        rintro x53 u54 n44 ys45 k46 H58 hn ⟨hW, hk47, mu48, ln49⟩ h55 hM Nx52 hN50
        replace h_form := rep_keep hk47 (rep_new nl43 h_form)
        replace h1 := rep_keep hk47 (rep_new nl43 h1)
        replace h32 := rep_keep hk47 (rep_new nl43 h32)
        replace h35 := rep_keep hk47 (rep_new nl43 h35)
        apply rep_gtup h55 rfl
        intro vs59 hv60
        obtain ⟨u61, us62, rfl, h63, hv64⟩ := repL_uncons hv60
        obtain rfl := of_v h63
        obtain ⟨u65, us66, rfl, h67, hv68⟩ := repL_uncons hv64
        obtain rfl := of_v h67
        obtain ⟨u69, us70, rfl, h71, hv72⟩ := repL_uncons hv68
        obtain rfl := of_v h71
        obtain rfl := repL_empty hv72
        refine ⟨_, _, rfl, ?_⟩
        refine ⟨_, _, rfl, ?_⟩
        refine ⟨_, _, rfl, ?_⟩
        refine ⟨rfl, ?_⟩
        refine ⟨rfl, ?_⟩
        refine tyes_of ?_
        refine ⟨_, rfl, ?_⟩
        refine ⟨_, rfl, ?_⟩
        refine ⟨_, rfl, ?_⟩
        refine ⟨_, rfl, ?_⟩
        refine ⟨_, _, rfl, rfl, ?_⟩
        refine ⟨(by show 3 ≤ sizeLine; decide), ?_⟩
        intro p73 n77
        have e74 := Rx.Ext.new (H := H58) (o := (HO.tup [V.int x53.1, V.int x53.2.1, V.int (x53.2.2 + x_number)])) n77
        have hp75 : upd H58 p73 (HO.tup [V.int x53.1, V.int x53.2.1, V.int (x53.2.2 + x_number)]) p73 = some (HO.tup [V.int x53.1, V.int x53.2.1, V.int (x53.2.2 + x_number)]) := upd_same
        generalize upd H58 p73 (HO.tup [V.int x53.1, V.int x53.2.1, V.int (x53.2.2 + x_number)]) = H78 at e74 hp75 ⊢
        have h76 : rep (L42 :: ms) H78 (D.tup [(D.v (V.int x53.1)), (D.v (V.int x53.2.1)), (D.v (V.int (x53.2.2 + x_number)))]) (.ref p73) := rep_tup_mk hW n77 e74 hp75 (repL_cons rep_v (repL_cons rep_v (repL_cons rep_v repL_nil)))
        replace h_form := rep_ext e74 h_form
        replace h1 := rep_ext e74 h1
        replace h32 := rep_ext e74 h32
        replace h35 := rep_ext e74 h35
        replace hk47 := keep_ext e74 hk47
        replace h55 := rep_ext e74 h55
        replace mu48 := mo_ext e74 mu48
        replace hW := hW.ret0 e74
        refine mo_end mu48 hn (by rw [List.length_map]; exact ln49) fun vs79 hr80 => ?_
        have mk82 := mo_setL mu48 (repL_snoc (e := (fun y_ : (Int × Int × Int) => (D.tup [(D.v (V.int y_.1)), (D.v (V.int y_.2.1)), (D.v (V.int y_.2.2))]))) (xs := ys45) (y := (x53.1, x53.2.1, (x53.2.2 + x_number))) hr80 h76)
        replace h_form := rep_put (o := .lst (vs79 ++ [(V.ref p73)])) mu48.im h_form
        replace h1 := rep_put (o := .lst (vs79 ++ [(V.ref p73)])) mu48.im h1
        replace h32 := rep_put (o := .lst (vs79 ++ [(V.ref p73)])) mu48.im h32
        replace h35 := rep_put (o := .lst (vs79 ++ [(V.ref p73)])) mu48.im h35
        replace hk47 := keep_put (o := .lst (vs79 ++ [(V.ref p73)])) mu48.im hk47
        replace h55 := rep_put (o := .lst (vs79 ++ [(V.ref p73)])) mu48.im h55
        replace h76 := rep_put (o := .lst (vs79 ++ [(V.ref p73)])) mu48.im h76
        replace hW := wd_put (o := .lst (vs79 ++ [(V.ref p73)])) hW mu48
        replace mu48 := mk82
        generalize upd H78 L42 (.lst (vs79 ++ [(V.ref p73)])) = H83 at *
        replace mu48 : MutO (L42 :: ms) [] H_0 H83 L42 (D.lst ((ys45 ++ [(x53.1, x53.2.1, (x53.2.2 + x_number))]).map (fun y_ : (Int × Int × Int) => (D.tup [(D.v (V.int y_.1)), (D.v (V.int y_.2.1)), (D.v (V.int y_.2.2))])))) := mu48
        clear mk82
        exact hN50 (x53.1, x53.2.1, (x53.2.2 + x_number)) _ hM ⟨hW, hk47, mu48, by rw [List.length_append]; exact Nat.add_le_add_right ln49 1⟩
      · skip
        rintro n44 ys84 H85 hM ⟨hW, hk47, mu48, ln49⟩
        replace h_form := rep_keep hk47 (rep_new nl43 h_form)
        replace h1 := rep_keep hk47 (rep_new nl43 h1)
        replace h32 := rep_keep hk47 (rep_new nl43 h32)
        replace h35 := rep_keep hk47 (rep_new nl43 h35)
        clear hk47 ln49
        have h86 := mo_rep_dr dr_here nm57 mu48
        replace hW := wd_dr dr_here mu48.hp hW
        replace h_form := rep_dr dr_here h_form
        replace h1 := rep_dr dr_here h1
        replace h32 := rep_dr dr_here h32
        replace h35 := rep_dr dr_here h35
        clear mu48
        refine ⟨ms, _, _, x_form.1, ys30, ys84, _, rfl, hW.enter0, h32, h86, hM, fun r87 u90 H91 hM e89 h88 => ?_⟩
        replace h_form := rep_ext e89 h_form
        replace h1 := rep_ext e89 h1
        replace h32 := rep_ext e89 h32
        replace h35 := rep_ext e89 h35
        replace h86 := rep_ext e89 h86
        replace hW := hW.ret0 e89
        exact hQ r87 _ _ hM hW.out h88
def M_Form_add (x_self : (Int × List Int × List (Int × Int × Int))) (x_other : Int) (KM : (Int × List Int × List (Int × Int × Int)) → Prop) : Prop :=
  (M_checked x_other fun r1 => (M_lifted x_self r1 fun r6 => (KM r6)))
def sp_Form_add (A : Ad) : Sp := fun vs H Q _ => ∃ (ms : List Addr) (v_self : V) (x_self : (Int × List Int × List (Int × Int × Int))) (x_other : Int) (KM : (Int × List Int × List (Int × Int × Int)) → Prop), vs = [v_self, V.int x_other] ∧ Wd ms [] [] H H ∧ rep ms H (eForm A x_self) v_self ∧ M_Form_add x_self x_other KM ∧ ∀ (r : (Int × List Int × List (Int × Int × Int))) (u : V) (H1 : Hp), KM r → Ret [] H H1 → rep ms H1 (eForm A r) u → Q u H1
set_option maxHeartbeats 16000000 in
theorem ok_Form_add {P : Program} {w : World} {K : PySem.W.Frag} {mg : Str → Option Value} {base : Heap} {A : Ad} (T : Txt w K mg A) : FnOk P w K mg base CX0 5 A.a_Form_add A.d_Form_add ["self", "other"] (sp_Form_add A) := by
  refine T.F_Form_add.ok sc_Form_add (fun vs H Q E h => ?_) (fun cdv A_ outer s_ H_0 vs Q E hr h => ?_)
  · obtain ⟨ms, v_self, x_self, x_other, KM, rfl, _⟩ := h
    rfl
  · obtain ⟨ms, v_self, x_self, x_other, KM, rfl, hW, h_self, hM, hQ⟩ := h
    unfold M_Form_add at hM
    refine ⟨_, (pss_cons (ps_if (pt_val (pe_callB (call_isiK (K := K) rfl) (by rfl) T.z_isinstance (by decide +kernel) (pa_cons (pv 1) (pa_cons (pe_glob (v := .ref A.c_Form) (by rfl) T.g_Form rfl) pa_nil)))) (pss_one ps_never) pss_nil) (pss_one (ps_ret (pe_call (ok_lifted T) (hr.mono (by decide)) (by rfl) T.g_lifted T.F_lifted.kp T.b_lifted .nil pass0 (pa_cons (pv 0) (pa_cons (pe_call (ok_checked T) (hr.mono (by decide)) (by rfl) T.g_checked T.F_checked.kp T.b_checked .nil pass0 (pa_cons (pv 1) pa_nil)) pa_nil)))))), ?_⟩
    refine ⟨_, rfl, ?_⟩
    apply rep_isN2 (d := (D.v (V.int x_other))) (rep_v (ms := ms)) (by rfl) T.in_Form
    refine ⟨_, rfl, ?_⟩
    refine iteF ?_
    refine ⟨_, rfl, ?_⟩
    refine ⟨_, rfl, ?_⟩
    refine ⟨ms, x_other, _, rfl, hW.enter0, hM, fun r1 u4 H5 hM e3 h2 => ?_⟩
    replace h_self := rep_ext e3 h_self
    replace hW := hW.ret0 e3
    obtain rfl := of_v h2
    refine ⟨ms, _, x_self, r1, _, rfl, hW.enter0, h_self, hM, fun r6 u9 H10 hM e8 h7 => ?_⟩
    replace h_self := rep_ext e8 h_self
    replace hW := hW.ret0 e8
    exact hQ r6 _ _ hM hW.out h7
def M_are_right (x_mine : (Int × (List Int) × (List (Int × Int × Int)))) (x_theirs : (Int × (List Int) × (List (Int × Int × Int)))) (KM : Bool → Prop) : Prop :=
  (M_form x_mine fun r1 => (M_form x_theirs fun r6 => (M_unlike x_mine x_theirs fun r11 => (M_first_unlike r1 r6 fun r16 => (M_first_unlike r6 r1 fun r21 => (M_first_unlike r1 r6 fun r26 => ((plainD (D.lst (([r16, r21, r26] : List (Option Int)).map (fun y_ : (Option Int) => (encO (fun y_ : Int => (D.v (V.int y_))) y_)))) = true ∧ (pyOf (D.lst (([r16, r21, r26] : List (Option Int)).map (fun y_ : (Option Int) => (encO (fun y_ : Int => (D.v (V.int y_))) y_))))).showable = true ∧ (pyOf (D.lst (([r16, r21, r26] : List (Option Int)).map (fun y_ : (Option Int) => (encO (fun y_ : Int => (D.v (V.int y_))) y_))))).hasDict = false ∧ (pyOf (D.lst (([r16, r21, r26] : List (Option Int)).map (fun y_ : (Option Int) => (encO (fun y_ : Int => (D.v (V.int y_))) y_))))).depth ≤ 60 ∧ (pyOf (D.lst (([r16, r21, r26] : List (Option Int)).map (fun y_ : (Option Int) => (encO (fun y_ : Int => (D.v (V.int y_))) y_))))).shown.length ≤ sizeLine) ∧ ((-(2 ^ 63) ≤ (3 : Int) ∧ (3 : Int) < 2 ^ 63 ∧ ([r11] : List (Option Int)).length * Int.toNat (3 : Int) ≤ sizeLine) ∧ ((plainD (D.lst ((List.flatten (List.replicate (Int.toNat (3 : Int)) ([r11] : List (Option Int)))).map (fun y_ : (Option Int) => (encO (fun y_ : Int => (D.v (V.int y_))) y_)))) = true ∧ (pyOf (D.lst ((List.flatten (List.replicate (Int.toNat (3 : Int)) ([r11] : List (Option Int)))).map (fun y_ : (Option Int) => (encO (fun y_ : Int => (D.v (V.int y_))) y_))))).showable = true ∧ (pyOf (D.lst ((List.flatten (List.replicate (Int.toNat (3 : Int)) ([r11] : List (Option Int)))).map (fun y_ : (Option Int) => (encO (fun y_ : Int => (D.v (V.int y_))) y_))))).hasDict = false ∧ (pyOf (D.lst ((List.flatten (List.replicate (Int.toNat (3 : Int)) ([r11] : List (Option Int)))).map (fun y_ : (Option Int) => (encO (fun y_ : Int => (D.v (V.int y_))) y_))))).depth ≤ 60 ∧ (pyOf (D.lst ((List.flatten (List.replicate (Int.toNat (3 : Int)) ([r11] : List (Option Int)))).map (fun y_ : (Option Int) => (encO (fun y_ : Int => (D.v (V.int y_))) y_))))).shown.length ≤ sizeLine) ∧ (if (!(decide (V.str (pyOf (D.lst (([r16, r21, r26] : List (Option Int)).map (fun y_ : (Option Int) => (encO (fun y_ : Int => (D.v (V.int y_))) y_))))).shown = V.str (pyOf (D.lst ((List.flatten (List.replicate (Int.toNat (3 : Int)) ([r11] : List (Option Int)))).map (fun y_ : (Option Int) => (encO (fun y_ : Int => (D.v (V.int y_))) y_))))).shown))) = true then (KM false) else (M_same_values r1 r6 fun r54 => (M_same_values r6 r1 fun r59 => (M_same_values r1 r6 fun r64 => ((plainD (D.lst (([r54, r59, r64] : List Bool).map (fun y_ : Bool => (D.v (V.bl y_))))) = true ∧ (pyOf (D.lst (([r54, r59, r64] : List Bool).map (fun y_ : Bool => (D.v (V.bl y_)))))).showable = true ∧ (pyOf (D.lst (([r54, r59, r64] : List Bool).map (fun y_ : Bool => (D.v (V.bl y_)))))).hasDict = false ∧ (pyOf (D.lst (([r54, r59, r64] : List Bool).map (fun y_ : Bool => (D.v (V.bl y_)))))).depth ≤ 60 ∧ (pyOf (D.lst (([r54, r59, r64] : List Bool).map (fun y_ : Bool => (D.v (V.bl y_)))))).shown.length ≤ sizeLine) ∧ ((-(2 ^ 63) ≤ (3 : Int) ∧ (3 : Int) < 2 ^ 63 ∧ ([(Option.isNone r11)] : List Bool).length * Int.toNat (3 : Int) ≤ sizeLine) ∧ ((plainD (D.lst ((List.flatten (List.replicate (Int.toNat (3 : Int)) ([(Option.isNone r11)] : List Bool))).map (fun y_ : Bool => (D.v (V.bl y_))))) = true ∧ (pyOf (D.lst ((List.flatten (List.replicate (Int.toNat (3 : Int)) ([(Option.isNone r11)] : List Bool))).map (fun y_ : Bool => (D.v (V.bl y_)))))).showable = true ∧ (pyOf (D.lst ((List.flatten (List.replicate (Int.toNat (3 : Int)) ([(Option.isNone r11)] : List Bool))).map (fun y_ : Bool => (D.v (V.bl y_)))))).hasDict = false ∧ (pyOf (D.lst ((List.flatten (List.replicate (Int.toNat (3 : Int)) ([(Option.isNone r11)] : List Bool))).map (fun y_ : Bool => (D.v (V.bl y_)))))).depth ≤ 60 ∧ (pyOf (D.lst ((List.flatten (List.replicate (Int.toNat (3 : Int)) ([(Option.isNone r11)] : List Bool))).map (fun y_ : Bool => (D.v (V.bl y_)))))).shown.length ≤ sizeLine) ∧ (if (!(decide (V.str (pyOf (D.lst (([r54, r59, r64] : List Bool).map (fun y_ : Bool => (D.v (V.bl y_)))))).shown = V.str (pyOf (D.lst ((List.flatten (List.replicate (Int.toNat (3 : Int)) ([(Option.isNone r11)] : List Bool))).map (fun y_ : Bool => (D.v (V.bl y_)))))).shown))) = true then (KM false) else (M_same_values r1 r1 fun r92 => (if (!(decide (r92 = true))) = true then (KM false) else (M_first_unlike r6 r6 fun r97 => (if (Option.isNone r97) = true then (M_Form_add r1 (1 : Int) fun r102 => (M_first_unlike r1 r102 fun r108 => (KM (decide (((optV V.int r108)) = (V.int x_mine.1)))))) else (KM false))))))))))))))))))))))
def sp_are_right (A : Ad) : Sp := fun vs H Q _ => ∃ (ms : List Addr) (v_mine : V) (v_theirs : V) (x_mine : (Int × (List Int) × (List (Int × Int × Int)))) (x_theirs : (Int × (List Int) × (List (Int × Int × Int)))) (KM : Bool → Prop), vs = [v_mine, v_theirs] ∧ Wd ms [] [] H H ∧ rep ms H (D.tup [(D.v (V.int x_mine.1)), (D.lst (x_mine.2.1.map (fun y_ : Int => (D.v (V.int y_))))), (D.lst (x_mine.2.2.map (fun y_ : (Int × Int × Int) => (D.tup [(D.v (V.int y_.1)), (D.v (V.int y_.2.1)), (D.v (V.int y_.2.2))]))))]) v_mine ∧ rep ms H (D.tup [(D.v (V.int x_theirs.1)), (D.lst (x_theirs.2.1.map (fun y_ : Int => (D.v (V.int y_))))), (D.lst (x_theirs.2.2.map (fun y_ : (Int × Int × Int) => (D.tup [(D.v (V.int y_.1)), (D.v (V.int y_.2.1)), (D.v (V.int y_.2.2))]))))]) v_theirs ∧ M_are_right x_mine x_theirs KM ∧ ∀ (r : Bool) (u : V) (H1 : Hp), KM r → Ret [] H H1 → rep ms H1 (D.v (V.bl r)) u → Q u H1
set_option maxHeartbeats 16000000 in
theorem ok_are_right {P : Program} {w : World} {K : PySem.W.Frag} {mg : Str → Option Value} {base : Heap} {A : Ad} (T : Txt w K mg A) : FnG P w K mg base 9 A.a_are_right A.d_are_right ["_law_mine", "_law_theirs"] (sp_are_right A) := by
  refine okG T.F_are_right sc_are_right (fun vs H Q E h => ?_) (fun cdv A_ outer s_ H_0 vs Q E gu hr h => ?_)
  · obtain ⟨ms, v_mine, v_theirs, x_mine, x_theirs, KM, rfl, _⟩ := h
    rfl
  · obtain ⟨ms, v_mine, v_theirs, x_mine, x_theirs, KM, rfl, hW, h_mine, h_theirs, hM, hQ⟩ := h
    unfold M_are_right at hM
    refine ⟨_, (pss_cons (ps_par3 (i := 2) (j := 3) (l := 4) (by rfl) sc_are_right.nd rfl rfl rfl (by decide) (by decide) (by decide) rfl rfl rfl (pa_cons (pe_call (ok_form T) (hr.mono (by decide)) (by rfl) T.g_form T.F_form.kp T.b_form .nil pass0 (pa_cons (pv 0) pa_nil)) (pa_cons (pe_call (ok_form T) (hr.mono (by decide)) (by rfl) T.g_form T.F_form.kp T.b_form .nil pass0 (pa_cons (pv 1) pa_nil)) (pa_cons (pe_call (ok_unlike T) (hr.mono (by decide)) (by rfl) T.g_unlike T.F_unlike.kp T.b_unlike .nil pass0 (pa_cons (pv 0) (pa_cons (pv 1) pa_nil))) pa_nil))) (by rfl)) (pss_cons (ps_set (i := 5) sc_are_right.nd rfl (by first | exact Or.inl rfl | exact Or.inr rfl) (pe_lst (pa_cons (pe_call (ok_first_unlike T) (hr.mono (by decide)) (by rfl) T.g_first_unlike T.F_first_unlike.kp T.b_first_unlike .nil pass0 (pa_cons (pv 2) (pa_cons (pv 3) pa_nil))) (pa_cons (pe_callKw (ok_first_unlike T) (hr.mono (by decide)) (by rfl) T.g_first_unlike T.F_first_unlike.kp T.k_first_unlike_other_one pass0 (pk_cons (pv 2) (pk_cons (pv 3) pk_nil))) (pa_cons (pe_call (ok_first_unlike T) (hr.mono (by decide)) (by rfl) T.g_first_unlike T.F_first_unlike.kp T.b_first_unlike .nil pass0 (pa_cons (pv 2) (pa_cons (pv 3) pa_nil))) pa_nil))))) (pss_cons (ps_if (pt_cmpR op_ne (pe_callB (call_reprAK (K := K) rfl gu hr) (by rfl) T.z_repr (by decide +kernel) (pa_cons (pv 5) pa_nil)) (pe_callB (call_reprAK (K := K) rfl gu hr) (by rfl) T.z_repr (by decide +kernel) (pa_cons (pe_op op_rep (pe_lst (pa_cons (pv 4) pa_nil)) pe_int) pa_nil)) (nomark _)) (pss_one (ps_ret pe_bl)) pss_nil) (pss_cons (ps_set (i := 5) sc_are_right.nd rfl (by first | exact Or.inl rfl | exact Or.inr rfl) (pe_lst (pa_cons (pe_call (ok_same_values T) (hr.mono (by decide)) (by rfl) T.g_same_values T.F_same_values.kp T.b_same_values .nil pass0 (pa_cons (pv 2) (pa_cons (pv 3) pa_nil))) (pa_cons (pe_callKw (ok_same_values T) (hr.mono (by decide)) (by rfl) T.g_same_values T.F_same_values.kp T.k_same_values_other_one pass0 (pk_cons (pv 2) (pk_cons (pv 3) pk_nil))) (pa_cons (pe_call (ok_same_values T) (hr.mono (by decide)) (by rfl) T.g_same_values T.F_same_values.kp T.b_same_values .nil pass0 (pa_cons (pv 2) (pa_cons (pv 3) pa_nil))) pa_nil))))) (pss_cons (ps_if (PW.pt (pw_or (pt_cmpR op_ne (pe_callB (call_reprAK (K := K) rfl gu hr) (by rfl) T.z_repr (by decide +kernel) (pa_cons (pv 5) pa_nil)) (pe_callB (call_reprAK (K := K) rfl gu hr) (by rfl) T.z_repr (by decide +kernel) (pa_cons (pe_op op_rep (pe_lst (pa_cons (pe_cmpR op_isN (pv 4) pe_non (nomark _)) pa_nil)) pe_int) pa_nil)) (nomark _)) (pw_or1 (pt_cmpR op_notBl (pe_call (ok_same_values T) (hr.mono (by decide)) (by rfl) T.g_same_values T.F_same_values.kp T.b_same_values .nil pass0 (pa_cons (pv 2) (pa_cons (pv 2) pa_nil))) pe_bl (nomark _))))) (pss_one (ps_ret pe_bl)) pss_nil) (pss_one (ps_ret (pe_and (pe_cmpR op_isN (pe_call (ok_first_unlike T) (hr.mono (by decide)) (by rfl) T.g_first_unlike T.F_first_unlike.kp T.b_first_unlike .nil pass0 (pa_cons (pv 3) (pa_cons (pv 3) pa_nil))) pe_non (nomark _)) (pe_one (pe_cmpR op_eq (pe_call (ok_first_unlike T) (hr.mono (by decide)) (by rfl) T.g_first_unlike T.F_first_unlike.kp T.b_first_unlike .nil pass0 (pa_cons (pv 2) (pa_cons (pe_op (op_ownBinT (K := K) rfl (ok_Form_add T) (hr.mono (by decide)) T.obt_Form_Add T.b_Form_add pass0) (pv 2) pe_int) pa_nil))) (pe_ix (ix_tupK (K := K) rfl) (pv 0) pe_int (fun _ _ => rfl)) (nomark _))))))))))), ?_⟩
    refine ⟨_, rfl, ?_⟩
    refine ⟨ms, _, x_mine, _, rfl, hW.enter0, h_mine, hM, fun r1 u4 H5 hM e3 h2 => ?_⟩
    replace h_mine := rep_ext e3 h_mine
    replace h_theirs := rep_ext e3 h_theirs
    replace hW := hW.ret0 e3
    refine ⟨_, rfl, ?_⟩
    refine ⟨ms, _, x_theirs, _, rfl, hW.enter0, h_theirs, hM, fun r6 u9 H10 hM e8 h7 => ?_⟩
    replace h_mine := rep_ext e8 h_mine
    replace h_theirs := rep_ext e8 h_theirs
    replace h2 := rep_ext e8 h2
    replace hW := hW.ret0 e8
    refine ⟨_, rfl, ?_⟩
    refine ⟨_, rfl, ?_⟩
    refine ⟨ms, _, _, x_mine, x_theirs, _, rfl, hW.enter0, h_mine, h_theirs, hM, fun r11 u14 H15 hM e13 h12 => ?_⟩
    replace h_mine := rep_ext e13 h_mine
    replace h_theirs := rep_ext e13 h_theirs
    replace h2 := rep_ext e13 h2
    replace h7 := rep_ext e13 h7
    replace hW := hW.ret0 e13
    obtain rfl := rep_optV h12
    refine ⟨_, _, _, rfl, ?_⟩
    refine ⟨_, rfl, ?_⟩
    refine ⟨_, rfl, ?_⟩
    refine ⟨ms, _, _, r1, r6, _, rfl, hW.enter0, h2, h7, hM, fun r16 u19 H20 hM e18 h17 => ?_⟩
    replace h_mine := rep_ext e18 h_mine
    replace h_theirs := rep_ext e18 h_theirs
    replace h2 := rep_ext e18 h2
    replace h7 := rep_ext e18 h7
    replace hW := hW.ret0 e18
    obtain rfl := rep_optV h17
    refine ⟨_, rfl, ?_⟩
    refine ⟨_, rfl, ?_⟩
    refine ⟨rfl, ?_⟩
    refine ⟨ms, _, _, r6, r1, _, rfl, hW.enter0, h7, h2, hM, fun r21 u24 H25 hM e23 h22 => ?_⟩
    replace h_mine := rep_ext e23 h_mine
    replace h_theirs := rep_ext e23 h_theirs
    replace h2 := rep_ext e23 h2
    replace h7 := rep_ext e23 h7
    replace hW := hW.ret0 e23
    obtain rfl := rep_optV h22
    refine ⟨_, rfl, ?_⟩
    refine ⟨_, rfl, ?_⟩
    refine ⟨ms, _, _, r1, r6, _, rfl, hW.enter0, h2, h7, hM, fun r26 u29 H30 hM e28 h27 => ?_⟩
    replace h_mine := rep_ext e28 h_mine
    replace h_theirs := rep_ext e28 h_theirs
    replace h2 := rep_ext e28 h2
    replace h7 := rep_ext e28 h7
    replace hW := hW.ret0 e28
    obtain rfl := rep_optV h27
    refine ⟨(by show 3 ≤ sizeLine; decide), ?_⟩
    intro p31 n35
    have e32 := Rx.Ext.new (H := H30) (o := (HO.lst [(optV V.int r16), (optV V.int r21), (optV V.int r26)])) n35
    have hp33 : upd H30 p31 (HO.lst [(optV V.int r16), (optV V.int r21), (optV V.int r26)]) p31 = some (HO.lst [(optV V.int r16), (optV V.int r21), (optV V.int r26)]) := upd_same
    generalize upd H30 p31 (HO.lst [(optV V.int r16), (optV V.int r21), (optV V.int r26)]) = H36 at e32 hp33 ⊢
    have h34 : rep ms H36 (D.lst (([r16, r21, r26] : List (Option Int)).map (fun y_ : (Option Int) => (encO (fun y_ : Int => (D.v (V.int y_))) y_)))) (.ref p31) := rep_lst_mk hW n35 e32 hp33 (repL_cons rep_oV (repL_cons rep_oV (repL_cons rep_oV repL_nil)))
    replace h_mine := rep_ext e32 h_mine
    replace h_theirs := rep_ext e32 h_theirs
    replace h2 := rep_ext e32 h2
    replace h7 := rep_ext e32 h7
    replace hW := hW.ret0 e32
    refine ⟨_, rfl, ?_⟩
    obtain ⟨g37, hM⟩ := hM
    apply rep_repr (d := (D.lst (([r16, r21, r26] : List (Option Int)).map (fun y_ : (Option Int) => (encO (fun y_ : Int => (D.v (V.int y_))) y_))))) h34 g37.1 g37.2.1 g37.2.2.1 g37.2.2.2.1 g37.2.2.2.2
    refine ⟨_, rfl, ?_⟩
    refine ⟨(by show 1 ≤ sizeLine; decide), ?_⟩
    intro p38 n42
    have e39 := Rx.Ext.new (H := H36) (o := (HO.lst [(optV V.int r11)])) n42
    have hp40 : upd H36 p38 (HO.lst [(optV V.int r11)]) p38 = some (HO.lst [(optV V.int r11)]) := upd_same
    generalize upd H36 p38 (HO.lst [(optV V.int r11)]) = H43 at e39 hp40 ⊢
    have h41 : rep ms H43 (D.lst (([r11] : List (Option Int)).map (fun y_ : (Option Int) => (encO (fun y_ : Int => (D.v (V.int y_))) y_)))) (.ref p38) := rep_lst_mk hW n42 e39 hp40 (repL_cons rep_oV repL_nil)
    replace h_mine := rep_ext e39 h_mine
    replace h_theirs := rep_ext e39 h_theirs
    replace h2 := rep_ext e39 h2
    replace h7 := rep_ext e39 h7
    replace h34 := rep_ext e39 h34
    replace hW := hW.ret0 e39
    obtain ⟨g44, hM⟩ := hM
    apply rep_mulLC (e := (fun y_ : (Option Int) => (encO (fun y_ : Int => (D.v (V.int y_))) y_))) (xs := ([r11] : List (Option Int))) h41 g44
    intro vs45 hr46
    intro p47 n51
    have e48 := Rx.Ext.new (H := H43) (o := (HO.lst (vs45))) n51
    have hp49 : upd H43 p47 (HO.lst (vs45)) p47 = some (HO.lst (vs45)) := upd_same
    generalize upd H43 p47 (HO.lst (vs45)) = H52 at e48 hp49 ⊢
    have h50 : rep ms H52 (D.lst ((List.flatten (List.replicate (Int.toNat (3 : Int)) ([r11] : List (Option Int)))).map (fun y_ : (Option Int) => (encO (fun y_ : Int => (D.v (V.int y_))) y_)))) (.ref p47) := rep_lst_mk hW n51 e48 hp49 hr46
    replace h_mine := rep_ext e48 h_mine
    replace h_theirs := rep_ext e48 h_theirs
    replace h2 := rep_ext e48 h2
    replace h7 := rep_ext e48 h7
    replace h34 := rep_ext e48 h34
    replace h41 := rep_ext e48 h41
    replace hW := hW.ret0 e48
    obtain ⟨g53, hM⟩ := hM
    apply rep_repr (d := (D.lst ((List.flatten (List.replicate (Int.toNat (3 : Int)) ([r11] : List (Option Int)))).map (fun y_ : (Option Int) => (encO (fun y_ : Int => (D.v (V.int y_))) y_))))) h50 g53.1 g53.2.1 g53.2.2.1 g53.2.2.2.1 g53.2.2.2.2
    refine ⟨rfl, ?_⟩
    refine ⟨_, rfl, ?_⟩
    refine ite3 hM (fun hM => ?_) (fun hM => ?_)
    · skip
      exact hQ false _ _ hM hW.out rep_v
    · skip
      refine ⟨_, rfl, ?_⟩
      refine ⟨_, rfl, ?_⟩
      refine ⟨ms, _, _, r1, r6, _, rfl, hW.enter0, h2, h7, hM, fun r54 u57 H58 hM e56 h55 => ?_⟩
      replace h_mine := rep_ext e56 h_mine
      replace h_theirs := rep_ext e56 h_theirs
      replace h2 := rep_ext e56 h2
      replace h7 := rep_ext e56 h7
      replace h34 := rep_ext e56 h34
      replace h41 := rep_ext e56 h41
      replace h50 := rep_ext e56 h50
      replace hW := hW.ret0 e56
      obtain rfl := of_v h55
      refine ⟨_, rfl, ?_⟩
      refine ⟨_, rfl, ?_⟩
      refine ⟨rfl, ?_⟩
      refine ⟨ms, _, _, r6, r1, _, rfl, hW.enter0, h7, h2, hM, fun r59 u62 H63 hM e61 h60 => ?_⟩
      replace h_mine := rep_ext e61 h_mine
      replace h_theirs := rep_ext e61 h_theirs
      replace h2 := rep_ext e61 h2
      replace h7 := rep_ext e61 h7
      replace h34 := rep_ext e61 h34
      replace h41 := rep_ext e61 h41
      replace h50 := rep_ext e61 h50
      replace hW := hW.ret0 e61
      obtain rfl := of_v h60
      refine ⟨_, rfl, ?_⟩
      refine ⟨_, rfl, ?_⟩
      refine ⟨ms, _, _, r1, r6, _, rfl, hW.enter0, h2, h7, hM, fun r64 u67 H68 hM e66 h65 => ?_⟩
      replace h_mine := rep_ext e66 h_mine
      replace h_theirs := rep_ext e66 h_theirs
      replace h2 := rep_ext e66 h2
      replace h7 := rep_ext e66 h7
      replace h34 := rep_ext e66 h34
      replace h41 := rep_ext e66 h41
      replace h50 := rep_ext e66 h50
      replace hW := hW.ret0 e66
      obtain rfl := of_v h65
      refine ⟨(by show 3 ≤ sizeLine; decide), ?_⟩
      intro p69 n73
      have e70 := Rx.Ext.new (H := H68) (o := (HO.lst [V.bl r54, V.bl r59, V.bl r64])) n73
      have hp71 : upd H68 p69 (HO.lst [V.bl r54, V.bl r59, V.bl r64]) p69 = some (HO.lst [V.bl r54, V.bl r59, V.bl r64]) := upd_same
      generalize upd H68 p69 (HO.lst [V.bl r54, V.bl r59, V.bl r64]) = H74 at e70 hp71 ⊢
      have h72 : rep ms H74 (D.lst (([r54, r59, r64] : List Bool).map (fun y_ : Bool => (D.v (V.bl y_))))) (.ref p69) := rep_lst_mk hW n73 e70 hp71 (repL_cons rep_v (repL_cons rep_v (repL_cons rep_v repL_nil)))
      replace h_mine := rep_ext e70 h_mine
      replace h_theirs := rep_ext e70 h_theirs
      replace h2 := rep_ext e70 h2
      replace h7 := rep_ext e70 h7
      replace h34 := rep_ext e70 h34
      replace h41 := rep_ext e70 h41
      replace h50 := rep_ext e70 h50
      replace hW := hW.ret0 e70
      refine ⟨_, rfl, ?_⟩
      obtain ⟨g75, hM⟩ := hM
      apply rep_repr (d := (D.lst (([r54, r59, r64] : List Bool).map (fun y_ : Bool => (D.v (V.bl y_)))))) h72 g75.1 g75.2.1 g75.2.2.1 g75.2.2.2.1 g75.2.2.2.2
      refine ⟨_, rfl, ?_⟩
      refine ⟨rfl, ?_⟩
      rw [optV_isN (fun _ z_ => by cases z_)]
      refine ⟨(by show 1 ≤ sizeLine; decide), ?_⟩
      intro p76 n80
      have e77 := Rx.Ext.new (H := H74) (o := (HO.lst [V.bl (Option.isNone r11)])) n80
      have hp78 : upd H74 p76 (HO.lst [V.bl (Option.isNone r11)]) p76 = some (HO.lst [V.bl (Option.isNone r11)]) := upd_same
      generalize upd H74 p76 (HO.lst [V.bl (Option.isNone r11)]) = H81 at e77 hp78 ⊢
      have h79 : rep ms H81 (D.lst (([(Option.isNone r11)] : List Bool).map (fun y_ : Bool => (D.v (V.bl y_))))) (.ref p76) := rep_lst_mk hW n80 e77 hp78 (repL_cons rep_v repL_nil)
      replace h_mine := rep_ext e77 h_mine
      replace h_theirs := rep_ext e77 h_theirs
      replace h2 := rep_ext e77 h2
      replace h7 := rep_ext e77 h7
      replace h34 := rep_ext e77 h34
      replace h41 := rep_ext e77 h41
      replace h50 := rep_ext e77 h50
      replace h72 := rep_ext e77 h72
      replace hW := hW.ret0 e77
      obtain ⟨g82, hM⟩ := hM
      apply rep_mulLC (e := (fun y_ : Bool => (D.v (V.bl y_)))) (xs := ([(Option.isNone r11)] : List Bool)) h79 g82
      intro vs83 hr84
      intro p85 n89
      have e86 := Rx.Ext.new (H := H81) (o := (HO.lst (vs83))) n89
      have hp87 : upd H81 p85 (HO.lst (vs83)) p85 = some (HO.lst (vs83)) := upd_same
      generalize upd H81 p85 (HO.lst (vs83)) = H90 at e86 hp87 ⊢
      have h88 : rep ms H90 (D.lst ((List.flatten (List.replicate (Int.toNat (3 : Int)) ([(Option.isNone r11)] : List Bool))).map (fun y_ : Bool => (D.v (V.bl y_))))) (.ref p85) := rep_lst_mk hW n89 e86 hp87 hr84
      replace h_mine := rep_ext e86 h_mine
      replace h_theirs := rep_ext e86 h_theirs
      replace h2 := rep_ext e86 h2
      replace h7 := rep_ext e86 h7
      replace h34 := rep_ext e86 h34
      replace h41 := rep_ext e86 h41
      replace h50 := rep_ext e86 h50
      replace h72 := rep_ext e86 h72
      replace h79 := rep_ext e86 h79
      replace hW := hW.ret0 e86
      obtain ⟨g91, hM⟩ := hM
      apply rep_repr (d := (D.lst ((List.flatten (List.replicate (Int.toNat (3 : Int)) ([(Option.isNone r11)] : List Bool))).map (fun y_ : Bool => (D.v (V.bl y_)))))) h88 g91.1 g91.2.1 g91.2.2.1 g91.2.2.2.1 g91.2.2.2.2
      refine ⟨rfl, ?_⟩
      refine ⟨_, rfl, ?_⟩
      refine ite3 hM (fun hM => ?_) (fun hM => ?_)
      · skip
        refine iteT ?_
        exact hQ false _ _ hM hW.out rep_v
      · skip
        refine ⟨_, rfl, ?_⟩
        refine ⟨_, rfl, ?_⟩
        refine ⟨ms, _, _, r1, r1, _, rfl, hW.enter0, h2, h2, hM, fun r92 u95 H96 hM e94 h93 => ?_⟩
        replace h_mine := rep_ext e94 h_mine
        replace h_theirs := rep_ext e94 h_theirs
        replace h2 := rep_ext e94 h2
        replace h7 := rep_ext e94 h7
        replace h34 := rep_ext e94 h34
        replace h41 := rep_ext e94 h41
        replace h50 := rep_ext e94 h50
        replace h72 := rep_ext e94 h72
        replace h79 := rep_ext e94 h79
        replace h88 := rep_ext e94 h88
        replace hW := hW.ret0 e94
        obtain rfl := of_v h93
        refine ⟨_, _, rfl, rfl, ?_⟩
        refine ⟨_, rfl, ?_⟩
        refine ite3 hM (fun hM => ?_) (fun hM => ?_)
        · skip
          exact hQ false _ _ hM hW.out rep_v
        · skip
          refine ⟨_, rfl, ?_⟩
          refine ⟨_, rfl, ?_⟩
          refine ⟨ms, _, _, r6, r6, _, rfl, hW.enter0, h7, h7, hM, fun r97 u100 H101 hM e99 h98 => ?_⟩
          replace h_mine := rep_ext e99 h_mine
          replace h_theirs := rep_ext e99 h_theirs
          replace h2 := rep_ext e99 h2
          replace h7 := rep_ext e99 h7
          replace h34 := rep_ext e99 h34
          replace h41 := rep_ext e99 h41
          replace h50 := rep_ext e99 h50
          replace h72 := rep_ext e99 h72
          replace h79 := rep_ext e99 h79
          replace h88 := rep_ext e99 h88
          replace hW := hW.ret0 e99
          obtain rfl := rep_optV h98
          refine ⟨rfl, ?_⟩
          rw [optV_isN (fun _ z_ => by cases z_)]
          refine ⟨_, rfl, ?_⟩
          refine ite3 hM (fun hM => ?_) (fun hM => ?_)
          · skip
            refine ⟨_, rfl, ?_⟩
            refine ⟨_, rfl, ?_⟩
            apply rep_ownBinT h2
            refine ⟨ms, _, r1, (1 : Int), _, rfl, hW.enter0, h2, hM, fun r102 u105 H106 hM e104 h103 => ?_⟩
            replace h_mine := rep_ext e104 h_mine
            replace h_theirs := rep_ext e104 h_theirs
            replace h2 := rep_ext e104 h2
            replace h7 := rep_ext e104 h7
            replace h34 := rep_ext e104 h34
            replace h41 := rep_ext e104 h41
            replace h50 := rep_ext e104 h50
            replace h72 := rep_ext e104 h72
            replace h79 := rep_ext e104 h79
            replace h88 := rep_ext e104 h88
            replace hW := hW.ret0 e104
            obtain ⟨p107, _, _, rfl, _⟩ := rep_insA h103
            refine ⟨_, rfl, ?_⟩
            refine ⟨ms, _, _, r1, r102, _, rfl, hW.enter0, h2, h103, hM, fun r108 u111 H112 hM e110 h109 => ?_⟩
            replace h_mine := rep_ext e110 h_mine
            replace h_theirs := rep_ext e110 h_theirs
            replace h2 := rep_ext e110 h2
            replace h7 := rep_ext e110 h7
            replace h34 := rep_ext e110 h34
            replace h41 := rep_ext e110 h41
            replace h50 := rep_ext e110 h50
            replace h72 := rep_ext e110 h72
            replace h79 := rep_ext e110 h79
            replace h88 := rep_ext e110 h88
            replace h103 := rep_ext e110 h103
            replace hW := hW.ret0 e110
            obtain rfl := rep_optV h109
            refine ⟨_, rfl, ?_⟩
            apply rep_ixT 0 h_mine rfl rfl
            intro u114 h113
            obtain rfl := of_v h113
            refine ⟨by first | exact scal_oo | exact scal_oi | exact scal_io | exact scal_on, ?_⟩
            exact hQ (decide (((optV V.int r108)) = (V.int x_mine.1))) _ _ hM hW.out rep_v
          · skip
            exact hQ false _ _ hM hW.out rep_v
def M_right (KM : Bool → Prop) : Prop :=
  (forC (fun (x1 : Int) (s3 : Unit) (k4 : Unit → Prop) => (M_parts (6 : Int) fun r12 => (M_beside r12 fun r17 => (M_are_right r12 r17 fun r22 => (if (!r22) = true then (KM false) else (k4 ())))))) (rangeI (0 : Int) (6 : Int)) () fun s27 => (KM true))
def sp_right (A : Ad) : Sp := fun vs H Q _ => ∃ (ms : List Addr) (ap : Addr) (KM : Bool → Prop), vs = [.ref ap] ∧ Wd ms [ap] [] H H ∧ M_right  KM ∧ ∀ (r : Bool) (u : V) (H1 : Hp), KM r → Ret [ap] H H1 → rep ms H1 (D.v (V.bl r)) u → Q u H1
set_option maxHeartbeats 16000000 in
theorem ok_right {P : Program} {w : World} {K : PySem.W.Frag} {mg : Str → Option Value} {base : Heap} {A : Ad} (T : Txt w K mg A) : FnG P w K mg base 10 A.a_right A.d_right ["_law_pot_here"] (sp_right A) := by
  refine okG T.F_right sc_right (fun vs H Q E h => ?_) (fun cdv A_ outer s_ H_0 vs Q E gu hr h => ?_)
  · obtain ⟨ms, ap, KM, rfl, _⟩ := h
    rfl
  · obtain ⟨ms, ap, KM, rfl, hW, hM, hQ⟩ := h
    unfold M_right at hM
    refine ⟨_, (pss_cons (ps_for PassesOwn.never rfl (pi_rangeW1 (by rfl) T.z_range (pa_cons pe_int pa_nil)) (pg_name (i := 1) sc_right.nd rfl (by first | exact Or.inl rfl | exact Or.inr rfl)) (pss_cons (ps_set (i := 2) sc_right.nd rfl (by first | exact Or.inl rfl | exact Or.inr rfl) (pe_call (ok_parts T) (hr.mono (by decide)) (by rfl) T.g_parts T.F_parts.kp T.b_parts .nil pass0 (pa_cons (pv 0) (pa_cons pe_int pa_nil)))) (pss_one (ps_if (pt_not (pt_val (pe_callG (ok_are_right T) gu (hr.mono (by decide)) (by rfl) T.g_are_right T.F_are_right.kp T.b_are_right (pa_cons (pv 2) (pa_cons (pe_call (ok_beside T) (hr.mono (by decide)) (by rfl) T.g_beside T.F_beside.kp T.b_beside .nil pass0 (pa_cons (pv 0) (pa_cons (pv 2) pa_nil))) pa_nil))))) (pss_one (ps_ret pe_bl)) pss_nil)))) (pss_one (ps_ret pe_bl))), ?_⟩
    refine ⟨_, rfl, ?_⟩
    refine for_rangeG (S := Unit) (lo := (0 : Int)) (hi := (6 : Int)) (N := Int.toNat (6 : Int)) (fun (s : Unit) σ_ h_ => ∃ (w_0 : Option V), ∃ (w_1 : Option V), σ_ = [some (V.ref ap), w_0, w_1] ∧ Wd ms [ap] [] H_0 h_ ∧ Keep ms H_0 h_) () (by simp) hM ⟨_, _, rfl, hW, Keep.refl⟩ ?_ ?_
    · skip
      rintro x1 s3 k4 _ H11 ⟨w9, w10, rfl, hW, hk5⟩ hM Nx7 hN8
      refine ⟨_, rfl, ?_⟩
      refine ⟨ms, ap, (6 : Int), _, rfl, hW.enterP, hM, fun r12 u15 H16 hM e14 h13 => ?_⟩
      replace hk5 := keep_ret hW e14 hk5
      replace hW := hW.retP e14
      refine ⟨_, rfl, ?_⟩
      refine ⟨_, rfl, ?_⟩
      refine ⟨_, rfl, ?_⟩
      refine ⟨ms, ap, _, r12, _, rfl, hW.enterP, h13, hM, fun r17 u20 H21 hM e19 h18 => ?_⟩
      replace hk5 := keep_ret hW e19 hk5
      replace h13 := rep_ret hW e19 h13
      replace hW := hW.retP e19
      refine ⟨ms, _, _, r12, r17, _, rfl, hW.enter0, h13, h18, hM, fun r22 u25 H26 hM e24 h23 => ?_⟩
      replace hk5 := keep_ext e24 hk5
      replace h13 := rep_ext e24 h13
      replace h18 := rep_ext e24 h18
      replace hW := hW.ret0 e24
      obtain rfl := of_v h23
      refine ⟨_, rfl, ?_⟩
      refine ite3 hM (fun hM => ?_) (fun hM => ?_)
      · skip
        exact hQ false _ _ hM hW.out rep_v
      · skip
        exact hN8 () _ _ hM ⟨_, _, rfl, hW, hk5⟩
    · skip
      rintro s27 _ H31 hM ⟨w29, w30, rfl, hW, hk28⟩
      exact hQ true _ _ hM hW.out rep_v
/-! ### the pot of a cell, and the law -/
def sp_pot (K : PySem.W.Frag) : Sp := fun vs H Q _ => ∃ (a : Addr) (ns : List Int) (k : Int), vs = [.ref a, .int k] ∧ SqL K H a (ns.map V.int) ∧ ns.length ≤ 63 ∧ 0 ≤ k ∧ k ≤ 100 ∧
  ∀ (p : Addr) (H1 : Hp) (i j : Int), H p = none → Rx.Ext H H1 → H1 p = some (.lst [.int i, .int j]) → j.natAbs < 4294967296 → Q (.ref p) H1
theorem ok_pot {P : Program} {w : World} {K : PySem.W.Frag} {mg : Str → Option Value} {base : Heap} {A : Ad} (T : Txt w K mg A) : FnOk P w K mg base CX0 1 A.a_pot A.d_pot ["_law_script", "_law_k"] (sp_pot K) := by
  refine T.F_pot.ok sc_pot (fun vs H Q E h => ?_) (fun cdv A_ outer s_ H_0 vs Q E hr h => ?_)
  · obtain ⟨a, ns, k, rfl, _⟩ := h
    rfl
  · obtain ⟨a, ns, k, rfl, hS, hl, k0, k1, hQ⟩ := h
    refine ⟨_, pss_cons (ps_set (i := 2) sc_pot.nd rfl (.inl rfl) (pe_op op_add (pe_op op_mul pe_int (pv 1)) pe_int))
      (pss_cons (ps_if (pt_cmpR op_lt (pv 1) (pe_callB call_len (by rfl) T.z_len PySem.boot_len (pa_cons (pv 0) pa_nil)) (nomark _))
        (pss_one (ps_set (i := 2) sc_pot.nd rfl (.inl rfl) (pe_callB call_abs (by rfl) T.z_abs (by decide +kernel) (pa_cons (pe_ix ix_list (pv 0) (pv 1) (fun _ _ => rfl)) pa_nil)))) pss_nil)
      (pss_one (ps_ret (pe_lst (pa_cons (pe_callB (call_max2 rfl) (by rfl) T.z_max (by decide +kernel) (pa_cons pe_int (pa_cons (pe_op op_sub (pv 2) (pe_op op_pow pe_int pe_int)) pa_nil)))
        (pa_cons (pe_op op_add (pe_op op_mod (pe_op op_mul (pe_callTy call_int1 (by rfl) T.z_int (by decide +kernel) (pa_cons (pe_op op_add (pe_op op_mod (pe_callTy call_int1 (by rfl) T.z_int (by decide +kernel) (pa_cons (pv 2) pa_nil)) pe_int) pe_int) pa_nil))
          (pe_op op_pow (pe_op op_add (pe_op op_mul pe_int (pv 1)) pe_int) pe_int)) pe_int) pe_int) pa_nil)))))), ?_⟩
    refine ⟨_, rfl, _, _, rfl, rfl, .inl ⟨by decide, by decide⟩, _, _, rfl, rfl, ?_⟩
    refine ⟨_, rfl, _, rfl, _, ns.length, rfl, .inl ⟨_, hS, by rw [List.length_map]⟩, _, _, rfl, rfl, _, rfl, ?_⟩
    have fin : ∀ (c : Int) (p : Addr) (x y : Int), H_0 p = none → Q (.ref p) (upd H_0 p (.lst [.int x, .int (y % 2147483477 + 1)])) := fun c p x y np =>
      hQ p _ _ _ np (Rx.Ext.new np) upd_same (by omega)
    refine ite2 (fun c => ?_) (fun c => ?_)
    · have hk : k.toNat < ns.length := by
        have := of_decide_eq_true c
        omega
      refine ⟨_, rfl, _, rfl, a, _, k, .int (ns[k.toNat]), rfl, rfl, hS, at_of (j := k.toNat) (by omega) (by rw [List.getElem?_map, List.getElem?_eq_getElem hk]; rfl), _, rfl, ?_⟩
      refine ⟨_, rfl, _, _, rfl, rfl, ⟨by decide, by decide, by decide⟩, _, _, rfl, rfl, _, _, rfl, _, rfl, .inl ⟨_, rfl, _, _, rfl, rfl, (by show (0 : Int) < 2147483549; decide), _, _, rfl, rfl, .inl ⟨_, rfl, _, rfl, _, _, rfl, rfl, .inl ⟨by decide, by decide⟩, _, _, rfl, rfl, _, _, rfl, rfl, ⟨by decide, by decide, by show (2 * k + 3).natAbs < 2 ^ 64; omega⟩, _, _, rfl, rfl, ?_, _, _, rfl, rfl, (by show (0 : Int) < 2147483477; decide), _, _, rfl, rfl, (by show 2 ≤ sizeLine; decide), fun p np => fin 0 p _ _ np⟩⟩⟩
      exact .inl ⟨by omega, by omega⟩
    · refine ⟨_, rfl, _, _, rfl, rfl, ⟨by decide, by decide, by decide⟩, _, _, rfl, rfl, _, _, rfl, _, rfl, .inl ⟨_, rfl, _, _, rfl, rfl, (by show (0 : Int) < 2147483549; decide), _, _, rfl, rfl, .inl ⟨_, rfl, _, rfl, _, _, rfl, rfl, .inl ⟨by decide, by decide⟩, _, _, rfl, rfl, _, _, rfl, rfl, ⟨by decide, by decide, by show (2 * k + 3).natAbs < 2 ^ 64; omega⟩, _, _, rfl, rfl, ?_, _, _, rfl, rfl, (by show (0 : Int) < 2147483477; decide), _, _, rfl, rfl, (by show 2 ≤ sizeLine; decide), fun p np => fin 0 p _ _ np⟩⟩⟩
      exact .inl ⟨by omega, by omega⟩

open Wm
/-! ### quadratic rows by rests -/
abbrev Row := Int × Int × Int
def rv (r : Row) (t : Int) : Int := (r.1 * t + r.2.1) * t + r.2.2
def rg (R : List Row) (j : Nat) : Row := R.getD j (0, 0, 0)
def vn (R : List Row) (p : Nat) : Int := rv (rg R (p % R.length)) ((p / R.length : Nat) : Int)
def srow (r : Row) (m h : Int) : Row := (r.1 * m * m, (2 * r.1 * h + r.2.1) * m, rv r h)
theorem rv_srow (r : Row) (m h t : Int) : rv (srow r m h) t = rv r (h + m * t) := by
  obtain ⟨a, b, c⟩ := r
  simp only [rv, srow]
  grind
theorem rv_uniq {r r' : Row} (h0 : rv r 0 = rv r' 0) (h1 : rv r 1 = rv r' 1) (h2 : rv r 2 = rv r' 2) : r = r' := by
  obtain ⟨a, b, c⟩ := r
  obtain ⟨a', b', c'⟩ := r'
  simp only [rv] at h0 h1 h2
  have e1 : a = a' := by omega
  have e2 : b = b' := by omega
  have e3 : c = c' := by omega
  rw [e1, e2, e3]
def spr (F : List Row) (N : Nat) : List Row := (List.range N).map fun x => srow (rg F (x % F.length)) ((N / F.length : Nat) : Int) ((x / F.length : Nat) : Int)
theorem spr_len (F : List Row) (N : Nat) : (spr F N).length = N := by simp [spr]
theorem rg_spr {F : List Row} {N x : Nat} (h : x < N) : rg (spr F N) x = srow (rg F (x % F.length)) ((N / F.length : Nat) : Int) ((x / F.length : Nat) : Int) := by
  unfold rg spr
  rw [List.getD_eq_getElem?_getD, List.getElem?_map, List.getElem?_range h]
  rfl
theorem divmod_add {d m x t : Nat} (hd : 0 < d) : (x + d * m * t) % d = x % d ∧ (x + d * m * t) / d = x / d + m * t := by
  rw [Nat.mul_assoc]
  exact ⟨Nat.add_mul_mod_self_left _ _ _, Nat.add_mul_div_left _ _ hd⟩
theorem vn_spr {F : List Row} {N : Nat} (hF : 0 < F.length) (hd : F.length ∣ N) (hN : 0 < N) (p : Nat) : vn (spr F N) p = vn F p := by
  obtain ⟨m, rfl⟩ := hd
  have hx : p % (F.length * m) < F.length * m := Nat.mod_lt _ hN
  have ep : p = p % (F.length * m) + F.length * m * (p / (F.length * m)) := (Nat.mod_add_div _ _).symm
  obtain ⟨e1, e2⟩ := divmod_add (d := F.length) (m := m) (x := p % (F.length * m)) (t := p / (F.length * m)) hF
  rw [← ep] at e1 e2
  unfold vn
  rw [spr_len, rg_spr hx, rv_srow, Nat.mul_div_cancel_left _ hF, e1, e2]
  congr 1
theorem vn_add {R : List Row} (hR : 0 < R.length) {j s : Nat} (hj : j < R.length) : vn R (j + R.length * s) = rv (rg R j) (s : Int) := by
  unfold vn
  rw [Nat.add_mul_mod_self_left, Nat.add_mul_div_left _ _ hR, Nat.mod_eq_of_lt hj, Nat.div_eq_of_lt hj, Nat.zero_add]
theorem rows_ext {R R' : List Row} (h0 : 0 < R.length) (hl : R.length = R'.length) (h : ∀ j < R.length, rg R j = rg R' j) : R = R' := by
  refine List.ext_getElem? fun j => ?_
  by_cases c : j < R.length
  · have := h j c
    unfold rg at this
    rw [List.getD_eq_getElem?_getD, List.getD_eq_getElem?_getD, List.getElem?_eq_getElem c, List.getElem?_eq_getElem (hl ▸ c)] at this
    rw [List.getElem?_eq_getElem c, List.getElem?_eq_getElem (hl ▸ c)]
    exact congrArg some this
  · rw [List.getElem?_eq_none (by omega), List.getElem?_eq_none (by omega)]
theorem rows_of_vn {R R' : List Row} (h0 : 0 < R.length) (hl : R.length = R'.length) (h : ∀ p, vn R p = vn R' p) : R = R' := by
  refine rows_ext h0 hl fun j hj => ?_
  have k : ∀ s : Nat, rv (rg R j) (s : Int) = rv (rg R' j) (s : Int) := fun s => by
    rw [← vn_add h0 hj, ← vn_add (hl ▸ h0) (hl ▸ hj), h, hl]
  exact rv_uniq (k 0) (k 1) (k 2)
/-- the rows F tell the same as R, with a number of rows that divides -/
structure IsSp (F R : List Row) : Prop where
  pos : 0 < F.length
  dvd : F.length ∣ R.length
  val : ∀ p, vn F p = vn R p
theorem IsSp.spr {F R : List Row} (h : IsSp F R) (hR : 0 < R.length) : spr F R.length = R :=
  rows_of_vn (by rw [spr_len]; exact hR) (spr_len _ _) fun p => by rw [vn_spr h.pos h.dvd hR, h.val]
theorem IsSp.of {F R : List Row} (hF : 0 < F.length) (hd : F.length ∣ R.length) (hR : 0 < R.length) (h : Lw.spr F R.length = R) : IsSp F R :=
  ⟨hF, hd, fun p => by rw [← vn_spr hF hd hR, h]⟩
theorem IsSp.refl {R : List Row} (h : 0 < R.length) : IsSp R R := ⟨h, Nat.dvd_refl _, fun _ => rfl⟩
theorem IsSp.trans {F G R : List Row} (a : IsSp F G) (b : IsSp G R) : IsSp F R := ⟨a.pos, Nat.dvd_trans a.dvd b.dvd, fun p => by rw [a.val, b.val]⟩
theorem IsSp.uniq {F G R : List Row} (a : IsSp F R) (b : IsSp G R) (h : F.length = G.length) : F = G := rows_of_vn a.pos h fun p => by rw [a.val, b.val]
def Pd (R : List Row) (d : Nat) : Prop := ∃ F, F.length = d ∧ IsSp F R
structure IsLean (R F : List Row) : Prop where
  sp : IsSp F R
  least : ∀ d, d < F.length → ¬ Pd R d
theorem lean_ex {R : List Row} (h : 0 < R.length) : ∃ F, IsLean R F := by
  have key : ∀ k, (∃ F, IsLean R F) ∨ ∀ d < k, ¬ Pd R d := by
    intro k
    induction k with
    | zero => exact .inr fun d hd => absurd hd (Nat.not_lt_zero _)
    | succ k ih =>
      rcases ih with ih | ih
      · exact .inl ih
      · by_cases c : Pd R k
        · obtain ⟨F, e, s⟩ := c
          exact .inl ⟨F, s, fun d hd => ih d (e ▸ hd)⟩
        · refine .inr fun d hd => ?_
          by_cases e : d = k
          · rw [e]; exact c
          · exact ih d (by omega)
  rcases key (R.length + 1) with h1 | h1
  · exact h1
  · exact absurd ⟨R, rfl, .refl h⟩ (h1 R.length (Nat.lt_succ_self _))
theorem IsLean.self {R F : List Row} (h : IsLean R F) : IsLean F F := ⟨.refl h.sp.pos, fun d hd ⟨G, e, s⟩ => h.least d hd ⟨G, e, s.trans h.sp⟩⟩
theorem IsLean.uniq {R F G : List Row} (h : IsLean R F) (g : IsLean R G) : F = G := by
  refine h.sp.uniq g.sp ?_
  by_cases a : F.length < G.length
  · exact absurd ⟨F, rfl, h.sp⟩ (g.least _ a)
  · by_cases b : G.length < F.length
    · exact absurd ⟨G, rfl, g.sp⟩ (h.least _ b)
    · omega
/-! ### folded -/
def fold (R : List Row) (d : Nat) : List Row := (R.take d).map fun r => (r.1 / (((R.length / d : Nat) : Int) * ((R.length / d : Nat) : Int)), r.2.1 / ((R.length / d : Nat) : Int), r.2.2)
theorem fold_len {R : List Row} {d : Nat} (h : d ≤ R.length) : (fold R d).length = d := by
  simp [fold]
  omega
theorem fold_of {F R : List Row} (hR : 0 < R.length) (h : IsSp F R) : fold R F.length = F := by
  have hd : F.length ≤ R.length := Nat.le_of_dvd hR h.dvd
  have hm : 0 < R.length / F.length := Nat.div_pos hd h.pos
  refine rows_ext (by rw [fold_len hd]; exact h.pos) (fold_len hd) fun x hx => ?_
  rw [fold_len hd] at hx
  have e : rg R x = srow (rg F x) ((R.length / F.length : Nat) : Int) 0 := by
    have e0 : rg (Lw.spr F R.length) x = _ := rg_spr (F := F) (N := R.length) (by omega)
    rw [h.spr hR, Nat.mod_eq_of_lt hx, Nat.div_eq_of_lt hx] at e0
    exact e0
  have e2 : rg (fold R F.length) x = ((rg R x).1 / (((R.length / F.length : Nat) : Int) * ((R.length / F.length : Nat) : Int)), (rg R x).2.1 / ((R.length / F.length : Nat) : Int), (rg R x).2.2) := by
    have hx2 : x < R.length := by omega
    unfold rg fold
    rw [List.getD_eq_getElem?_getD, List.getElem?_map, List.getElem?_take_of_lt hx, List.getElem?_eq_getElem hx2, List.getD_eq_getElem?_getD, List.getElem?_eq_getElem hx2]
    rfl
  rw [e2, e]
  generalize hM : ((R.length / F.length : Nat) : Int) = M
  have hM0 : M ≠ 0 := by omega
  obtain ⟨a, b, c⟩ := rg F x
  simp only [srow, rv]
  have e3 : a * M * M / (M * M) = a := by
    rw [Int.mul_assoc]
    exact Int.mul_ediv_cancel _ (Int.mul_ne_zero hM0 hM0)
  have e4 : (2 * a * 0 + b) * M / M = b := by
    rw [Int.mul_ediv_cancel _ hM0]
    omega
  rw [e3, e4]
  simp
theorem pd_fold {R : List Row} {d : Nat} (hR : 0 < R.length) (h0 : 0 < d) (hd : d ∣ R.length) : spr (fold R d) R.length = R ↔ Pd R d := by
  have hl : (fold R d).length = d := fold_len (Nat.le_of_dvd hR hd)
  constructor
  · intro h
    exact ⟨fold R d, hl, .of (by omega) (by rw [hl]; exact hd) hR h⟩
  · rintro ⟨F, rfl, s⟩
    rw [fold_of hR s]
    exact s.spr hR
/-! ### what the law finds -/
def ltw (R : List Row) (d x : Nat) : Int := vn R (x + d * 2) - 2 * vn R (x + d * 1) + vn R (x + d * 0)
def lrow (R : List Row) (d x : Nat) : Row := (ltw R d x / 2, vn R (x + d * 1) - vn R (x + d * 0) - ltw R d x / 2, vn R (x + d * 0))
def lok (R : List Row) (d x : Nat) : Prop := ltw R d x % 2 = 0 ∧ ∀ t < 3 * (R.length / d), rv (lrow R d x) (t : Int) = vn R (x + d * t)
theorem row_tw (r : Row) : rv r 2 - 2 * rv r 1 + rv r 0 = 2 * r.1 := by
  obtain ⟨a, b, c⟩ := r
  simp only [rv]
  omega
theorem lrow_of {F R : List Row} (s : IsSp F R) {x : Nat} (hx : x < F.length) : lrow R F.length x = rg F x ∧ lok R F.length x := by
  have k : ∀ t : Nat, vn R (x + F.length * t) = rv (rg F x) (t : Int) := fun t => by rw [← s.val, vn_add s.pos hx]
  have e : ltw R F.length x = 2 * (rg F x).1 := by
    unfold ltw
    rw [k 2, k 1, k 0]
    exact row_tw _
  have e2 : lrow R F.length x = rg F x := by
    have h1 := k 1
    have h0 := k 0
    unfold lrow
    rw [e, h1, h0, Int.mul_ediv_cancel_left _ (by decide : (2 : Int) ≠ 0)]
    obtain ⟨a, b, c⟩ := rg F x
    simp only [rv]
    have z1 : ((1 : Nat) : Int) = 1 := rfl
    have z0 : ((0 : Nat) : Int) = 0 := rfl
    rw [z1, z0]
    simp only [Int.mul_one, Int.mul_zero, Int.zero_add, Prod.mk.injEq, true_and, and_true]
    omega
  refine ⟨e2, by rw [e]; omega, fun t _ => by rw [e2, k t]⟩
theorem pd_less {R : List Row} {d : Nat} (hR : 0 < R.length) (h0 : 0 < d) (hd : d ∣ R.length) (h : ∀ x < d, lok R d x) : IsSp ((List.range d).map (lrow R d)) R := by
  obtain ⟨m, hm⟩ := hd
  have hl : ((List.range d).map (lrow R d)).length = d := by simp
  have em : R.length / d = m := by rw [hm, Nat.mul_div_cancel_left _ h0]
  have m0 : 0 < m := by
    rcases Nat.eq_zero_or_pos m with z | z
    · rw [z, Nat.mul_zero] at hm; omega
    · exact z
  have hrg : ∀ x < d, rg ((List.range d).map (lrow R d)) x = lrow R d x := fun x hx => by
    unfold rg
    rw [List.getD_eq_getElem?_getD, List.getElem?_map, List.getElem?_range hx]
    rfl
  refine .of (by omega) (by rw [hl]; exact ⟨m, hm⟩) hR (rows_ext (by rw [spr_len]; exact hR) (spr_len _ _) fun j hj => ?_)
  rw [spr_len] at hj
  rw [rg_spr hj, hl, hrg _ (Nat.mod_lt _ h0), em]
  have hu : j / d < m := Nat.div_lt_of_lt_mul (by rw [← hm]; exact hj)
  have key : ∀ s : Nat, s < 3 → rv (srow (lrow R d (j % d)) (m : Int) ((j / d : Nat) : Int)) (s : Int) = rv (rg R j) (s : Int) := fun s hs => by
    rw [rv_srow]
    have q : ((j / d : Nat) : Int) + (m : Int) * (s : Int) = ((j / d + m * s : Nat) : Int) := by omega
    have ms : m * s ≤ m * 2 := Nat.mul_le_mul_left _ (by omega)
    rw [q, (h _ (Nat.mod_lt _ h0)).2 _ (by rw [em]; omega), ← vn_add hR hj, hm]
    congr 1
    have := Nat.mod_add_div j d
    rw [Nat.mul_add, ← Nat.mul_assoc]
    omega
  exact rv_uniq (key 0 (by decide)) (key 1 (by decide)) (key 2 (by decide))
/-! ### rests by the greatest common divisor -/
theorem bez : ∀ (b a : Nat), ∃ x y : Int, x * (a : Int) + y * (b : Int) = ((Nat.gcd a b : Nat) : Int) := by
  intro b
  induction b using Nat.strongRecOn with
  | _ b ih =>
    intro a
    rcases Nat.eq_zero_or_pos b with z | z
    · exact ⟨1, 0, by rw [z, Nat.gcd_zero_right]; omega⟩
    · obtain ⟨x, y, h⟩ := ih (a % b) (Nat.mod_lt _ z) b
      refine ⟨y, x - y * ((a / b : Nat) : Int), ?_⟩
      have e : (a : Int) = (b : Int) * ((a / b : Nat) : Int) + ((a % b : Nat) : Int) := by
        have := Nat.div_add_mod a b
        rw [← Int.natCast_mul]
        omega
      have g : Nat.gcd a b = Nat.gcd b (a % b) := by rw [Nat.gcd_comm a b, Nat.gcd_rec b a, Nat.gcd_comm]
      rw [g, ← h]
      generalize ((a / b : Nat) : Int) = q at *
      generalize ((a % b : Nat) : Int) = r at *
      generalize (a : Int) = A at *
      generalize (b : Int) = B at *
      rw [e]
      grind
theorem inv_ex {k e : Nat} (hk : 0 < k) (he : 0 < e) (hc : Nat.gcd k e = 1) : ∃ i j : Nat, k * i = 1 + e * j := by
  by_cases e1 : e = 1
  · exact ⟨1, k - 1, by rw [e1]; omega⟩
  obtain ⟨x, y, h⟩ := bez e k
  rw [hc] at h
  have hE : (0 : Int) < e := by omega
  have h0 := Int.emod_nonneg x (by omega : (e : Int) ≠ 0)
  have hd := Int.emod_add_mul_ediv x e
  generalize hX : x % (e : Int) = X at *
  have eq : (k : Int) * X = 1 + (e : Int) * (-y - (k : Int) * (x / (e : Int))) := by
    generalize x / (e : Int) = q at *
    rw [← hd] at h
    generalize (k : Int) = K at *
    generalize (e : Int) = E at *
    have h' : (X + E * q) * K + y * E = 1 := h
    grind
  have hJ : 0 ≤ -y - (k : Int) * (x / (e : Int)) := by
    have h1 : 0 ≤ (k : Int) * X := Int.mul_nonneg (by omega) h0
    generalize -y - (k : Int) * (x / (e : Int)) = J at *
    by_cases c : 0 ≤ J
    · exact c
    · have h2 : (e : Int) * J ≤ (e : Int) * (-1) := Int.mul_le_mul_of_nonneg_left (by omega) (by omega)
      omega
  refine ⟨X.toNat, (-y - (k : Int) * (x / (e : Int))).toNat, ?_⟩
  generalize -y - (k : Int) * (x / (e : Int)) = J at *
  obtain ⟨X', rfl⟩ := Int.eq_ofNat_of_zero_le h0
  obtain ⟨J', rfl⟩ := Int.eq_ofNat_of_zero_le hJ
  simp only [Int.toNat_natCast]
  exact_mod_cast eq
/-- two quadratics that agree at three places of one distance -/
theorem quad3 {a b c t w : Int} (hw : w ≠ 0) (h0 : a * (t * t) + b * t + c = 0) (h1 : a * ((t + w) * (t + w)) + b * (t + w) + c = 0) (h2 : a * ((t + 2 * w) * (t + 2 * w)) + b * (t + 2 * w) + c = 0) : a = 0 ∧ b = 0 ∧ c = 0 := by
  have e1 : 2 * (w * w) * a = 0 := by grind
  have ea : a = 0 := by
    rcases Int.mul_eq_zero.mp e1 with z | z
    · exact absurd z (Int.mul_ne_zero (by decide) (Int.mul_ne_zero hw hw))
    · exact z
  subst ea
  have e2 : w * b = 0 := by grind
  have eb : b = 0 := by
    rcases Int.mul_eq_zero.mp e2 with z | z
    · exact absurd z hw
    · exact z
  subst eb
  exact ⟨rfl, rfl, by omega⟩
/-- along each class of step d the values are a quadratic row -/
def QP (f : Nat → Int) (d : Nat) : Prop := ∀ x : Nat, ∃ r : Row, ∀ t : Nat, f (x + d * t) = rv r (t : Int)
theorem pol_of {h : Nat → Int} {e u : Nat} {r : Row} (hr : ∀ s : Nat, h (u + e * s) = rv r (s : Int)) (s : Nat) :
    (e : Int) * e * h (u + e * s) = r.1 * (((u + e * s : Nat) : Int) * ((u + e * s : Nat) : Int)) + (r.2.1 * e - 2 * r.1 * u) * ((u + e * s : Nat) : Int) + (r.1 * (u : Int) * u - r.2.1 * e * u + r.2.2 * e * e) := by
  rw [hr s]
  obtain ⟨a, b, c⟩ := r
  have q : ((u + e * s : Nat) : Int) = (u : Int) + (e : Int) * (s : Int) := by
    rw [Int.natCast_add, Int.natCast_mul]
  rw [q]
  simp only [rv]
  grind
theorem sq_dvd {e k : Nat} (hc : Nat.gcd k e = 1) {A B : Int} (h : (k : Int) * k * A = (e : Int) * e * B) : ∃ α : Int, A = (e : Int) * e * α := by
  have c : Nat.Coprime (e * e) (k * k) := by
    have h1 : Nat.Coprime e k := by rw [Nat.coprime_iff_gcd_eq_one, Nat.gcd_comm]; exact hc
    exact Nat.Coprime.mul_left (Nat.Coprime.mul_right h1 h1) (Nat.Coprime.mul_right h1 h1)
  have d : e * e ∣ (k * k) * A.natAbs := by
    refine ⟨B.natAbs, ?_⟩
    have := congrArg Int.natAbs h
    simpa [Int.natAbs_mul] using this
  obtain ⟨z, hz⟩ := Nat.Coprime.dvd_of_dvd_mul_left c d
  have : ((e : Int) * e) ∣ A := by
    refine Int.dvd_natAbs.mp ?_
    exact ⟨(z : Int), by rw [hz, Int.natCast_mul, Int.natCast_mul]⟩
  exact this
theorem qp_vn {R : List Row} (hR : 0 < R.length) : QP (vn R) R.length := fun x => ⟨srow (rg R (x % R.length)) 1 ((x / R.length : Nat) : Int), fun t => by
  unfold vn
  rw [rv_srow, Nat.add_mul_mod_self_left, Nat.add_mul_div_left _ _ hR]
  congr 1
  omega⟩
theorem qp_gcd {f : Nat → Int} {d n : Nat} (hd : 0 < d) (hn : 0 < n) (a : QP f d) (b : QP f n) : QP f (Nat.gcd d n) := by
  intro x
  have hg : 0 < Nat.gcd d n := Nat.gcd_pos_of_pos_left _ hd
  obtain ⟨e, he⟩ := Nat.gcd_dvd_left d n
  obtain ⟨k, hk⟩ := Nat.gcd_dvd_right d n
  generalize hG : Nat.gcd d n = g at *
  have he0 : 0 < e := by
    rcases Nat.eq_zero_or_pos e with z | z
    · rw [z, Nat.mul_zero] at he; omega
    · exact z
  have hk0 : 0 < k := by
    rcases Nat.eq_zero_or_pos k with z | z
    · rw [z, Nat.mul_zero] at hk; omega
    · exact z
  have hc : Nat.gcd k e = 1 := by
    have h1 : g * Nat.gcd e k = g := by
      rw [← Nat.gcd_mul_left, ← he, ← hk]
      exact hG
    rw [Nat.gcd_comm]
    exact Nat.eq_of_mul_eq_mul_left hg (by rw [h1, Nat.mul_one])
  obtain ⟨i, j, hij⟩ := inv_ex hk0 he0 hc
  let h : Nat → Int := fun t => f (x + g * t)
  have hr : ∀ u : Nat, ∃ r : Row, ∀ s : Nat, h (u + e * s) = rv r (s : Int) := fun u => by
    obtain ⟨r, q⟩ := a (x + g * u)
    refine ⟨r, fun s => ?_⟩
    rw [← q s, he]
    show f (x + g * (u + e * s)) = f (x + g * u + g * e * s)
    congr 1
    rw [Nat.mul_add, Nat.mul_assoc, Nat.add_assoc]
  obtain ⟨r', hr'⟩ : ∃ r : Row, ∀ s : Nat, h (0 + k * s) = rv r (s : Int) := by
    obtain ⟨r, q⟩ := b x
    refine ⟨r, fun s => ?_⟩
    rw [← q s, hk]
    show f (x + g * (0 + k * s)) = f (x + g * k * s)
    congr 1
    rw [Nat.zero_add, Nat.mul_assoc]
  have hw : ((e : Int) * (k : Int)) ≠ 0 := Int.mul_ne_zero (by omega) (by omega)
  have key : ∀ u : Nat, ∃ α β γ : Int, (∀ s : Nat, h (u + e * s) = α * (((u + e * s : Nat) : Int) * ((u + e * s : Nat) : Int)) + β * ((u + e * s : Nat) : Int) + γ) ∧
      (k : Int) * k * α = r'.1 ∧ (k : Int) * k * β = r'.2.1 * k ∧ (k : Int) * k * γ = r'.2.2 * k * k := by
    intro u
    obtain ⟨r, q⟩ := hr u
    have P := fun s => pol_of q s
    have Q := fun s => pol_of hr' s
    have at_ : ∀ s : Nat, u + e * (j * u + k * s) = 0 + k * (i * u + e * s) := fun s => by
      have h1 : k * (i * u + e * s) = (k * i) * u + k * e * s := by rw [Nat.mul_add, Nat.mul_assoc, Nat.mul_assoc]
      have h2 : e * (j * u + k * s) = e * j * u + e * k * s := by rw [Nat.mul_add, Nat.mul_assoc, Nat.mul_assoc]
      rw [Nat.zero_add, h1, h2, hij, Nat.mul_comm k e, Nat.add_mul, Nat.one_mul, Nat.add_assoc]
    have eqs : ∀ s : Nat, ((k : Int) * k * r.1 - (e : Int) * e * r'.1) * ((((u + e * (j * u) : Nat) : Int) + (s : Int) * ((e : Int) * k)) * (((u + e * (j * u) : Nat) : Int) + (s : Int) * ((e : Int) * k))) +
        ((k : Int) * k * (r.2.1 * e - 2 * r.1 * u) - (e : Int) * e * (r'.2.1 * k)) * (((u + e * (j * u) : Nat) : Int) + (s : Int) * ((e : Int) * k)) +
        ((k : Int) * k * (r.1 * (u : Int) * u - r.2.1 * e * u + r.2.2 * e * e) - (e : Int) * e * (r'.2.2 * k * k)) = 0 := fun s => by
      have p := P (j * u + k * s)
      have q2 := Q (i * u + e * s)
      rw [← at_ s] at q2
      have c : ((u + e * (j * u + k * s) : Nat) : Int) = ((u + e * (j * u) : Nat) : Int) + (s : Int) * ((e : Int) * k) := by
        have : u + e * (j * u + k * s) = u + e * (j * u) + s * (e * k) := by
          rw [Nat.mul_add, ← Nat.add_assoc, Nat.mul_comm s, Nat.mul_assoc]
        rw [this, Int.natCast_add, Int.natCast_mul, Int.natCast_mul]
      rw [c] at p q2
      generalize h (u + e * (j * u + k * s)) = hv at *
      generalize ((u + e * (j * u) : Nat) : Int) + (s : Int) * ((e : Int) * k) = T at *
      have z : ((0 : Nat) : Int) = 0 := rfl
      rw [z] at q2
      have p2 : (k : Int) * k * ((e : Int) * e * hv) = (e : Int) * e * ((k : Int) * k * hv) := by grind
      rw [p, q2] at p2
      grind
    obtain ⟨z1, z2, z3⟩ := quad3 hw (t := ((u + e * (j * u) : Nat) : Int)) (by have := eqs 0; simpa using this) (by have := eqs 1; simpa using this) (by have := eqs 2; simpa using this)
    obtain ⟨α, hα⟩ := sq_dvd hc (A := r.1) (B := r'.1) (by omega)
    obtain ⟨β, hβ⟩ := sq_dvd hc (A := r.2.1 * e - 2 * r.1 * u) (B := r'.2.1 * k) (by omega)
    obtain ⟨γ, hγ⟩ := sq_dvd hc (A := r.1 * (u : Int) * u - r.2.1 * e * u + r.2.2 * e * e) (B := r'.2.2 * k * k) (by omega)
    have ee0 : ((e : Int) * e) ≠ 0 := Int.mul_ne_zero (by omega) (by omega)
    refine ⟨α, β, γ, fun s => ?_, ?_, ?_, ?_⟩
    · have p := P s
      rw [hγ, hβ, hα] at p
      refine Int.eq_of_mul_eq_mul_left ee0 ?_
      rw [p]
      grind
    · refine Int.eq_of_mul_eq_mul_left ee0 ?_
      rw [hα] at z1
      grind
    · refine Int.eq_of_mul_eq_mul_left ee0 ?_
      rw [hβ] at z2
      grind
    · refine Int.eq_of_mul_eq_mul_left ee0 ?_
      rw [hγ] at z3
      grind
  obtain ⟨α, β, γ, _, k1, k2, k3⟩ := key 0
  have kk0 : ((k : Int) * k) ≠ 0 := Int.mul_ne_zero (by omega) (by omega)
  refine ⟨(α, β, γ), fun t => ?_⟩
  obtain ⟨α', β', γ', q, l1, l2, l3⟩ := key t
  have e1 : α' = α := Int.eq_of_mul_eq_mul_left kk0 (by rw [l1, k1])
  have e2 : β' = β := Int.eq_of_mul_eq_mul_left kk0 (by rw [l2, k2])
  have e3 : γ' = γ := Int.eq_of_mul_eq_mul_left kk0 (by rw [l3, k3])
  have q0 := q 0
  rw [Nat.mul_zero, Nat.add_zero, e1, e2, e3] at q0
  show h t = _
  rw [q0]
  simp only [rv]
  grind
theorem rows_of_qp {f : Nat → Int} {g : Nat} (hg : 0 < g) (q : QP f g) : ∃ G : List Row, G.length = g ∧ ∀ p, vn G p = f p := by
  refine ⟨(List.range g).map fun x => Classical.choose (q x), by simp, fun p => ?_⟩
  have hl : ((List.range g).map fun x => Classical.choose (q x)).length = g := by simp
  unfold vn
  rw [hl]
  have e : rg ((List.range g).map fun x => Classical.choose (q x)) (p % g) = Classical.choose (q (p % g)) := by
    unfold rg
    rw [List.getD_eq_getElem?_getD, List.getElem?_map, List.getElem?_range (Nat.mod_lt _ hg)]
    rfl
  rw [e, ← Classical.choose_spec (q (p % g)) (p / g), Nat.mod_add_div]
/-- rows told at greater length have the same least rows -/
theorem lean_wide {R F W : List Row} (hR : 0 < R.length) (h : IsLean R F) (hd : R.length ∣ W.length) (hv : ∀ p, vn W p = vn R p) : IsLean W F := by
  refine ⟨⟨h.sp.pos, Nat.dvd_trans h.sp.dvd hd, fun p => by rw [h.sp.val, hv]⟩, fun d hdF ⟨F', e, s⟩ => ?_⟩
  have hd0 : 0 < d := e ▸ s.pos
  have q1 : QP (vn R) d := by
    have := qp_vn s.pos
    rw [e] at this
    have ef : vn F' = vn R := funext fun p => by rw [s.val, hv]
    rw [ef] at this
    exact this
  obtain ⟨G, hGl, hGv⟩ := rows_of_qp (Nat.gcd_pos_of_pos_left _ hd0) (qp_gcd hd0 hR q1 (qp_vn hR))
  refine h.least (Nat.gcd d R.length) (Nat.lt_of_le_of_lt (Nat.gcd_le_left _ hd0) hdF) ⟨G, hGl, ?_⟩
  exact ⟨by rw [hGl]; exact Nat.gcd_pos_of_pos_left _ hd0, by rw [hGl]; exact Nat.gcd_dvd_right _ _, hGv⟩
/-! ### early values -/
def trim (E : List Int) (v : Nat → Int) : Nat → Nat
  | 0 => 0
  | k + 1 => if E.getD k 0 = v k then trim E v k else k + 1
theorem trim_le (E : List Int) (v : Nat → Int) : ∀ k, trim E v k ≤ k
  | 0 => Nat.le_refl _
  | k + 1 => by
    unfold trim
    split
    · exact Nat.le_trans (trim_le E v k) (Nat.le_succ _)
    · exact Nat.le_refl _
theorem trim_val (E : List Int) (v : Nat → Int) : ∀ {k i}, trim E v k ≤ i → i < k → E.getD i 0 = v i
  | 0, _, _, h => absurd h (Nat.not_lt_zero _)
  | k + 1, i, h1, h2 => by
    unfold trim at h1
    split at h1
    · rename_i c
      by_cases e : i = k
      · rw [e]; exact c
      · exact trim_val E v h1 (by omega)
    · omega
theorem trim_idem (E : List Int) (v : Nat → Int) : ∀ {k}, trim E v (trim E v k) = trim E v k
  | 0 => rfl
  | k + 1 => by
    show trim E v (if E.getD k 0 = v k then trim E v k else k + 1) = if E.getD k 0 = v k then trim E v k else k + 1
    split
    · exact trim_idem E v
    · rename_i c
      show (if E.getD k 0 = v k then trim E v k else k + 1) = k + 1
      rw [if_neg c]
theorem trim_ext {E E' : List Int} {v : Nat → Int} : ∀ {k}, (∀ i < k, E.getD i 0 = E'.getD i 0) → trim E v k = trim E' v k
  | 0, _ => rfl
  | k + 1, h => by
    unfold trim
    rw [h k (Nat.lt_succ_self _), trim_ext (E := E) (E' := E') (v := v) fun i hi => h i (by omega)]
/-- values put behind that are due are cut off again -/
theorem trim_more {E : List Int} {v : Nat → Int} : ∀ {m k : Nat}, (∀ i, k ≤ i → i < k + m → E.getD i 0 = v i) → trim E v (k + m) = trim E v k
  | 0, k, _ => rfl
  | m + 1, k, h => by
    show (if E.getD (k + m) 0 = v (k + m) then trim E v (k + m) else k + m + 1) = _
    rw [if_pos (h (k + m) (by omega) (by omega))]
    exact trim_more fun i h1 h2 => h i h1 (by omega)
theorem ints_py (ns : List Int) : pyOf (D.lst (ns.map fun y => D.v (V.int y))) = .list (ns.map PyData.int) := by
  simp only [pyOf]
  congr 1
  induction ns with
  | nil => rfl
  | cons n ns ih =>
    rw [List.map_cons, List.map_cons]
    simp only [pyL, pyOf]
    rw [ih]
theorem ints_plain (ns : List Int) : plainD (D.lst (ns.map fun y => D.v (V.int y))) = true := by
  simp only [plainD]
  induction ns with
  | nil => rfl
  | cons n ns ih =>
    rw [List.map_cons]
    simp only [plainL, plainD, Bool.true_and]
    exact ih
theorem ints_shaped (ns : List Int) : SeqAt.shaped (pyOf (D.lst (ns.map fun y => D.v (V.int y)))) = true := by
  rw [ints_py]
  unfold SeqAt.shaped
  rw [Bool.and_eq_true]
  have h : ∀ ns : List Int, PyData.canLayAll0 (ns.map PyData.int) = true ∧ PyData.depthAll (ns.map PyData.int) ≤ 1 := by
    intro ns
    induction ns with
    | nil => exact ⟨rfl, by simp [PyData.depthAll]⟩
    | cons n ns ih =>
      refine ⟨?_, ?_⟩
      · rw [List.map_cons]
        simp only [PyData.canLayAll0, PyData.canLay0, Bool.true_and]
        exact ih.1
      · rw [List.map_cons]
        simp only [PyData.depthAll, PyData.depth]
        have := ih.2
        omega
  refine ⟨?_, ?_⟩
  · simp only [PyData.canLay0]
    exact (h ns).1
  · refine decide_eq_true ?_
    simp only [PyData.depth]
    have := (h ns).2
    omega
theorem eqv_nil (ns : List Int) : PyData.eqv (pyOf (D.lst (ns.map fun y => D.v (V.int y)))) (pyOf (D.lst (([] : List Int).map fun y => D.v (V.int y)))) = ns.isEmpty := by
  rw [ints_py, ints_py]
  cases ns <;> rfl
/-! ### data whose text is told -/
structure OkS (d : D) (k n : Nat) : Prop where
  pl : plainD d = true
  sw : (pyOf d).showable = true
  nd : (pyOf d).hasDict = false
  dp : (pyOf d).depth ≤ k
  ln : (pyOf d).shown.length ≤ n
  cl : (pyOf d).canLay0 = true
theorem OkS.rp {d : D} {k n : Nat} (h : OkS d k n) (hk : k ≤ 60) (hn : n ≤ 16777216) : plainD d = true ∧ (pyOf d).showable = true ∧ (pyOf d).hasDict = false ∧ (pyOf d).depth ≤ 60 ∧ (pyOf d).shown.length ≤ sizeLine :=
  ⟨h.pl, h.sw, h.nd, Nat.le_trans h.dp hk, by rw [sizeLine_eq]; exact Nat.le_trans h.ln hn⟩
theorem OkS.sh {d : D} {k n : Nat} (h : OkS d k n) (hk : k ≤ 60) : SeqAt.shaped (pyOf d) = true := by
  unfold SeqAt.shaped
  rw [h.cl, Bool.true_and]
  exact decide_eq_true (by have := h.dp; omega)
theorem OkS.rf {d : D} {k n : Nat} (h : OkS d k n) (hk : k ≤ 60) : PyData.eqv (pyOf d) (pyOf d) = true := SeqAt.eqv_refl _ (SeqAt.canLay_of_shaped (h.sh hk))
theorem OkS.mono {d : D} {k n k' n' : Nat} (h : OkS d k n) (hk : k ≤ k') (hn : n ≤ n') : OkS d k' n' := ⟨h.pl, h.sw, h.nd, Nat.le_trans h.dp hk, Nat.le_trans h.ln hn, h.cl⟩
theorem oks_int {i : Int} (h : i.natAbs < 2 ^ 1920) : OkS (D.v (V.int i)) 1 1921 := by
  have l : i.natAbs.log2 < 1920 := PySem.Flt.log2_lt_of (by decide) h
  refine ⟨rfl, decide_eq_true l, rfl, ?_, int_text_len_1921 l, rfl⟩
  simp [pyOf, PyData.depth]
theorem oks_bl (b : Bool) : OkS (D.v (V.bl b)) 1 5 := by
  cases b <;> exact ⟨rfl, rfl, rfl, by decide, by decide +kernel, rfl⟩
theorem len_app (a b : Str) : (a ++ b).length = a.length + b.length := by
  rw [len_L, len_L, len_L, L_app, List.length_append]
theorem textFrom_le : ∀ {ts : List Str} {i : Nat} {acc : Str} {n : Nat}, (∀ t ∈ ts, t.length ≤ n) → (textFrom i acc ts).length ≤ acc.length + ts.length * (n + 2)
  | [], i, acc, n, _ => by
    show acc.length ≤ acc.length + 0 * (n + 2)
    omega
  | t :: ts, i, acc, n, h => by
    have h1 := h t List.mem_cons_self
    have ih := textFrom_le (ts := ts) (i := i + 1) (acc := acc ++ (if i > 0 then ", " else "" : String) ++ t) (n := n) fun t ht => h t (List.mem_cons_of_mem _ ht)
    show (textFrom (i + 1) (acc ++ (if i > 0 then ", " else "" : String) ++ t) ts).length ≤ _
    refine Nat.le_trans ih ?_
    have e : ((if i > 0 then ", " else "" : String) : Str).length ≤ 2 := by
      split <;> decide +kernel
    rw [len_app, len_app, List.length_cons, Nat.succ_mul]
    omega
theorem shownAll_len : ∀ ds : List D, (PyData.shownAll (pyL ds)).length = ds.length
  | [] => rfl
  | d :: ds => by
    simp only [pyL, PyData.shownAll, List.length_cons, shownAll_len ds]
theorem oks_all {k n : Nat} : ∀ {ds : List D}, (∀ d ∈ ds, OkS d k n) → plainL ds = true ∧ PyData.showableAll (pyL ds) = true ∧ PyData.hasDictAll (pyL ds) = false ∧ PyData.depthAll (pyL ds) ≤ k ∧ (∀ t ∈ PyData.shownAll (pyL ds), t.length ≤ n) ∧ PyData.canLayAll0 (pyL ds) = true
  | [], _ => ⟨rfl, rfl, rfl, by simp [pyL, PyData.depthAll], fun t ht => by simp [pyL, PyData.shownAll] at ht, rfl⟩
  | d :: ds, h => by
    obtain ⟨a1, a2, a3, a4, a5, a6⟩ := oks_all (ds := ds) fun e he => h e (List.mem_cons_of_mem _ he)
    have hd := h d List.mem_cons_self
    refine ⟨?_, ?_, ?_, ?_, ?_, ?_⟩
    · simp only [plainL, hd.pl, a1, Bool.and_self]
    · simp only [pyL, PyData.showableAll, hd.sw, a2, Bool.and_self]
    · simp only [pyL, PyData.hasDictAll, hd.nd, a3, Bool.or_self]
    · simp only [pyL, PyData.depthAll]
      have := hd.dp
      omega
    · intro t ht
      simp only [pyL, PyData.shownAll, List.mem_cons] at ht
      rcases ht with rfl | ht
      · exact hd.ln
      · exact a5 t ht
    · simp only [pyL, PyData.canLayAll0, hd.cl, a6, Bool.and_self]
theorem oks_lst {ds : List D} {k n m : Nat} (h : ∀ d ∈ ds, OkS d k n) (hm : ds.length ≤ m) : OkS (D.lst ds) (k + 1) (m * (n + 2) + 2) := by
  obtain ⟨a1, a2, a3, a4, a5, a6⟩ := oks_all h
  refine ⟨?_, ?_, ?_, ?_, ?_, ?_⟩
  · simp only [plainD]; exact a1
  · simp only [pyOf, PyData.showable]; exact a2
  · simp only [pyOf, PyData.hasDict]; exact a3
  · simp only [pyOf, PyData.depth]; omega
  · simp only [pyOf, PyData.shown]
    unfold listText
    rw [len_app]
    have t := textFrom_le (i := 0) (acc := "[") a5
    rw [shownAll_len] at t
    have l1 : (("[" : String) : Str).length = 1 := by decide +kernel
    have l2 : (("]" : String) : Str).length = 1 := by decide +kernel
    have : ds.length * (n + 2) ≤ m * (n + 2) := Nat.mul_le_mul_right _ hm
    first
      | omega
      | (show (textFrom 0 ("[" : Str) _).length + ("]" : Str).length ≤ _; have l3 : ("[" : Str).length = 1 := by decide +kernel; have l4 : ("]" : Str).length = 1 := by decide +kernel; omega)
  · simp only [pyOf, PyData.canLay0]; exact a6
theorem oks_map {α : Type} {e : α → D} {xs : List α} {k n m : Nat} (h : ∀ x ∈ xs, OkS (e x) k n) (hm : xs.length ≤ m) : OkS (D.lst (xs.map e)) (k + 1) (m * (n + 2) + 2) :=
  oks_lst (fun d hd => by
    obtain ⟨x, hx, rfl⟩ := List.mem_map.mp hd
    exact h x hx) (by rw [List.length_map]; exact hm)
theorem piled_le : ∀ {ts : List Str} {n : Nat}, (∀ t ∈ ts, t.length ≤ n) → piled ts ≤ ts.length * (n + 2)
  | [], n, _ => by
    rw [piled_nil]
    exact Nat.zero_le _
  | t :: ts, n, h => by
    have := piled_le (ts := ts) (n := n) fun x hx => h x (List.mem_cons_of_mem _ hx)
    have := h t List.mem_cons_self
    rw [piled_cons, List.length_cons, Nat.succ_mul]
    omega
theorem tup_text (ts : List Str) : (tupleText ts).length ≤ piled ts + 2 := by
  have e3 : (((if ts.length == 1 then ",)" else ")" : String) : Str)).length ≤ 2 := by split <;> decide +kernel
  have e1 : ((("(" : String) : Str)).length = 1 := rfl
  unfold tupleText
  rw [strLen_append, strLen_append, e1]
  by_cases h : ts = []
  · subst h
    decide +kernel
  · have := join_length_add ts h
    omega
theorem oks_tup {ds : List D} {k n m : Nat} (h : ∀ d ∈ ds, OkS d k n) (hm : ds.length ≤ m) : OkS (D.tup ds) (k + 1) (m * (n + 2) + 2) := by
  obtain ⟨a1, a2, a3, a4, a5, a6⟩ := oks_all h
  refine ⟨?_, ?_, ?_, ?_, ?_, ?_⟩
  · simp only [plainD]; exact a1
  · simp only [pyOf, PyData.showable]; exact a2
  · simp only [pyOf, PyData.hasDict]; exact a3
  · simp only [pyOf, PyData.depth]; omega
  · simp only [pyOf, PyData.shown]
    have t := tup_text (PyData.shownAll (pyL ds))
    have p := piled_le a5
    rw [shownAll_len] at p
    have : ds.length * (n + 2) ≤ m * (n + 2) := Nat.mul_le_mul_right _ hm
    omega
  · simp only [pyOf, PyData.canLay0]; exact a6
/-! ### sizes of numbers -/
theorem bd_add {x y : Int} {a : Nat} (hx : x.natAbs < 2 ^ a) (hy : y.natAbs < 2 ^ a) : (x + y).natAbs < 2 ^ (a + 1) := by
  have := Int.natAbs_add_le x y
  rw [Nat.pow_succ]
  omega
theorem bd_mul {x y : Int} {a b : Nat} (hx : x.natAbs < 2 ^ a) (hy : y.natAbs < 2 ^ b) : (x * y).natAbs < 2 ^ (a + b) := by
  rw [Int.natAbs_mul, Nat.pow_add]
  exact Nat.mul_lt_mul'' hx hy
theorem bd_mono {x : Int} {a b : Nat} (hx : x.natAbs < 2 ^ a) (h : a ≤ b) : x.natAbs < 2 ^ b := Nat.lt_of_lt_of_le hx (Nat.pow_le_pow_right (by decide) h)
theorem bd_div {x k : Int} {a : Nat} (hx : x.natAbs < 2 ^ a) : (x / k).natAbs < 2 ^ a := Nat.lt_of_le_of_lt (Int.natAbs_ediv_le_natAbs x k) hx
def RBr (r : Row) (k : Nat) : Prop := r.1.natAbs < 2 ^ k ∧ r.2.1.natAbs < 2 ^ k ∧ r.2.2.natAbs < 2 ^ k
def RB (R : List Row) (k : Nat) : Prop := ∀ r ∈ R, RBr r k
theorem rb_rg {R : List Row} {k : Nat} (h : RB R k) (j : Nat) : RBr (rg R j) k := by
  unfold rg
  rw [List.getD_eq_getElem?_getD]
  cases e : R[j]? with
  | none => exact ⟨Nat.two_pow_pos k, Nat.two_pow_pos k, Nat.two_pow_pos k⟩
  | some r => exact h r (List.mem_of_getElem? e)
theorem rv_bd {r : Row} {t : Int} {k : Nat} (h : RBr r k) (ht : t.natAbs < 2 ^ 90) (hk : k ≤ 1000) : CMulW r.1 t ∧ CMulW (r.1 * t + r.2.1) t ∧ (rv r t).natAbs < 2 ^ (k + 182) := by
  have a1 : (r.1 * t).natAbs < 2 ^ (k + 90) := bd_mul h.1 ht
  have a2 : (r.1 * t + r.2.1).natAbs < 2 ^ (k + 91) := bd_add a1 (bd_mono h.2.1 (by omega))
  have a3 : ((r.1 * t + r.2.1) * t).natAbs < 2 ^ (k + 181) := bd_mono (bd_mul a2 ht) (by omega)
  have a4 : (rv r t).natAbs < 2 ^ (k + 182) := bd_add a3 (bd_mono h.2.2 (by omega))
  refine ⟨wide_mul (bd_mono h.1 (by omega : k ≤ k + 1)) ht (by omega) (by omega) (by omega), wide_mul a2 ht (by omega) (by omega) (by omega), a4⟩
theorem nat90 {p : Int} (h0 : 0 ≤ p) (h1 : p < 2 ^ 90) : p.natAbs < 2 ^ 90 := by omega
theorem div90 {p : Nat} {n : Nat} (h : p < 2 ^ 90) : (((p / n : Nat) : Int)).natAbs < 2 ^ 90 := by
  rw [Int.natAbs_natCast]
  exact Nat.lt_of_le_of_lt (Nat.div_le_self _ _) h
theorem vn_bd {R : List Row} {p : Nat} {k : Nat} (h : RB R k) (hp : p < 2 ^ 90) (hk : k ≤ 1000) : (vn R p).natAbs < 2 ^ (k + 182) := (rv_bd (rb_rg h _) (div90 hp) hk).2.2
/-! ### values -/
theorem getE {α : Type} {xs : List α} {j : Nat} {d : α} (h : j < xs.length) : xs[j]'h = xs.getD j d := by
  rw [List.getD_eq_getElem?_getD, List.getElem?_eq_getElem h]
  rfl
theorem emodN {p : Int} {n : Nat} (h : 0 ≤ p) : (p % (n : Int)).toNat = p.toNat % n := by
  obtain ⟨q, rfl⟩ := Int.eq_ofNat_of_zero_le h
  rw [← Int.natCast_emod]
  rfl
theorem edivN {p : Int} {n : Nat} (h : 0 ≤ p) : p / (n : Int) = ((p.toNat / n : Nat) : Int) := by
  obtain ⟨q, rfl⟩ := Int.eq_ofNat_of_zero_le h
  rw [← Int.natCast_ediv]
  rfl
theorem pv_ok {R : List Row} {p : Int} {K : Int → Prop} {k : Nat} (h0 : 0 < R.length) (h1 : R.length ≤ 1000) (hb : RB R k) (hk : k ≤ 1000) (p0 : 0 ≤ p) (p1 : p < 2 ^ 90) (q : K (vn R p.toNat)) : M_place_value R p K := by
  have hn : (R.length : Int) ≠ 0 := by omega
  refine ⟨⟨by omega, by omega⟩, Int.emod_nonneg _ hn, ?_, ?_⟩
  · rw [emodN p0]
    exact Nat.mod_lt _ h0
  · rintro x rfl
    have e : ∀ hh, R[(p % (R.length : Int)).toNat]'hh = rg R (p.toNat % R.length) := fun hh => by
      rw [getE (d := ((0, 0, 0) : Row)) hh, emodN p0]
      rfl
    rw [e]
    have ht : ((p.toNat / R.length : Nat) : Int).natAbs < 2 ^ 90 := div90 (by omega)
    have b := rv_bd (rb_rg hb (p.toNat % R.length)) ht hk
    rw [edivN p0]
    exact ⟨b.1, b.2.1, q⟩
abbrev PT := Int × List Int × List Row
def vp (P : PT) (p : Int) : Int := if p < P.1 + (P.2.1.length : Int) then P.2.1.getD (p - P.1).toNat 0 else vn P.2.2 p.toNat
structure WF (P : PT) : Prop where
  f0 : 0 ≤ P.1
  f1 : P.1 < 2 ^ 60
  e1 : P.2.1.length ≤ 200
  eb : ∀ v ∈ P.2.1, v.natAbs < 2 ^ 400
  r0 : 0 < P.2.2.length
  r1 : P.2.2.length ≤ 24
  rb : RB P.2.2 200
theorem dec_p {c : Prop} [Decidable c] (h : c) : (decide c = true) = True := by simp [h]
theorem vl_ok {P : PT} {p : Int} {K : Int → Prop} {k : Nat} (h0 : 0 < P.2.2.length) (h1 : P.2.2.length ≤ 1000) (hb : RB P.2.2 k) (hk : k ≤ 1000) (f0 : 0 ≤ P.1) (p0 : P.1 ≤ p) (p1 : p < 2 ^ 90) (q : K (vp P p)) : M_valueL P p K := by
  unfold M_valueL
  by_cases c : p < P.1 + (P.2.1.length : Int)
  · rw [if_pos (decide_eq_true c)]
    unfold vp at q
    rw [if_pos c] at q
    refine ⟨by omega, by omega, ?_⟩
    rintro x rfl
    rw [getE (d := (0 : Int))]
    exact q
  · rw [if_neg (by simpa using c)]
    unfold vp at q
    rw [if_neg c] at q
    have hn : (P.2.2.length : Int) ≠ 0 := by omega
    have pp : 0 ≤ p := by omega
    refine ⟨⟨by omega, by omega⟩, Int.emod_nonneg _ hn, ?_, ?_⟩
    · rw [emodN pp]
      exact Nat.mod_lt _ h0
    · rintro x rfl
      have e : ∀ hh, P.2.2[(p % (P.2.2.length : Int)).toNat]'hh = rg P.2.2 (p.toNat % P.2.2.length) := fun hh => by
        rw [getE (d := ((0, 0, 0) : Row)) hh, emodN pp]
        rfl
      rw [e]
      have b := rv_bd (rb_rg hb (p.toNat % P.2.2.length)) (div90 (n := P.2.2.length) (p := p.toNat) (by omega)) hk
      rw [edivN pp]
      exact ⟨b.1, b.2.1, q⟩
/-- the rows alone -/
theorem vr_ok {R : List Row} {p : Int} {K : Int → Prop} {k : Nat} (h0 : 0 < R.length) (h1 : R.length ≤ 1000) (hb : RB R k) (hk : k ≤ 1000) (p0 : 0 ≤ p) (p1 : p < 2 ^ 90) (q : K (vn R p.toNat)) : M_valueL ((0 : Int), ([] : List Int), R) p K := by
  refine vl_ok (P := ((0 : Int), ([] : List Int), R)) h0 h1 hb hk (Int.le_refl 0) p0 p1 ?_
  have : vp ((0 : Int), ([] : List Int), R) p = vn R p.toNat := by
    unfold vp
    exact if_neg (by simp; omega)
  rw [this]
  exact q
theorem val_ok {P : PT} {p : Int} {K : Int → Prop} {k : Nat} (h0 : 0 < P.2.2.length) (h1 : P.2.2.length ≤ 1000) (hb : RB P.2.2 k) (hk : k ≤ 1000) (f0 : 0 ≤ P.1) (p0 : P.1 ≤ p) (p1 : p < 2 ^ 90) (q : K (vp P p)) : M_value P p K := by
  show if decide (p < P.1 + (P.2.1.length : Int)) = true then _ else _
  by_cases c : p < P.1 + (P.2.1.length : Int)
  · rw [if_pos (decide_eq_true c)]
    unfold vp at q
    rw [if_pos c] at q
    refine ⟨by omega, by omega, ?_⟩
    rintro x rfl
    rw [getE (d := (0 : Int))]
    exact q
  · rw [if_neg (by simpa using c)]
    unfold vp at q
    rw [if_neg c] at q
    exact pv_ok h0 h1 hb hk (by omega) p1 q
/-! ### what is checked -/
theorem zip_snd {α : Type} {xs : List Int} {ys : List α} {q : Int × α} (h : q ∈ xs.zip ys) : q.2 ∈ ys := (List.of_mem_zip (a := q.1) (b := q.2) h).2
theorem ckv_ok {E : List Int} {K : Unit → Prop} (q : K ()) : M_check_values E K := by
  show if (!true) = true then False else forC _ _ () _
  rw [if_neg (by decide)]
  refine forC_ok (fun _ => True) (fun x hx s k' _ hk => ?_) trivial (fun s _ => q)
  show if (!(!false)) = true then False else k' ()
  rw [if_neg (by decide)]
  exact hk () trivial
theorem isrow_ok {r : Row} {K : Bool → Prop} (q : K true) : M_is_row r K := by
  unfold M_is_row
  rw [if_pos (by decide)]
  exact ⟨by simp, q⟩
theorem ckr_ok {R : List Row} {K : Unit → Prop} (h : 0 < R.length) (q : K ()) : M_check_rows R K := by
  show if (!true) = true then False else if decide (V.int (R.length : Int) = V.int (0 : Int)) = true then False else forC _ _ () _
  rw [if_neg (by decide), if_neg (by rw [eqI]; simp; intro z; rw [z] at h; exact absurd h (by simp))]
  refine forC_ok (fun _ => True) (fun x hx s k' _ hk => ?_) trivial (fun s _ => q)
  refine isrow_ok ?_
  rw [if_neg (by decide)]
  exact hk () trivial
theorem ckf_ok {f : Int} {K : Unit → Prop} (h : 0 ≤ f) (q : K ()) : M_check_first f K := by
  show if (!false) = true then (if (!decide ((0 : Int) ≤ f)) = true then False else K ()) else (if (!false) = true then False else K ())
  rw [if_pos (by decide), if_neg (by simpa using h)]
  exact q
theorem ckparts_ok {P : PT} {K : Unit → Prop} (w : WF P) (q : K ()) : M_check_parts P.1 P.2.1 P.2.2 K := by
  refine ckf_ok w.f0 (ckv_ok (ckr_ok w.r0 ?_))
  have e1 := w.e1
  have r1 := w.r1
  rw [if_neg (by simp; omega), if_neg (by simp; omega)]
  exact q
theorem finit_ok {P : PT} {K : PT → Prop} (w : WF P) (q : K P) : M_Form_init P.1 P.2.1 P.2.2 K := by
  refine ckparts_ok w ⟨by have := w.r1; omega, ?_⟩
  refine mapC_ok (fun x => x) (fun x hx k' hk => hk) ?_
  rw [List.map_id']
  exact q
theorem form_ok {P : PT} {K : PT → Prop} (w : WF P) (q : K P) : M_form P K := finit_ok w q
/-! ### data that are equal -/
abbrev eI (y : Int) : D := D.v (V.int y)
abbrev eR (y : Row) : D := D.tup [D.v (V.int y.1), D.v (V.int y.2.1), D.v (V.int y.2.2)]
theorem eqv_iI : ∀ {xs ys : List Int}, PyData.eqvAll (pyL (xs.map eI)) (pyL (ys.map eI)) = decide (xs = ys)
  | [], [] => by simp [pyL, PyData.eqvAll]
  | [], y :: ys => by simp [pyL, PyData.eqvAll]
  | x :: xs, [] => by simp [pyL, PyData.eqvAll]
  | x :: xs, y :: ys => by
    simp only [List.map_cons, pyL, PyData.eqvAll, pyOf, PyData.eqv, eqv_iI]
    by_cases a : x = y <;> by_cases b : xs = ys <;> simp [a, b]
theorem eqv_int {xs ys : List Int} : PyData.eqv (pyOf (D.lst (xs.map eI))) (pyOf (D.lst (ys.map eI))) = decide (xs = ys) := by
  simp only [pyOf, PyData.eqv]
  exact eqv_iI
theorem eqv_rR : ∀ {xs ys : List Row}, PyData.eqvAll (pyL (xs.map eR)) (pyL (ys.map eR)) = decide (xs = ys)
  | [], [] => by simp [pyL, PyData.eqvAll]
  | [], y :: ys => by simp [pyL, PyData.eqvAll]
  | x :: xs, [] => by simp [pyL, PyData.eqvAll]
  | (a, b, c) :: xs, (a', b', c') :: ys => by
    simp only [List.map_cons, pyL, PyData.eqvAll, pyOf, PyData.eqv, eqv_rR, Bool.and_true]
    by_cases h1 : a = a' <;> by_cases h2 : b = b' <;> by_cases h3 : c = c' <;> by_cases h4 : xs = ys <;> simp [h1, h2, h3, h4]
theorem eqv_row {xs ys : List Row} : PyData.eqv (pyOf (D.lst (xs.map eR))) (pyOf (D.lst (ys.map eR))) = decide (xs = ys) := by
  simp only [pyOf, PyData.eqv]
  exact eqv_rR
theorem oks_ints {xs : List Int} {m : Nat} (h : ∀ x ∈ xs, x.natAbs < 2 ^ 1920) (hm : xs.length ≤ m) : OkS (D.lst (xs.map eI)) 2 (m * 1923 + 2) := oks_map (k := 1) (n := 1921) (fun x hx => oks_int (h x hx)) hm
theorem oks_row {r : Row} {k : Nat} (h : RBr r k) (hk : k ≤ 1920) : OkS (eR r) 2 5771 := oks_tup (k := 1) (n := 1921) (m := 3) (fun d hd => by
  simp only [List.mem_cons, List.not_mem_nil, or_false] at hd
  rcases hd with rfl | rfl | rfl
  · exact oks_int (bd_mono h.1 hk)
  · exact oks_int (bd_mono h.2.1 hk)
  · exact oks_int (bd_mono h.2.2 hk)) (by simp)
theorem oks_rows {R : List Row} {k m : Nat} (h : RB R k) (hk : k ≤ 1920) (hm : R.length ≤ m) : OkS (D.lst (R.map eR)) 3 (m * 5773 + 2) := oks_map (k := 2) (n := 5771) (fun r hr => oks_row (h r hr) hk) hm
theorem rows_plain {R : List Row} {k : Nat} (h : RB R k) (hk : k ≤ 1920) : plainD (D.lst (R.map eR)) = true ∧ SeqAt.shaped (pyOf (D.lst (R.map eR))) = true := by
  have o := oks_rows h hk (Nat.le_refl _)
  exact ⟨o.pl, o.sh (by decide)⟩
/-! ### what the law finds, by its mirror -/
theorem forC_try {α β : Type} {body : α → List β → (List β → Prop) → Prop} {k : List β → Prop} {Kn : Prop} (g : α → β) (ok : α → Prop) (N : Nat) : ∀ {xs : List α} {acc : List β}, acc.length + xs.length ≤ N →
    (∀ x ∈ xs, ∀ (s : List β) (k' : List β → Prop), s.length < N → (ok x → k' (s ++ [g x])) → (¬ ok x → Kn) → body x s k') → ((∀ x ∈ xs, ok x) → k (acc ++ xs.map g)) → ((∃ x ∈ xs, ¬ ok x) → Kn) → forC body xs acc k
  | [], acc, _, _, q, _ => by
    have := q (fun _ h => absurd h List.not_mem_nil)
    rw [List.map_nil, List.append_nil] at this
    exact this
  | x :: xs, acc, hN, h, q, z => by
    rw [List.length_cons] at hN
    refine h x List.mem_cons_self acc _ (by omega) (fun ox => ?_) (fun n => z ⟨x, List.mem_cons_self, n⟩)
    refine forC_try g ok N (by rw [List.length_append, List.length_cons, List.length_nil]; omega) (fun y hy => h y (List.mem_cons_of_mem _ hy)) (fun a => ?_) (fun ⟨y, hy, n⟩ => z ⟨y, List.mem_cons_of_mem _ hy, n⟩)
    rw [List.append_assoc]
    exact q fun y hy => by
      rcases List.mem_cons.mp hy with e | hy
      · rw [e]; exact ox
      · exact a y hy
theorem rng0 (n : Nat) : rangeI 0 (n : Int) = (List.range n).map fun i : Nat => (i : Int) := by
  unfold rangeI
  simp
theorem map_rng {β : Type} (n : Nat) (g : Int → β) : (rangeI 0 (n : Int)).map g = (List.range n).map fun i : Nat => g (i : Int) := by
  rw [rng0, List.map_map]
  rfl
theorem mapget {α : Type} {n j : Nat} {g : Nat → α} {x : α} (hj : j < n) (h : ∀ hh, x = ((List.range n).map g)[j]'hh) : x = g j := by
  rw [h (by simp; exact hj)]
  simp
theorem rangeI_cons {lo hi : Int} (h : lo < hi) : rangeI lo hi = lo :: rangeI (lo + 1) hi := by
  apply List.ext_getElem?
  intro i
  cases i with
  | zero => rw [rangeI_get (by omega)]; simp
  | succ i =>
    rw [List.getElem?_cons_succ]
    by_cases c : i < (hi - (lo + 1)).toNat
    · rw [rangeI_get (by omega), rangeI_get c]
      congr 1
      omega
    · rw [List.getElem?_eq_none (by rw [rangeI_len]; omega), List.getElem?_eq_none (by rw [rangeI_len]; omega)]
theorem forC_rng {S : Type} {body : Int → S → (S → Prop) → Prop} {k : S → Prop} (I : Int → S → Prop) {hi : Int} : ∀ (n : Nat) {lo : Int} {s0 : S}, n = (hi - lo).toNat → lo ≤ hi → (∀ (x : Int) (s : S) (k' : S → Prop), lo ≤ x → x < hi → I x s → (∀ s', I (x + 1) s' → k' s') → body x s k') → I lo s0 → (∀ s, I hi s → k s) → forC body (rangeI lo hi) s0 k
  | 0, lo, s0, hn, hl, _, h0, q => by
    have e : lo = hi := by omega
    subst e
    have : rangeI lo lo = [] := List.eq_nil_of_length_eq_zero (by rw [rangeI_len]; omega)
    rw [this]
    exact q s0 h0
  | n + 1, lo, s0, hn, hl, hb, h0, q => by
    rw [rangeI_cons (by omega)]
    exact hb lo s0 _ (by omega) (by omega) h0 fun s' h' => forC_rng I n (by omega) (by omega) (fun x s k' a b => hb x s k' (by omega) b) h' q
theorem rngN {n : Nat} : rangeI 0 (n : Int) = (List.range n).map fun i : Nat => (i : Int) := rng0 n
theorem lrow_bd {R : List Row} {d x k : Nat} (hb : RB R k) (hx : x + d * 2 < 2 ^ 90) (hk : k ≤ 700) : RBr (lrow R d x) (k + 186) := by
  have a2 := vn_bd hb (p := x + d * 2) hx (by omega)
  have a1 := vn_bd hb (p := x + d * 1) (by omega) (by omega)
  have a0 := vn_bd hb (p := x + d * 0) (by omega) (by omega)
  have h2 : (2 * vn R (x + d * 1)).natAbs < 2 ^ (k + 183) := by
    have := bd_add a1 a1
    rw [Int.two_mul]
    exact this
  have tw : (ltw R d x).natAbs < 2 ^ (k + 185) := by
    unfold ltw
    rw [Int.sub_eq_add_neg]
    refine bd_add (bd_add (bd_mono a2 (by omega)) (by rw [Int.natAbs_neg]; exact h2)) (bd_mono a0 (by omega))
  have th : (ltw R d x / 2).natAbs < 2 ^ (k + 185) := bd_div tw
  refine ⟨bd_mono th (by omega), ?_, bd_mono a0 (by omega)⟩
  show (vn R (x + d * 1) - vn R (x + d * 0) - ltw R d x / 2).natAbs < _
  rw [Int.sub_eq_add_neg, Int.sub_eq_add_neg]
  exact bd_add (bd_mono (bd_add a1 (by rw [Int.natAbs_neg]; exact a0)) (by omega)) (by rw [Int.natAbs_neg]; exact th)
theorem rb_fold {R : List Row} {d k : Nat} (h : RB R k) : RB (fold R d) k := fun r hr => by
  obtain ⟨r', h1, rfl⟩ := List.mem_map.mp hr
  have := h r' (List.mem_of_mem_take h1)
  exact ⟨bd_div this.1, bd_div this.2.1, this.2.2⟩
theorem rb_sp {F R : List Row} {k : Nat} (hR : 0 < R.length) (s : IsSp F R) (h : RB R k) : RB F k := by
  rw [← fold_of hR s]
  exact rb_fold h
abbrev cutE (P : PT) : List Int := P.2.1.take (trim P.2.1 (fun i => vn P.2.2 (P.1.toNat + i)) P.2.1.length)
theorem take_last {α : Type} {E : List α} {j : Nat} {d : α} (h : j < E.length) : (E.take (j + 1)).getLast? = some (E.getD j d) := by
  rw [List.getLast?_eq_getElem?, List.length_take, List.getElem?_take_of_lt (by omega), List.getD_eq_getElem?_getD]
  have : min (j + 1) E.length - 1 = j := by omega
  rw [this, List.getElem?_eq_getElem h]
  rfl
theorem at_lastG {α : Type} {l : List α} (h : 1 ≤ l.length) : atI l (-(1 : Int)) = l.getLast? := by
  unfold atI ixN
  rw [if_neg (by decide), if_pos (by omega), List.getLast?_eq_getElem?]
  show l[((-1 : Int) + (l.length : Int)).toNat]? = _
  congr 1
  omega
theorem at_end {E : List Int} {j : Nat} (h : j < E.length) : atI (E.take (j + 1)) (-(1 : Int)) = some (E.getD j 0) := by
  rw [at_lastG (by rw [List.length_take]; omega), take_last h]
/-- the law's loop over the early values -/
theorem trimL_ok {E : List Int} {R F : List Row} {f : Int} {k : Nat} {K : List Int → Prop} (s : IsSp F R) (hF1 : F.length ≤ 1000) (hb : RB F k) (hk : k ≤ 700) (f0 : 0 ≤ f) (f1 : f < 2 ^ 60) (hE : E.length ≤ 200)
    (q : K (E.take (trim E (fun i => vn R (f.toNat + i)) E.length))) :
    ∃ fu, whileC (fun (s57 : (List Int)) (k58 k59 : ((List Int)) → Prop) => (((plainD (D.lst (s57.map (fun y_ : Int => (D.v (V.int y_))))) = true ∧ plainD (D.lst (([] : List Int).map (fun y_ : Int => (D.v (V.int y_))))) = true ∧ SeqAt.shaped (pyOf (D.lst (s57.map (fun y_ : Int => (D.v (V.int y_)))))) = true ∧ SeqAt.shaped (pyOf (D.lst (([] : List Int).map (fun y_ : Int => (D.v (V.int y_)))))) = true)) ∧ (if (!(PyData.eqv (pyOf (D.lst (s57.map (fun y_ : Int => (D.v (V.int y_)))))) (pyOf (D.lst (([] : List Int).map (fun y_ : Int => (D.v (V.int y_)))))))) = true then (∃ y75, atI s57 (-(1 : Int)) = some y75 ∧ (M_valueL ((0 : Int), ([] : List Int), F) ((f + (s57.length : Int)) - (1 : Int)) fun r91 => (if (decide (V.int y75 = V.int r91)) = true then (∃ y96, List.getLast? s57 = some y96 ∧ (k58 ((List.dropLast s57)))) else (k59 (s57))))) else (k59 (s57))))) fu E K := by
  refine whileC_ok (fun z => ∃ j : Nat, j ≤ E.length ∧ z = E.take j ∧ trim E (fun i => vn R (f.toNat + i)) j = trim E (fun i => vn R (f.toNat + i)) E.length) (fun z => z.length) (fun z k1 hI hk1 => ?_) ⟨E.length, Nat.le_refl _, (List.take_length).symm, rfl⟩
  obtain ⟨j, hj, rfl, ht⟩ := hI
  refine ⟨⟨ints_plain _, ints_plain [], ints_shaped _, ints_shaped []⟩, ?_⟩
  rw [show ∀ a b : List Int, PyData.eqv (pyOf (D.lst (a.map fun y_ : Int => D.v (V.int y_)))) (pyOf (D.lst (b.map fun y_ : Int => D.v (V.int y_)))) = decide (a = b) from fun a b => eqv_int]
  cases j with
  | zero =>
    rw [if_neg (by simp)]
    rw [← ht] at q
    exact q
  | succ j =>
    have ne : E.take (j + 1) ≠ [] := by
      intro z
      have := congrArg List.length z
      rw [List.length_take, List.length_nil] at this
      omega
    rw [if_pos (by rw [decide_eq_false ne]; decide)]
    refine ⟨_, at_end (by omega), ?_⟩
    have el : (E.take (j + 1)).length = j + 1 := by rw [List.length_take]; omega
    rw [el]
    have e1 : f + ((j + 1 : Nat) : Int) - 1 = f + (j : Int) := by omega
    rw [e1]
    refine vr_ok s.pos hF1 hb (by omega) (by omega) (by omega) ?_
    have e2 : (f + (j : Int)).toNat = f.toNat + j := by omega
    rw [e2, s.val, eqI]
    by_cases c : E.getD j 0 = vn R (f.toNat + j)
    · rw [if_pos (decide_eq_true c)]
      refine ⟨_, take_last (d := 0) (by omega), hk1 _ ⟨j, by omega, ?_, ?_⟩ ?_⟩
      · rw [List.dropLast_eq_take, el, List.take_take]
        congr 1
        omega
      · rw [← ht]
        show trim E (fun i => vn R (f.toNat + i)) j = if E.getD j 0 = vn R (f.toNat + j) then _ else _
        rw [if_pos c]
      · rw [List.length_dropLast, el]
        omega
    · rw [if_neg (by simpa using c)]
      rw [← ht] at q
      have : trim E (fun i => vn R (f.toNat + i)) (j + 1) = j + 1 := if_neg c
      rw [this] at q
      exact q
/-! ### what the program finds -/
theorem cut_takeM {α : Type} (xs : List α) (k : Nat) : cutM xs none (some (k : Int)) = xs.take k := by
  unfold cutM
  rw [HT.sIx_none, HT.sIx_nat, List.drop_zero]
  show List.take (min k xs.length - 0) xs = _
  rw [Nat.sub_zero]
  by_cases c : k ≤ xs.length
  · rw [Nat.min_eq_left c]
  · rw [Nat.min_eq_right (by omega), List.take_length, List.take_of_length_le (by omega)]
theorem fearly_ok {E : List Int} {R : List Row} {f : Int} {k : Nat} {K : List Int → Prop} (hR : 0 < R.length) (hR1 : R.length ≤ 1000) (hb : RB R k) (hk : k ≤ 700) (f0 : 0 ≤ f) (f1 : f < 2 ^ 60) (hE : E.length ≤ 200)
    (q : K (E.take (trim E (fun i => vn R (f.toNat + i)) E.length))) : M_fewest_early f E R K := by
  refine whileC_ok (fun z : Int => ∃ j : Nat, j ≤ E.length ∧ z = (j : Int) ∧ trim E (fun i => vn R (f.toNat + i)) j = trim E (fun i => vn R (f.toNat + i)) E.length) (fun z => z.toNat) (fun z k1 hI hk1 => ?_) ⟨E.length, Nat.le_refl _, rfl, rfl⟩
  obtain ⟨j, hj, rfl, ht⟩ := hI
  cases j with
  | zero =>
    rw [if_neg (by decide)]
    show K (cutM E none (some ((0 : Nat) : Int)))
    rw [cut_takeM]
    rw [← ht] at q
    exact q
  | succ j =>
    rw [if_pos (by simp)]
    have e0 : (((j + 1 : Nat) : Int) - 1) = (j : Int) := by omega
    rw [e0]
    refine ⟨by omega, by rw [Int.toNat_natCast]; omega, fun x hx => ?_⟩
    obtain rfl : x = E.getD j 0 := by
      rw [hx, getE (d := (0 : Int))]
      rfl
    have e1 : f + ((j + 1 : Nat) : Int) - 1 = f + (j : Int) := by omega
    rw [e1]
    refine pv_ok hR hR1 hb (by omega) (by omega) (by omega) ?_
    have e2 : (f + (j : Int)).toNat = f.toNat + j := by omega
    rw [e2, eqI]
    by_cases c : E.getD j 0 = vn R (f.toNat + j)
    · rw [if_pos (decide_eq_true c)]
      refine hk1 _ ⟨j, by omega, rfl, ?_⟩ (by omega)
      rw [← ht]
      show trim E (fun i => vn R (f.toNat + i)) j = if E.getD j 0 = vn R (f.toNat + j) then _ else _
      rw [if_pos c]
    · rw [if_neg (by simpa using c)]
      show K (cutM E none (some ((j + 1 : Nat) : Int)))
      rw [cut_takeM]
      rw [← ht] at q
      have : trim E (fun i => vn R (f.toNat + i)) (j + 1) = j + 1 := if_neg c
      rw [this] at q
      exact q
theorem log_lt {x : Int} {a : Nat} (h0 : 0 < a) (h : x.natAbs < 2 ^ a) (ha : a ≤ 9000) : x.natAbs.log2 < 9000 := Nat.lt_of_lt_of_le (PySem.Flt.log2_lt_of h0 h) ha
theorem folded_ok {R : List Row} {d k : Nat} {K : List Row → Prop} (hR : 0 < R.length) (hR1 : R.length ≤ 1000) (h0 : 0 < d) (hd : d ∣ R.length) (q : K (fold R d)) : M_folded R (d : Int) K := by
  have hdn : d ≤ R.length := Nat.le_of_dvd hR hd
  have hm : 0 < R.length / d := Nat.div_pos hdn h0
  have hm2 : R.length / d ≤ 1000 := Nat.le_trans (Nat.div_le_self _ _) hR1
  have em : (R.length : Int) / (d : Int) = ((R.length / d : Nat) : Int) := by rw [Int.natCast_ediv]
  have b1 : (((R.length / d : Nat) : Int)).natAbs < 2 ^ 20 := by rw [Int.natAbs_natCast]; omega
  have p1 : (0 : Int) < ((R.length / d : Nat) : Int) := by omega
  unfold M_folded
  rw [em, cut_takeM]
  refine ⟨⟨by omega, log_lt (a := 20) (by decide) (by rw [Int.natAbs_natCast]; omega) (by decide)⟩, by rw [List.length_take]; omega, ?_⟩
  refine mapC_ok (fun r : Row => (r.1 / (((R.length / d : Nat) : Int) * ((R.length / d : Nat) : Int)), r.2.1 / ((R.length / d : Nat) : Int), r.2.2)) (fun r hr k' hk' => ?_) (by rw [List.nil_append]; exact q)
  exact ⟨wide_mul b1 b1 (by decide) (by decide) (by decide), ⟨Int.mul_pos p1 p1, log_lt (by decide) (bd_mul b1 b1) (by decide)⟩, ⟨p1, log_lt (by decide) b1 (by decide)⟩, hk'⟩
theorem spread_ok {F : List Row} {n k : Nat} {K : List Row → Prop} (hF : 0 < F.length) (hF1 : F.length ≤ 1000) (hb : RB F k) (hk : k ≤ 700) (hn : n ≤ 1000) (q : K (spr F n)) : M_spread F (n : Int) K := by
  unfold M_spread
  refine ⟨by rw [rangeI_len]; omega, ?_⟩
  refine mapC_ok (fun x : Int => srow (rg F (x.toNat % F.length)) ((n / F.length : Nat) : Int) ((x.toNat / F.length : Nat) : Int)) (fun x hx k' hk' => ?_) ?_
  · obtain ⟨x0, x1⟩ := rangeI_mem hx
    refine ⟨by omega, Int.emod_nonneg _ (by omega), by rw [emodN x0]; exact Nat.mod_lt _ hF, fun r hr => ?_⟩
    obtain rfl : r = rg F (x.toNat % F.length) := by
      rw [hr, getE (d := ((0, 0, 0) : Row)), emodN x0]
      rfl
    have e1 : (n : Int) / (F.length : Int) = ((n / F.length : Nat) : Int) := by rw [Int.natCast_ediv]
    rw [e1, edivN x0]
    have b := rb_rg hb (x.toNat % F.length)
    have bm : (((n / F.length : Nat) : Int)).natAbs < 2 ^ 20 := by
      rw [Int.natAbs_natCast]
      have := Nat.div_le_self n F.length
      omega
    have bh : (((x.toNat / F.length : Nat) : Int)).natAbs < 2 ^ 20 := by
      rw [Int.natAbs_natCast]
      have := Nat.div_le_self x.toNat F.length
      omega
    have bF : ((F.length : Int)).natAbs < 2 ^ 20 := by rw [Int.natAbs_natCast]; omega
    have c1 := bd_mul b.1 bm
    have t1 : (2 * (rg F (x.toNat % F.length)).1).natAbs < 2 ^ (k + 1) := by
      rw [Int.two_mul]
      exact bd_add b.1 b.1
    have t2 := bd_mul t1 bh
    have t3 : (2 * (rg F (x.toNat % F.length)).1 * ((x.toNat / F.length : Nat) : Int) + (rg F (x.toNat % F.length)).2.1).natAbs < 2 ^ (k + 1 + 20 + 1) := bd_add t2 (bd_mono b.2.1 (by omega))
    have v := rv_bd b (t := ((x.toNat / F.length : Nat) : Int)) (bd_mono bh (by decide)) (by omega)
    refine ⟨⟨by omega, log_lt (by decide) bF (by decide)⟩, ⟨by omega, log_lt (by decide) bF (by decide)⟩, ?_⟩
    exact ⟨wide_mul (bd_mono b.1 (by omega : k ≤ k + 1)) bm (by omega) (by decide) (by omega), wide_mul c1 bm (by omega) (by decide) (by omega), wide_mul t1 bh (by omega) (by decide) (by omega), wide_mul t3 bm (by omega) (by decide) (by omega), v.1, v.2.1, hk'⟩
  · rw [List.nil_append, map_rng]
    exact q
theorem srow_bd {r : Row} {m h : Int} {k : Nat} (b : RBr r k) (bm : m.natAbs < 2 ^ 20) (bh : h.natAbs < 2 ^ 20) (hk : k ≤ 700) : RBr (srow r m h) (k + 182) := by
  have c1 := bd_mul b.1 bm
  have t1 : (2 * r.1).natAbs < 2 ^ (k + 1) := by
    rw [Int.two_mul]
    exact bd_add b.1 b.1
  have t2 := bd_mul t1 bh
  have t3 : (2 * r.1 * h + r.2.1).natAbs < 2 ^ (k + 1 + 20 + 1) := bd_add t2 (bd_mono b.2.1 (by omega))
  exact ⟨bd_mono (bd_mul c1 bm) (by omega), bd_mono (bd_mul t3 bm) (by omega), (rv_bd b (t := h) (bd_mono bh (by decide)) (by omega)).2.2⟩
theorem nat20 {a n : Nat} (h : a ≤ 1000) : (((a / n : Nat) : Int)).natAbs < 2 ^ 20 := by
  rw [Int.natAbs_natCast]
  have := Nat.div_le_self a n
  omega
theorem rb_spr {F : List Row} {n k : Nat} (hb : RB F k) (hk : k ≤ 700) (hn : n ≤ 1000) : RB (spr F n) (k + 182) := fun r hr => by
  obtain ⟨x, hx, rfl⟩ := List.mem_map.mp hr
  have := List.mem_range.mp hx
  exact srow_bd (rb_rg hb _) (nat20 hn) (nat20 (by omega)) hk
theorem frows_ok {R F : List Row} {k : Nat} {K : List Row → Prop} (hR : 0 < R.length) (hR1 : R.length ≤ 1000) (hb : RB R k) (hk : k ≤ 700) (h : IsLean R F) (q : K F) : M_fewest_rows R K := by
  refine forC_rng (fun x _ => ∀ d : Nat, (d : Int) < x → ¬ Pd R d) (R.length - 1) (by omega) (by omega) (fun x s k' x0 x1 hI hk' => ?_) (fun d hd => ?_) (fun s hI => ?_)
  · obtain ⟨d, rfl⟩ := Int.eq_ofNat_of_zero_le (by omega : 0 ≤ x)
    have d0 : 0 < d := by omega
    refine ⟨by omega, ?_⟩
    have nx : ¬ Pd R d → k' () := fun n => hk' () fun d' hd' => by
      by_cases z : d' = d
      · rw [z]; exact n
      · exact hI d' (by omega)
    rw [eqI]
    by_cases c : d ∣ R.length
    · have c' : (R.length : Int) % (d : Int) = 0 := by
        rw [← Int.natCast_emod, Nat.mod_eq_zero_of_dvd c]
        rfl
      rw [if_pos (decide_eq_true c')]
      have fl : (fold R d).length = d := fold_len (Nat.le_of_dvd hR c)
      refine folded_ok (k := k) hR hR1 d0 c (spread_ok (by omega) (by omega) (rb_fold hb) (by omega) hR1 ?_)
      have sb : RB (spr (fold R d) R.length) (k + 182) := rb_spr (rb_fold hb) (by omega) hR1
      have pR := rows_plain hb (by omega)
      have pS := rows_plain sb (by omega)
      refine ⟨⟨pS.1, pR.1, pS.2, pR.2⟩, ?_⟩
      rw [show ∀ a b : List Row, PyData.eqv (pyOf (D.lst (a.map fun y_ : Int × Int × Int => D.tup [D.v (V.int y_.1), D.v (V.int y_.2.1), D.v (V.int y_.2.2)]))) (pyOf (D.lst (b.map fun y_ : Int × Int × Int => D.tup [D.v (V.int y_.1), D.v (V.int y_.2.1), D.v (V.int y_.2.2)]))) = decide (a = b) from fun a b => eqv_row]
      by_cases e : spr (fold R d) R.length = R
      · rw [if_pos (decide_eq_true e)]
        have sp : IsSp (fold R d) R := .of (by omega) (by rw [fl]; exact c) hR e
        have : fold R d = F := IsLean.uniq (R := R) ⟨sp, fun d' hd' => hI d' (by omega)⟩ h
        rw [this]
        exact q
      · rw [if_neg (by simpa using e)]
        exact nx fun p => e ((pd_fold hR d0 c).mpr p)
    · have c' : ¬ (R.length : Int) % (d : Int) = 0 := fun z => c (Int.natCast_dvd_natCast.mp (Int.dvd_of_emod_eq_zero z))
      rw [if_neg (by simpa using c')]
      exact nx fun ⟨F, e, sp⟩ => c (e ▸ sp.dvd)
  · intro ⟨F, e, sp⟩
    have := sp.pos
    omega
  · have : R = F := IsLean.uniq (R := R) ⟨.refl hR, fun d' hd' => hI d' (by omega)⟩ h
    rw [this]
    exact q
/-! ### the reduced form -/
theorem cut_len (P : PT) : (cutE P).length = trim P.2.1 (fun i => vn P.2.2 (P.1.toNat + i)) P.2.1.length := by
  unfold cutE
  rw [List.length_take]
  exact Nat.min_eq_left (trim_le _ _ _)
theorem getD_take {E : List Int} {t i : Nat} (h : i < t) : (E.take t).getD i 0 = E.getD i 0 := by
  rw [List.getD_eq_getElem?_getD, List.getD_eq_getElem?_getD, List.getElem?_take_of_lt h]
theorem wf_cut {P : PT} {F : List Row} (w : WF P) (h : IsLean P.2.2 F) : WF (P.1, cutE P, F) where
  f0 := w.f0
  f1 := w.f1
  e1 := Nat.le_trans (by rw [cut_len]; exact trim_le _ _ _) w.e1
  eb := fun v hv => w.eb v (List.mem_of_mem_take hv)
  r0 := h.sp.pos
  r1 := Nat.le_trans (Nat.le_of_dvd w.r0 h.sp.dvd) w.r1
  rb := rb_sp w.r0 h.sp w.rb
theorem cut_cut {P : PT} {F : List Row} (h : IsLean P.2.2 F) : cutE (P.1, cutE P, F) = cutE P := by
  have e1 : (fun i => vn F (P.1.toNat + i)) = fun i => vn P.2.2 (P.1.toNat + i) := funext fun i => h.sp.val _
  show (cutE P).take (trim (cutE P) (fun i => vn F (P.1.toNat + i)) (cutE P).length) = cutE P
  rw [e1]
  have e2 : trim (cutE P) (fun i => vn P.2.2 (P.1.toNat + i)) (cutE P).length = (cutE P).length := by
    rw [trim_ext (E' := P.2.1) fun i hi => getD_take (by rw [cut_len] at hi; exact hi), cut_len]
    exact trim_idem _ _
  rw [e2, List.take_length]
theorem reduced_ok {P : PT} {F : List Row} {K : PT → Prop} (w : WF P) (h : IsLean P.2.2 F) (q : K (P.1, cutE P, F)) : M_Form_reduced P K :=
  fearly_ok w.r0 (by have := w.r1; omega) w.rb (by decide) w.f0 w.f1 w.e1 (frows_ok w.r0 (by have := w.r1; omega) w.rb (by decide) h q)
theorem reduced2_ok {P : PT} {F : List Row} {K : PT → Prop} (w : WF P) (h : IsLean P.2.2 F) (q : K (P.1, cutE P, F)) : M_Form_reduced (P.1, cutE P, F) K := by
  refine reduced_ok (wf_cut w h) h.self ?_
  rw [cut_cut h]
  exact q
theorem vp_cut {P : PT} {F : List Row} (w : WF P) (h : IsLean P.2.2 F) {p : Int} (hp : P.1 ≤ p) : vp (P.1, cutE P, F) p = vp P p := by
  unfold vp
  have hl := cut_len P
  have tl := trim_le P.2.1 (fun i => vn P.2.2 (P.1.toNat + i)) P.2.1.length
  by_cases c : p < P.1 + ((cutE P).length : Int)
  · have c2 : p < P.1 + (P.2.1.length : Int) := by rw [hl] at c; omega
    show (if p < P.1 + ((cutE P).length : Int) then _ else _) = _
    rw [if_pos c, if_pos c2]
    exact getD_take (by rw [← hl]; omega)
  · show (if p < P.1 + ((cutE P).length : Int) then _ else vn F p.toNat) = _
    rw [if_neg c, h.sp.val]
    by_cases c2 : p < P.1 + (P.2.1.length : Int)
    · rw [if_pos c2]
      have := trim_val P.2.1 (fun i => vn P.2.2 (P.1.toNat + i)) (k := P.2.1.length) (i := (p - P.1).toNat) (by rw [← hl]; omega) (by omega)
      rw [this]
      have f0 := w.f0
      show vn P.2.2 p.toNat = vn P.2.2 (P.1.toNat + (p - P.1).toNat)
      congr 1
      omega
    · rw [if_neg c2]
theorem wf_first {P : PT} (w : WF P) : P.1.natAbs < 2 ^ 1900 := Nat.lt_of_lt_of_le (show P.1.natAbs < 2 ^ 60 by have := w.f0; have := w.f1; omega) (Nat.pow_le_pow_right (by decide) (by decide))
theorem wf_ints {P : PT} (w : WF P) : OkS (D.lst (P.2.1.map eI)) 2 384602 := oks_ints (m := 200) (fun v hv => bd_mono (w.eb v hv) (by decide)) w.e1
theorem wf_rows {P : PT} (w : WF P) : OkS (D.lst (P.2.2.map eR)) 3 138554 := oks_rows (m := 24) w.rb (by decide) w.r1
/-! ### one form -/
theorem wf_oks {P : PT} (w : WF P) : OkS (D.lst [D.v (V.int P.1), D.lst (P.2.1.map eI), D.lst (P.2.2.map eR)]) 4 1153814 := oks_lst (k := 3) (n := 384602) (m := 3) (fun d hd => by
  simp only [List.mem_cons, List.not_mem_nil, or_false] at hd
  rcases hd with rfl | rfl | rfl
  · exact (oks_int (Nat.lt_of_lt_of_le (wf_first w) (Nat.pow_le_pow_right (by decide) (by decide)))).mono (by decide) (by decide)
  · exact (wf_ints w).mono (by decide) (by decide)
  · exact (wf_rows w).mono (by decide) (by decide)) (by simp)
/-! ### draws -/
theorem drawW_ok {n : Int} {K : Int → Prop} (h0 : 0 < n) (h1 : n.natAbs < 2 ^ 100) (q : ∀ d, 0 ≤ d → d < n → K d) : M_draw n K := ⟨⟨h0, log_lt (by decide) h1 (by decide)⟩, q⟩
theorem pick_ok {xs : List Int} {K : Int → Prop} (h0 : 0 < xs.length) (h1 : xs.length < 1000) (q : ∀ x ∈ xs, K x) : M_pick xs K := by
  refine drawW_ok (by omega) (by rw [Int.natAbs_natCast]; omega) fun d d0 d1 => ⟨d0, by omega, fun x hx => ?_⟩
  rw [hx]
  exact q _ (List.getElem_mem _)
theorem pickR_ok {xs : List Row} {K : Row → Prop} (h0 : 0 < xs.length) (h1 : xs.length < 1000) (q : ∀ x ∈ xs, K x) : M_pick_pltiii xs K := by
  refine drawW_ok (by omega) (by rw [Int.natAbs_natCast]; omega) fun d d0 d1 => ⟨d0, by omega, fun x hx => ?_⟩
  rw [hx]
  exact q _ (List.getElem_mem _)
theorem integer_ok {K : Int → Prop} (q : ∀ n : Int, n.natAbs < 2 ^ 40 → K n) : M_integer K := by
  have e12 : (10 : Int) ^ Int.toNat 12 = 1000000000000 := by decide
  refine pick_ok (by simp) (by simp) fun x hx => ?_
  rw [e12] at hx
  have hb : 0 < x ∧ x ≤ 1000000000000 := by
    simp only [List.mem_cons, List.not_mem_nil, or_false] at hx
    rcases hx with rfl | rfl | rfl | rfl | rfl | rfl <;> decide
  refine drawW_ok hb.1 (by omega) fun d d0 d1 => ?_
  refine ⟨fun n => n.natAbs < 2 ^ 40, drawW_ok (by decide) (by decide) fun b b0 b1 => ?_, q⟩
  split
  · show d.natAbs < 2 ^ 40
    omega
  · show (-d).natAbs < 2 ^ 40
    omega
structure WF0 (P : PT) : Prop where
  f0 : 0 ≤ P.1
  f1 : P.1 < 2 ^ 59
  e1 : P.2.1.length ≤ 6
  eb : ∀ v ∈ P.2.1, v.natAbs < 2 ^ 40
  r0 : 0 < P.2.2.length
  r1 : P.2.2.length ≤ 6
  rb : RB P.2.2 40
theorem rb_mono {R : List Row} {a b : Nat} (h : RB R a) (ab : a ≤ b) : RB R b := fun r hr => ⟨bd_mono (h r hr).1 ab, bd_mono (h r hr).2.1 ab, bd_mono (h r hr).2.2 ab⟩
theorem WF0.wf {P : PT} (w : WF0 P) : WF P := ⟨w.f0, by have := w.f1; omega, by have := w.e1; omega, fun v hv => bd_mono (w.eb v hv) (by decide), w.r0, by have := w.r1; omega, rb_mono w.rb (by decide)⟩
theorem rb_snoc {R : List Row} {r : Row} {k : Nat} (h : RB R k) (hr : RBr r k) : RB (R ++ [r]) k := fun x hx => by
  rcases List.mem_append.mp hx with z | z
  · exact h x z
  · rw [List.mem_singleton.mp z]; exact hr
theorem early_ok {n : Int} {K : List Int → Prop} (h0 : 0 ≤ n) (h1 : n ≤ 6) (q : ∀ E : List Int, E.length ≤ 6 → (∀ v ∈ E, v.natAbs < 2 ^ 40) → K E) :
    (rangeI (0 : Int) n).length < 100000 ∧ mapC (fun (_ : Int) (k : Int → Prop) => M_integer fun r => k r) (rangeI (0 : Int) n) [] K := by
  refine ⟨by rw [rangeI_len]; omega, mapC_any (fun v => v.natAbs < 2 ^ 40) (fun x hx k' hk => integer_ok hk) fun ys hl hy => ?_⟩
  rw [List.nil_append]
  exact q ys (by rw [hl, rangeI_len]; omega) hy
theorem opt_int {b : Bool} {K : Int → Prop} (q : ∀ n : Int, n.natAbs < 2 ^ 40 → K n) : ∃ KB : Int → Prop, (if b = true then (M_integer fun r => KB r) else KB 0) ∧ ∀ r : Int, KB r → K r := by
  refine ⟨fun n => n.natAbs < 2 ^ 40, ?_, q⟩
  split
  · exact integer_ok fun n h => h
  · decide
theorem parts_ok {K : PT → Prop} (q : ∀ P, WF0 P → K P) : M_parts 6 K := by
  have e17 : (10 : Int) ^ Int.toNat 17 = 100000000000000000 := by decide
  refine pick_ok (by simp) (by simp) fun f hf => ?_
  rw [e17] at hf
  have fb : 0 ≤ f ∧ f ≤ 100000000000000000 := by
    simp only [List.mem_cons, List.not_mem_nil, or_false] at hf
    rcases hf with rfl | rfl | rfl | rfl | rfl | rfl <;> decide
  refine drawW_ok (by omega) (by omega) fun g g0 g1 => drawW_ok (by decide) (by decide) fun n n0 n1 => early_ok n0 (by omega) fun E hE hEb => ?_
  refine pick_ok (by simp) (by simp) fun m hm => ?_
  have mb : 1 ≤ m ∧ m ≤ 6 := by
    simp only [List.mem_cons, List.not_mem_nil, or_false] at hm
    rcases hm with rfl | rfl | rfl | rfl | rfl | rfl <;> decide
  refine forC_rng (fun x (s : List Row) => s.length = x.toNat ∧ RB s 40) m.toNat (by omega) (by omega) (fun x s k' x0 x1 hI hk => ?_) ⟨rfl, fun r hr => absurd hr List.not_mem_nil⟩ (fun s hI => ?_)
  · refine drawW_ok (by decide) (by decide) fun z z0 z1 => opt_int fun a ha => opt_int fun b hb => integer_ok fun c hc => ⟨by rw [hI.1]; omega, hk _ ⟨?_, rb_snoc hI.2 ⟨ha, hb, hc⟩⟩⟩
    rw [List.length_append, hI.1]
    show x.toNat + 1 = _
    omega
  · exact q (f + g, E, s) ⟨by show 0 ≤ f + g; omega, by show f + g < 2 ^ 59; omega, hE, hEb, by show 0 < s.length; rw [hI.1]; omega, by show s.length ≤ 6; rw [hI.1]; omega, hI.2⟩
theorem forC_snoc {α β : Type} {body : α → List β → (List β → Prop) → Prop} {k : List β → Prop} (g : α → β) (N : Nat) : ∀ {xs : List α} {acc : List β}, acc.length + xs.length ≤ N → (∀ x ∈ xs, ∀ (s : List β) (k' : List β → Prop), s.length < N → k' (s ++ [g x]) → body x s k') → k (acc ++ xs.map g) → forC body xs acc k
  | [], acc, _, _, q => by
    rw [List.map_nil, List.append_nil] at q
    exact q
  | x :: xs, acc, hN, h, q => by
    rw [List.length_cons] at hN
    refine h x List.mem_cons_self acc _ (by omega) ?_
    refine forC_snoc g N (by rw [List.length_append, List.length_cons, List.length_nil]; omega) (fun y hy => h y (List.mem_cons_of_mem _ hy)) ?_
    rw [List.append_assoc]
    exact q
theorem bd_small {x : Int} (h : x.natAbs ≤ 1000000) : x.natAbs < 2 ^ 20 := by omega
/-! ### told at greater length -/
theorem srow_bd2 {r : Row} {m h : Int} {k : Nat} (b : RBr r k) (bm : m.natAbs < 2 ^ 20) (bh : h.natAbs < 2 ^ 20) : RBr (srow r m h) (k + 50) := by
  have c1 : (r.1 * m).natAbs < 2 ^ (k + 20) := bd_mul b.1 bm
  have c2 : (r.1 * m * m).natAbs < 2 ^ (k + 50) := bd_mono (bd_mul c1 bm) (by omega)
  have t1 : (2 * r.1).natAbs < 2 ^ (k + 1) := by
    rw [Int.two_mul]
    exact bd_add b.1 b.1
  have t2 : (2 * r.1 * h).natAbs < 2 ^ (k + 21) := bd_mono (bd_mul t1 bh) (by omega)
  have t3 : (2 * r.1 * h + r.2.1).natAbs < 2 ^ (k + 22) := bd_mono (bd_add t2 (bd_mono b.2.1 (by omega))) (by omega)
  have t4 : ((2 * r.1 * h + r.2.1) * m).natAbs < 2 ^ (k + 50) := bd_mono (bd_mul t3 bm) (by omega)
  have v1 : (r.1 * h).natAbs < 2 ^ (k + 20) := bd_mul b.1 bh
  have v2 : (r.1 * h + r.2.1).natAbs < 2 ^ (k + 21) := bd_mono (bd_add v1 (bd_mono b.2.1 (by omega))) (by omega)
  have v3 : ((r.1 * h + r.2.1) * h).natAbs < 2 ^ (k + 41) := bd_mono (bd_mul v2 bh) (by omega)
  have v4 : ((r.1 * h + r.2.1) * h + r.2.2).natAbs < 2 ^ (k + 50) := bd_mono (bd_add v3 (bd_mono b.2.2 (by omega))) (by omega)
  exact ⟨c2, t4, v4⟩
theorem rb_spr2 {F : List Row} {n k : Nat} (hb : RB F k) (hn : n ≤ 1000) : RB (spr F n) (k + 50) := fun r hr => by
  obtain ⟨x, hx, rfl⟩ := List.mem_map.mp hr
  have := List.mem_range.mp hx
  exact srow_bd2 (rb_rg hb _) (nat20 hn) (nat20 (by omega))
theorem lrow_spr {R : List Row} {N : Nat} (hR : 0 < R.length) (hd : R.length ∣ N) (hN : 0 < N) : (List.range N).map (lrow R N) = spr R N := by
  have sp : IsSp (spr R N) (spr R N) := .refl (by rw [spr_len]; exact hN)
  have e : lrow R N = lrow (spr R N) N := funext fun x => by
    unfold lrow ltw
    simp only [vn_spr hR hd hN]
  rw [e]
  refine rows_ext (by rw [List.length_map, List.length_range]; exact hN) (by rw [List.length_map, List.length_range, spr_len]) fun j hj => ?_
  rw [List.length_map, List.length_range] at hj
  have h1 := (lrow_of sp (x := j) (by rw [spr_len]; exact hj)).1
  rw [spr_len] at h1
  rw [← h1]
  unfold rg
  rw [List.getD_eq_getElem?_getD, List.getElem?_map, List.getElem?_range hj]
  rfl
structure Wider (P W : PT) : Prop where
  f : W.1 = P.1
  m : ∃ Y : List Int, W.2.1 = P.2.1 ++ Y ∧ Y.length ≤ 50 ∧ ∀ i < Y.length, Y.getD i 0 = vn P.2.2 (P.1.toNat + (P.2.1.length + i))
  rows : ∃ N : Nat, W.2.2 = spr P.2.2 N ∧ P.2.2.length ∣ N ∧ 0 < N ∧ N ≤ 24
theorem wider_ok {P : PT} {t m : Int} {K : PT → Prop} (w : WF0 P) (t0 : 1 ≤ t) (t1 : t ≤ 4) (m0 : 0 ≤ m) (m1 : m ≤ 50) (q : ∀ W, Wider P W → K W) : M_wider P t m K := by
  obtain ⟨T, rfl⟩ := Int.eq_ofNat_of_zero_le (by omega : 0 ≤ t)
  have r0 := w.r0
  have r1 := w.r1
  have f0 := w.f0
  have f1 := w.f1
  have e1 := w.e1
  have hN1 : P.2.2.length * T ≤ 24 := Nat.le_trans (Nat.mul_le_mul r1 (by omega : T ≤ 4)) (by decide)
  have hN0 : 0 < P.2.2.length * T := Nat.mul_pos r0 (by omega)
  have eN : (P.2.2.length : Int) * (T : Int) = ((P.2.2.length * T : Nat) : Int) := by rw [Int.natCast_mul]
  have cm : CMulW (P.2.2.length : Int) (T : Int) := wide_mul (a := 20) (b := 20) (by omega) (by omega) (by decide) (by decide) (by decide)
  unfold M_wider
  rw [eN]
  refine ⟨cm, forC_snoc (fun x : Int => lrow P.2.2 (P.2.2.length * T) x.toNat) 100 (by rw [rangeI_len]; simp; omega) (fun x hx s k' hs hk => ?_) ?_⟩
  · obtain ⟨x0, x1⟩ := rangeI_mem hx
    obtain ⟨y, rfl⟩ := Int.eq_ofNat_of_zero_le x0
    refine ⟨by rw [rangeI_len]; omega, mapC_ok (fun t : Int => vn P.2.2 (y + P.2.2.length * T * t.toNat)) (fun t ht k2 hk2 => ?_) ?_⟩
    · obtain ⟨u0, u1⟩ := rangeI_mem ht
      obtain ⟨u, rfl⟩ := Int.eq_ofNat_of_zero_le u0
      have ub : P.2.2.length * T * u ≤ 24 * 3 := Nat.mul_le_mul hN1 (by omega)
      have e2 : (y : Int) + ((P.2.2.length * T : Nat) : Int) * (u : Int) = ((y + P.2.2.length * T * u : Nat) : Int) := by rw [← Int.natCast_mul, ← Int.natCast_add]
      refine ⟨cm, wide_mul (a := 20) (b := 20) (by rw [Int.natAbs_natCast]; omega) (by omega) (by decide) (by decide) (by decide), ?_⟩
      rw [e2]
      refine vr_ok r0 (by omega) w.rb (by decide) (by omega) (by omega) ?_
      rw [Int.toNat_natCast]
      exact hk2
    · have eY : ([] : List Int) ++ (rangeI (0 : Int) (3 : Int)).map (fun t : Int => vn P.2.2 (y + P.2.2.length * T * t.toNat)) = [vn P.2.2 (y + P.2.2.length * T * 0), vn P.2.2 (y + P.2.2.length * T * 1), vn P.2.2 (y + P.2.2.length * T * 2)] := rfl
      rw [eY]
      refine ⟨by decide, (by decide : 2 < 3), fun a ha => ⟨by decide, (by decide : 1 < 3), fun b hb => ⟨by decide, (by decide : 0 < 3), fun c hc => ⟨by decide, (by decide : 1 < 3), fun b' hb' => ⟨by decide, (by decide : 0 < 3), fun c' hc' => ⟨by decide, (by decide : 0 < 3), fun c'' hc'' => ⟨by omega, ?_⟩⟩⟩⟩⟩⟩⟩
      obtain rfl : a = vn P.2.2 (y + P.2.2.length * T * 2) := ha
      obtain rfl : b = vn P.2.2 (y + P.2.2.length * T * 1) := hb
      obtain rfl : c = vn P.2.2 (y + P.2.2.length * T * 0) := hc
      obtain rfl : b' = vn P.2.2 (y + P.2.2.length * T * 1) := hb'
      obtain rfl : c' = vn P.2.2 (y + P.2.2.length * T * 0) := hc'
      obtain rfl : c'' = vn P.2.2 (y + P.2.2.length * T * 0) := hc''
      exact hk
  · rw [List.nil_append, map_rng]
    have eS : (List.range (P.2.2.length * T)).map (fun i : Nat => lrow P.2.2 (P.2.2.length * T) (Int.toNat (i : Int))) = spr P.2.2 (P.2.2.length * T) := lrow_spr r0 ⟨T, rfl⟩ hN0
    rw [eS]
    refine ⟨by rw [rangeI_len]; omega, mapC_ok (fun i : Int => vp P (P.1 + (P.2.1.length : Int) + i)) (fun i hi k2 hk2 => ?_) ?_⟩
    · have := rangeI_mem hi
      exact vl_ok r0 (by omega) w.rb (by decide) f0 (by omega) (by omega) hk2
    · have e : sizeLine = 16777216 := sizeLine_eq
      refine ⟨by simp only [List.nil_append, List.length_map, rangeI_len]; omega, q _ ⟨rfl, ⟨_, rfl, ?_, fun i hi => ?_⟩, ⟨_, rfl, ⟨T, rfl⟩, hN0, hN1⟩⟩⟩
      · simp only [List.nil_append, List.length_map, rangeI_len]; omega
      · simp only [List.nil_append, List.length_map, rangeI_len] at hi
        rw [List.nil_append, List.getD_eq_getElem?_getD, List.getElem?_map, rangeI_get (by omega)]
        show vp P (P.1 + (P.2.1.length : Int) + (0 + (i : Int))) = _
        unfold vp
        rw [if_neg (by omega)]
        congr 1
        omega
/-! ### the whole law -/
theorem Wider.wf {P W : PT} (w : WF0 P) (h : Wider P W) : WF W ∧ W.2.1.length ≤ 60 ∧ (∀ v ∈ W.2.1, v.natAbs < 2 ^ 300) ∧ RB W.2.2 90 := by
  obtain ⟨hf, ⟨Y, hY, hYl, hYv⟩, ⟨N, hr, hd, hN0, hN1⟩⟩ := h
  have e1 := w.e1
  have r1 := w.r1
  have f0 := w.f0
  have f1 := w.f1
  have eb : ∀ v ∈ W.2.1, v.natAbs < 2 ^ 300 := fun v hv => by
    rw [hY] at hv
    rcases List.mem_append.mp hv with z | z
    · exact bd_mono (w.eb v z) (by decide)
    · obtain ⟨i, hi, rfl⟩ := List.getElem_of_mem z
      rw [getE (d := (0 : Int)), hYv i hi]
      exact bd_mono (vn_bd w.rb (by omega) (by decide)) (by decide)
  have rb : RB W.2.2 90 := by
    rw [hr]
    exact rb_spr2 w.rb (by omega)
  have le : W.2.1.length ≤ 60 := by
    rw [hY, List.length_append]
    omega
  refine ⟨⟨by rw [hf]; exact f0, by rw [hf]; omega, by omega, fun v hv => bd_mono (eb v hv) (by decide), by rw [hr, spr_len]; exact hN0, by rw [hr, spr_len]; exact hN1, rb_mono rb (by decide)⟩, le, eb, rb⟩
theorem wider_lean {P W : PT} {F : List Row} (w : WF0 P) (h : Wider P W) (hF : IsLean P.2.2 F) : IsLean W.2.2 F ∧ cutE W = cutE P := by
  obtain ⟨hf, ⟨Y, hY, hYl, hYv⟩, ⟨N, hr, hd, hN0, hN1⟩⟩ := h
  have hv : ∀ p, vn W.2.2 p = vn P.2.2 p := fun p => by rw [hr, vn_spr w.r0 hd hN0]
  refine ⟨lean_wide w.r0 hF (by rw [hr, spr_len]; exact hd) hv, ?_⟩
  have e1 : (fun i => vn W.2.2 (W.1.toNat + i)) = fun i => vn P.2.2 (P.1.toNat + i) := funext fun i => by rw [hv, hf]
  show W.2.1.take (trim W.2.1 (fun i => vn W.2.2 (W.1.toNat + i)) W.2.1.length) = _
  rw [e1, hY, List.length_append]
  have e2 : trim (P.2.1 ++ Y) (fun i => vn P.2.2 (P.1.toNat + i)) (P.2.1.length + Y.length) = trim (P.2.1 ++ Y) (fun i => vn P.2.2 (P.1.toNat + i)) P.2.1.length := trim_more fun i h1 h2 => by
    have hy := hYv (i - P.2.1.length) (by omega)
    rw [List.getD_eq_getElem?_getD] at hy ⊢
    rw [List.getElem?_append_right h1, hy]
    show vn P.2.2 _ = vn P.2.2 _
    congr 1
    omega
  have e3 : trim (P.2.1 ++ Y) (fun i => vn P.2.2 (P.1.toNat + i)) P.2.1.length = trim P.2.1 (fun i => vn P.2.2 (P.1.toNat + i)) P.2.1.length := trim_ext fun i hi => by
    rw [List.getD_eq_getElem?_getD, List.getD_eq_getElem?_getD, List.getElem?_append_left hi]
  rw [e2, e3, List.take_append_of_le_length (trim_le _ _ _)]
theorem at_pos {α : Type} {xs : List α} {i : Int} {d : α} (h0 : 0 ≤ i) (h : i.toNat < xs.length) : atI xs i = some (xs.getD i.toNat d) := by
  unfold atI ixN
  rw [if_pos h0, if_pos (by omega)]
  show xs[i.toNat]? = _
  rw [List.getD_eq_getElem?_getD, List.getElem?_eq_getElem h]
  rfl
theorem getD_mem {α : Type} {xs : List α} {j : Nat} {d : α} (h : j < xs.length) : xs.getD j d ∈ xs := by
  rw [← getE (d := d) (h := h)]
  exact List.getElem_mem h
theorem set_mem {α : Type} {xs : List α} {j : Nat} {x y : α} (h : y ∈ xs.set j x) : y ∈ xs ∨ y = x := List.mem_or_eq_of_mem_set h
theorem spoilR_ok {W : PT} {K : PT → Prop} (w : WF W) (rb : RB W.2.2 90) (q : ∀ S, WF S → K S) :
    M_draw (W.2.2.length : Int) fun r89 => (∃ y94, atI W.2.2 r89 = some y94 ∧ (M_pick_pltiii ([(y94.1, y94.2.1, (y94.2.2 + (1 : Int))), (y94.1, (y94.2.1 - (1 : Int)), y94.2.2), ((y94.1 + (2 : Int)), y94.2.1, y94.2.2)] : List (Int × Int × Int)) fun r136 => (0 ≤ r89 ∧ Int.toNat r89 < W.2.2.length ∧ (K (W.1, W.2.1, (W.2.2.set (Int.toNat r89) r136)))))) := by
  have r0 := w.r0
  have r1 := w.r1
  refine drawW_ok (by omega) (by rw [Int.natAbs_natCast]; omega) fun d d0 d1 => ⟨_, at_pos (d := ((0, 0, 0) : Row)) d0 (by omega), ?_⟩
  have b := rb _ (getD_mem (xs := W.2.2) (j := d.toNat) (d := ((0, 0, 0) : Row)) (by omega))
  generalize W.2.2.getD d.toNat (0, 0, 0) = y at *
  refine pickR_ok (by simp) (by simp) fun x hx => ⟨d0, by omega, q _ ⟨w.f0, w.f1, w.e1, w.eb, by show 0 < (W.2.2.set d.toNat x).length; rw [List.length_set]; exact r0, by show (W.2.2.set d.toNat x).length ≤ 24; rw [List.length_set]; exact r1, fun r hr => ?_⟩⟩
  have one : ∀ z : Int, z.natAbs < 2 ^ 90 → ∀ c : Int, c.natAbs ≤ 2 → (z + c).natAbs < 2 ^ 200 := fun z hz c hc => bd_mono (bd_add hz (show c.natAbs < 2 ^ 90 by omega)) (by decide)
  rcases set_mem hr with z | rfl
  · exact w.rb r z
  · simp only [List.mem_cons, List.not_mem_nil, or_false] at hx
    rcases hx with rfl | rfl | rfl
    · exact ⟨bd_mono b.1 (by decide), bd_mono b.2.1 (by decide), one _ b.2.2 _ (by decide)⟩
    · exact ⟨bd_mono b.1 (by decide), one _ b.2.1 (-1) (by decide), bd_mono b.2.2 (by decide)⟩
    · exact ⟨one _ b.1 _ (by decide), bd_mono b.2.1 (by decide), bd_mono b.2.2 (by decide)⟩
/-! ### the first place of a kind -/
def IsFirst (lo : Int) (D : Int → Int) (r : Option Int) : Prop := (∀ p, r = some p → lo ≤ p ∧ D p ≠ 0 ∧ ∀ x, lo ≤ x → x < p → D x = 0) ∧ (r = none → ∀ x, lo ≤ x → D x = 0)
theorem first_ex (lo : Int) (D : Int → Int) : ∃ r, IsFirst lo D r := by
  by_cases h : ∃ p, lo ≤ p ∧ D p ≠ 0
  · obtain ⟨p, h0, h1⟩ := h
    have key : ∀ n : Nat, (∃ r, IsFirst lo D r) ∨ ∀ x, lo ≤ x → x < lo + (n : Int) → D x = 0 := by
      intro n
      induction n with
      | zero => exact .inr fun x a b => by omega
      | succ n ih =>
        rcases ih with ih | ih
        · exact .inl ih
        · by_cases c : D (lo + (n : Int)) = 0
          · refine .inr fun x a b => ?_
            by_cases e : x = lo + (n : Int)
            · rw [e]; exact c
            · exact ih x a (by omega)
          · exact .inl ⟨some (lo + (n : Int)), And.intro (fun p e => by cases e; exact ⟨by omega, c, ih⟩) (fun e => by cases e)⟩
    rcases key ((p - lo).toNat + 1) with k | k
    · exact k
    · exact absurd (k p h0 (by omega)) h1
  · exact ⟨none, And.intro (fun p e => by cases e) (fun _ x hx => Classical.byContradiction fun n => h ⟨x, hx, n⟩)⟩
theorem IsFirst.congr {lo : Int} {D D' : Int → Int} {r : Option Int} (h : IsFirst lo D r) (e : ∀ x, lo ≤ x → (D x = 0 ↔ D' x = 0)) : IsFirst lo D' r :=
  ⟨fun p hp => ⟨(h.1 p hp).1, fun z => (h.1 p hp).2.1 ((e p (h.1 p hp).1).mpr z), fun x a b => (e x a).mp ((h.1 p hp).2.2 x a b)⟩, fun hn x hx => (e x hx).mp (h.2 hn x hx)⟩
theorem IsFirst.lt {lo hi : Int} {D : Int → Int} {r : Option Int} (h : IsFirst lo D r) (hz : (∀ p, lo ≤ p → p < hi → D p = 0) → ∀ p, lo ≤ p → D p = 0) {p : Int} (e : r = some p) : p < hi := by
  obtain ⟨a, b, c⟩ := h.1 p e
  by_cases l : p < hi
  · exact l
  · exact absurd (hz (fun x x0 x1 => c x x0 (by omega)) p a) b
theorem first_forC {lo hi : Int} {D : Int → Int} {r : Option Int} {K : Option Int → Prop} {body : Int → Unit → (Unit → Prop) → Prop} (hr : IsFirst lo D r) (hz : (∀ p, lo ≤ p → p < hi → D p = 0) → ∀ p, lo ≤ p → D p = 0) (hl : lo ≤ hi)
    (hb : ∀ x, lo ≤ x → x < hi → ∀ k' : Unit → Prop, (D x ≠ 0 → K (some x)) → (D x = 0 → k' ()) → body x () k') (q : K r) : forC body (rangeI lo hi) () fun _ => K none := by
  refine forC_rng (fun x _ => ∀ p, lo ≤ p → p < x → D p = 0) (hi - lo).toNat rfl hl (fun x s k' x0 x1 hI hk => ?_) (fun p a b => by omega) (fun s hI => ?_)
  · refine hb x x0 x1 k' (fun n => ?_) (fun z => hk () fun p a b => ?_)
    · cases e : r with
      | none => exact absurd (hr.2 e x x0) n
      | some p =>
        obtain ⟨a, b, c⟩ := hr.1 p e
        have : p = x := by
          by_cases l : x < p
          · exact absurd (c x x0 l) n
          · by_cases l2 : p < x
            · exact absurd (hI p a l2) b
            · omega
        rw [← this, ← e]
        exact q
    · by_cases e : p = x
      · rw [e]; exact z
      · exact hI p a (by omega)
  · cases e : r with
    | none => rw [← e]; exact q
    | some p =>
      obtain ⟨a, b, c⟩ := hr.1 p e
      exact absurd (hz hI p a) b
/-- rows that tell nothing but zeros for three rounds tell nothing else -/
theorem zero_rows {A : List Row} (h0 : 0 < A.length) {b : Nat} (h : ∀ p, b ≤ p → p < b + 3 * A.length → vn A p = 0) (p : Nat) : vn A p = 0 := by
  have row : ∀ j < A.length, rg A j = (0, 0, 0) := by
    intro j hj
    have bd := Nat.mod_add_div b A.length
    have bm := Nat.mod_lt b h0
    obtain ⟨t, ht0, ht1⟩ : ∃ t, b ≤ j + A.length * t ∧ j + A.length * t < b + A.length := by
      by_cases c : b % A.length ≤ j
      · exact ⟨b / A.length, by omega, by omega⟩
      · refine ⟨b / A.length + 1, ?_, ?_⟩
        · rw [Nat.mul_add, Nat.mul_one]; omega
        · rw [Nat.mul_add, Nat.mul_one]; omega
    have v : ∀ s : Nat, s < 3 → rv (rg A j) ((t + s : Nat) : Int) = 0 := fun s hs => by
      rw [← vn_add h0 hj]
      have ms : A.length * s ≤ A.length * 2 := Nat.mul_le_mul_left _ (by omega)
      refine h _ ?_ ?_
      · rw [Nat.mul_add]; omega
      · rw [Nat.mul_add]; omega
    rcases hr : rg A j with ⟨a, b', c⟩
    have q0 := v 0 (by decide)
    have q1 := v 1 (by decide)
    have q2 := v 2 (by decide)
    rw [hr] at q0 q1 q2
    simp only [rv, Int.natCast_add] at q0 q1 q2
    generalize (t : Int) = T at *
    obtain ⟨z1, z2, z3⟩ := quad3 (a := a) (b := b') (c := c) (t := T) (w := 1) (by decide) (by simp at q0; grind) (by simp at q1; grind) (by simp at q2; grind)
    rw [z1, z2, z3]
  unfold vn
  rw [row _ (Nat.mod_lt _ h0)]
  simp [rv]
/-! ### differences -/
def lowF (P Q : PT) : Int := if Q.1 > P.1 then Q.1 else P.1
def begF (P Q : PT) : Int := if Q.1 + (Q.2.1.length : Int) > P.1 + (P.2.1.length : Int) then Q.1 + (Q.2.1.length : Int) else P.1 + (P.2.1.length : Int)
def dRow (x : Row × Row) : Row := (x.1.1 + (-1) * x.2.1, x.1.2.1 + (-1) * x.2.2.1, x.1.2.2 + (-1) * x.2.2.2)
def dRows (P Q : PT) : List Row := (List.zip (spr P.2.2 (Nat.lcm P.2.2.length Q.2.2.length)) (spr Q.2.2 (Nat.lcm P.2.2.length Q.2.2.length))).map dRow
def dif (P Q : PT) : PT := (lowF P Q, (rangeI (lowF P Q) (begF P Q)).map (fun p => vp P p + (-1) * vp Q p), dRows P Q)
theorem dRows_len (P Q : PT) : (dRows P Q).length = Nat.lcm P.2.2.length Q.2.2.length := by
  unfold dRows
  rw [List.length_map, List.length_zip, spr_len, spr_len, Nat.min_self]
theorem rg_zip {A B : List Row} {j : Nat} (ha : j < A.length) (hb : j < B.length) : rg ((List.zip A B).map dRow) j = dRow (rg A j, rg B j) := by
  unfold rg
  rw [List.getD_eq_getElem?_getD, List.getElem?_map, (List.getElem?_zip_eq_some (z := (A[j]'ha, B[j]'hb))).mpr ⟨List.getElem?_eq_getElem ha, List.getElem?_eq_getElem hb⟩, List.getD_eq_getElem?_getD, List.getD_eq_getElem?_getD, List.getElem?_eq_getElem ha, List.getElem?_eq_getElem hb]
  rfl
theorem rv_dRow (x : Row × Row) (t : Int) : rv (dRow x) t = rv x.1 t - rv x.2 t := by
  obtain ⟨⟨a, b, c⟩, ⟨d, e, f⟩⟩ := x
  simp only [rv, dRow]
  grind
theorem lcm_pos' {P Q : PT} (hP : 0 < P.2.2.length) (hQ : 0 < Q.2.2.length) : 0 < Nat.lcm P.2.2.length Q.2.2.length := Nat.lcm_pos hP hQ
theorem vn_dRows {P Q : PT} (hP : 0 < P.2.2.length) (hQ : 0 < Q.2.2.length) (p : Nat) : vn (dRows P Q) p = vn P.2.2 p - vn Q.2.2 p := by
  have hN := lcm_pos' hP hQ
  rw [← vn_spr hP (Nat.dvd_lcm_left _ _) hN p, ← vn_spr hQ (Nat.dvd_lcm_right P.2.2.length _) hN p]
  unfold vn
  rw [dRows_len, spr_len, spr_len]
  have hj := Nat.mod_lt p hN
  show rv (rg ((List.zip _ _).map dRow) _) _ = _
  rw [rg_zip (by rw [spr_len]; exact hj) (by rw [spr_len]; exact hj), rv_dRow]
theorem low_le (P Q : PT) : P.1 ≤ lowF P Q ∧ Q.1 ≤ lowF P Q := by
  unfold lowF
  split <;> omega
theorem beg_le (P Q : PT) : P.1 + (P.2.1.length : Int) ≤ begF P Q ∧ Q.1 + (Q.2.1.length : Int) ≤ begF P Q ∧ lowF P Q ≤ begF P Q := by
  unfold begF lowF
  refine ⟨?_, ?_, ?_⟩ <;> split <;> (try split) <;> omega
theorem vp_dif {P Q : PT} (hP : 0 < P.2.2.length) (hQ : 0 < Q.2.2.length) (f0 : 0 ≤ P.1) {p : Int} (h : lowF P Q ≤ p) : vp (dif P Q) p = vp P p - vp Q p := by
  have hl := low_le P Q
  have hb := beg_le P Q
  have len : ((rangeI (lowF P Q) (begF P Q)).map (fun p => vp P p + (-1) * vp Q p)).length = (begF P Q - lowF P Q).toNat := by rw [List.length_map, rangeI_len]
  by_cases c : p < begF P Q
  · have e1 : vp (dif P Q) p = ((rangeI (lowF P Q) (begF P Q)).map (fun p => vp P p + (-1) * vp Q p)).getD (p - lowF P Q).toNat 0 := by
      unfold vp
      refine if_pos ?_
      show p < lowF P Q + ((((rangeI (lowF P Q) (begF P Q)).map (fun p => vp P p + (-1) * vp Q p)).length : Nat) : Int)
      rw [len]
      omega
    rw [e1, List.getD_eq_getElem?_getD, List.getElem?_map, rangeI_get (by omega)]
    show vp P (lowF P Q + ((p - lowF P Q).toNat : Int)) + (-1) * vp Q (lowF P Q + ((p - lowF P Q).toNat : Int)) = _
    have : lowF P Q + ((p - lowF P Q).toNat : Int) = p := by omega
    rw [this]
    omega
  · have e1 : vp (dif P Q) p = vn (dRows P Q) p.toNat := by
      unfold vp
      refine if_neg ?_
      show ¬ p < lowF P Q + ((((rangeI (lowF P Q) (begF P Q)).map (fun p => vp P p + (-1) * vp Q p)).length : Nat) : Int)
      rw [len]
      omega
    rw [e1, vn_dRows hP hQ]
    have e2 : vp P p = vn P.2.2 p.toNat := by
      unfold vp
      exact if_neg (by omega)
    have e3 : vp Q p = vn Q.2.2 p.toNat := by
      unfold vp
      exact if_neg (by omega)
    rw [e2, e3]
theorem vp_cutG {P : PT} {F : List Row} (f0 : 0 ≤ P.1) (h : IsLean P.2.2 F) {p : Int} (hp : P.1 ≤ p) : vp (P.1, cutE P, F) p = vp P p := by
  unfold vp
  have hl := cut_len P
  have tl := trim_le P.2.1 (fun i => vn P.2.2 (P.1.toNat + i)) P.2.1.length
  by_cases c : p < P.1 + ((cutE P).length : Int)
  · have c2 : p < P.1 + (P.2.1.length : Int) := by rw [hl] at c; omega
    show (if p < P.1 + ((cutE P).length : Int) then _ else _) = _
    rw [if_pos c, if_pos c2]
    exact getD_take (by rw [← hl]; omega)
  · show (if p < P.1 + ((cutE P).length : Int) then _ else vn F p.toNat) = _
    rw [if_neg c, h.sp.val]
    by_cases c2 : p < P.1 + (P.2.1.length : Int)
    · rw [if_pos c2]
      have := trim_val P.2.1 (fun i => vn P.2.2 (P.1.toNat + i)) (k := P.2.1.length) (i := (p - P.1).toNat) (by rw [← hl]; omega) (by omega)
      rw [this]
      show vn P.2.2 p.toNat = vn P.2.2 (P.1.toNat + (p - P.1).toNat)
      congr 1
      omega
    · rw [if_neg c2]
/-- zeros for three rounds behind the early values: zeros for good -/
theorem zero_on {lo : Int} {D : Int → Int} {A : List Row} {b : Int} (h0 : 0 < A.length) (b0 : 0 ≤ b) (hv : ∀ p, b ≤ p → D p = vn A p.toNat) (h : ∀ p, lo ≤ p → p < b + 3 * (A.length : Int) → D p = 0) (lb : lo ≤ b) : ∀ p, lo ≤ p → D p = 0 := by
  have z := zero_rows h0 (b := b.toNat) fun p p0 p1 => by
    have e := hv (p : Int) (by omega)
    rw [Int.toNat_natCast] at e
    rw [← e]
    exact h _ (by omega) (by omega)
  intro p hp
  by_cases c : p < b
  · exact h p hp (by omega)
  · rw [hv p (by omega), z]
theorem vp_bd {P : PT} (w : WF P) {p : Int} (p1 : p < 2 ^ 90) : (vp P p).natAbs < 2 ^ 400 := by
  unfold vp
  split
  · by_cases c : (p - P.1).toNat < P.2.1.length
    · exact w.eb _ (getD_mem c)
    · rw [List.getD_eq_getElem?_getD, List.getElem?_eq_none (by omega)]
      exact Nat.two_pow_pos _
  · exact bd_mono (vn_bd w.rb (by omega) (by decide)) (by decide)
theorem one_bd : ((-1 : Int)).natAbs < 2 ^ 1 := by decide
theorem neg_bd {x : Int} {a : Nat} (h : x.natAbs < 2 ^ a) : ((-1) * x).natAbs < 2 ^ a := by
  rw [Int.neg_one_mul, Int.natAbs_neg]
  exact h
theorem lcm_le' {P Q : PT} (wP : WF P) (wQ : WF Q) : Nat.lcm P.2.2.length Q.2.2.length ≤ 576 := by
  have h1 := PySem.W.mc_lcm_le P.2.2.length Q.2.2.length
  have h2 : P.2.2.length * Q.2.2.length ≤ 24 * 24 := Nat.mul_le_mul wP.r1 wQ.r1
  omega
theorem dRows_bd {P Q : PT} (wP : WF P) (wQ : WF Q) : RB (dRows P Q) 260 := fun r hr => by
  obtain ⟨x, hx, rfl⟩ := List.mem_map.mp hr
  have hN := lcm_le' wP wQ
  have h1 := rb_spr2 (n := Nat.lcm P.2.2.length Q.2.2.length) wP.rb (by omega) x.1 (List.of_mem_zip (a := x.1) (b := x.2) hx).1
  have h2 := rb_spr2 (n := Nat.lcm P.2.2.length Q.2.2.length) wQ.rb (by omega) x.2 (List.of_mem_zip (a := x.1) (b := x.2) hx).2
  exact ⟨bd_mono (bd_add h1.1 (neg_bd h2.1)) (by decide), bd_mono (bd_add h1.2.1 (neg_bd h2.2.1)) (by decide), bd_mono (bd_add h1.2.2 (neg_bd h2.2.2)) (by decide)⟩
theorem beg_lt {P Q : PT} (wP : WF P) (wQ : WF Q) : begF P Q - lowF P Q ≤ 200 ∧ 0 ≤ lowF P Q ∧ lowF P Q < 2 ^ 60 := by
  have a1 := wP.e1
  have a2 := wQ.e1
  have b1 := wP.f0
  have b2 := wQ.f0
  have c1 := wP.f1
  have c2 := wQ.f1
  unfold begF lowF
  refine ⟨?_, ?_, ?_⟩
  · split <;> split <;> omega
  · split <;> omega
  · split <;> omega
theorem joined_ok {P Q : PT} {K : PT → Prop} (wP : WF P) (wQ : WF Q) (q : K (dif P Q)) : M_joined P Q (-1) K := by
  have hb := beg_lt wP wQ
  have hl := low_le P Q
  have p1 := wP.r1
  have q1 := wQ.r1
  have hN := lcm_le' wP wQ
  have eN : ((Nat.lcm (Int.natAbs (P.2.2.length : Int)) (Int.natAbs (Q.2.2.length : Int)) : Nat) : Int) = ((Nat.lcm P.2.2.length Q.2.2.length : Nat) : Int) := by rw [Int.natAbs_natCast, Int.natAbs_natCast]
  refine ⟨⟨by rw [Int.natAbs_natCast]; omega, by rw [Int.natAbs_natCast]; omega⟩, ?_⟩
  rw [eN]
  refine ⟨by show (rangeI (lowF P Q) (begF P Q)).length < 100000; rw [rangeI_len]; omega, mapC_ok (fun p => vp P p + (-1) * vp Q p) (fun p hp k' hk => ?_) ?_⟩
  · have hp' : p ∈ rangeI (lowF P Q) (begF P Q) := hp
    obtain ⟨x0, x1⟩ := rangeI_mem hp'
    refine val_ok wP.r0 (by omega) wP.rb (by decide) wP.f0 (by omega) (by omega) (val_ok wQ.r0 (by omega) wQ.rb (by decide) wQ.f0 (by omega) (by omega) ?_)
    exact ⟨wide_mul one_bd (vp_bd wQ (by omega)) (by decide) (by decide) (by decide), hk⟩
  · refine spread_ok wP.r0 (by omega) wP.rb (by decide) (by omega) (spread_ok wQ.r0 (by omega) wQ.rb (by decide) (by omega) ?_)
    refine ⟨by rw [List.length_zip, spr_len, spr_len]; omega, mapC_ok dRow (fun x hx k' hk => ?_) ?_⟩
    · have h2 := rb_spr2 (n := Nat.lcm P.2.2.length Q.2.2.length) wQ.rb (by omega) x.2 (List.of_mem_zip (a := x.1) (b := x.2) hx).2
      exact ⟨wide_mul one_bd h2.1 (by decide) (by decide) (by decide), wide_mul one_bd h2.2.1 (by decide) (by decide) (by decide), wide_mul one_bd h2.2.2 (by decide) (by decide) (by decide), hk⟩
    · rw [List.nil_append, List.nil_append]
      exact q
theorem dif_len {P Q : PT} (wP : WF P) (wQ : WF Q) : (dif P Q).2.1.length ≤ 200 := by
  show ((rangeI (lowF P Q) (begF P Q)).map _).length ≤ 200
  rw [List.length_map, rangeI_len]
  have := beg_lt wP wQ
  omega
theorem sub_ok {P Q : PT} {K : PT → Prop} (wP : WF P) (wQ : WF Q) (q : ∀ F, IsLean (dRows P Q) F → K (lowF P Q, cutE (dif P Q), F)) : M_Form_sub P Q K := by
  have hN := lcm_le' wP wQ
  have hp := lcm_pos' wP.r0 wQ.r0
  have hb := beg_lt wP wQ
  have d0 : 0 < (dRows P Q).length := by rw [dRows_len]; exact hp
  have d1 : (dRows P Q).length ≤ 1000 := by rw [dRows_len]; omega
  obtain ⟨F, hF⟩ := lean_ex (R := dRows P Q) d0
  refine joined_ok wP wQ ?_
  exact fearly_ok (R := dRows P Q) d0 d1 (dRows_bd wP wQ) (by decide) hb.2.1 hb.2.2 (dif_len wP wQ) (frows_ok d0 d1 (dRows_bd wP wQ) (by decide) hF (q F hF))
def dD (P Q : PT) (p : Int) : Int := vp P p - vp Q p
theorem first_lt {P Q : PT} (wP : WF P) (wQ : WF Q) : (∀ p, lowF P Q ≤ p → p < begF P Q + 3 * ((Nat.lcm P.2.2.length Q.2.2.length : Nat) : Int) → dD P Q p = 0) → ∀ p, lowF P Q ≤ p → dD P Q p = 0 := fun h => by
  have hb := beg_lt wP wQ
  have hbl := beg_le P Q
  refine zero_on (A := dRows P Q) (b := begF P Q) (by rw [dRows_len]; exact lcm_pos' wP.r0 wQ.r0) (by omega) (fun p hp => ?_) (by rw [dRows_len]; exact h) hbl.2.2
  unfold dD
  rw [vn_dRows wP.r0 wQ.r0]
  have e2 : vp P p = vn P.2.2 p.toNat := by
    unfold vp
    exact if_neg (by omega)
  have e3 : vp Q p = vn Q.2.2 p.toNat := by
    unfold vp
    exact if_neg (by omega)
  rw [e2, e3]
theorem funlike_ok {P Q : PT} {r : Option Int} {K : Option Int → Prop} (wP : WF P) (wQ : WF Q) (hr : IsFirst (lowF P Q) (dD P Q) r) (q : K r) : M_first_unlike P Q K := by
  refine sub_ok wP wQ fun F hF => ?_
  have hb := beg_lt wP wQ
  have hl := low_le P Q
  have hp := lcm_pos' wP.r0 wQ.r0
  have hF' : IsLean (dif P Q).2.2 F := hF
  have cl : (cutE (dif P Q)).length ≤ 200 := by
    rw [cut_len]
    exact Nat.le_trans (trim_le _ _ _) (dif_len wP wQ)
  have Fl : F.length ≤ 576 := Nat.le_trans (Nat.le_of_dvd (by rw [dRows_len]; exact hp) hF.sp.dvd) (by rw [dRows_len]; exact lcm_le' wP wQ)
  have rF : RB F 260 := rb_sp (by rw [dRows_len]; exact hp) hF.sp (dRows_bd wP wQ)
  have vJ : ∀ p, lowF P Q ≤ p → vp (lowF P Q, cutE (dif P Q), F) p = dD P Q p := fun p h => by
    rw [show vp (lowF P Q, cutE (dif P Q), F) p = vp (dif P Q) p from vp_cutG (P := dif P Q) hb.2.1 hF' h]
    exact vp_dif wP.r0 wQ.r0 wP.f0 h
  refine first_forC (hi := lowF P Q + ((cutE (dif P Q)).length : Int) + 3 * (F.length : Int)) hr (fun h => ?_) (by omega) (fun p p0 p1 k' hne hz => ?_) q
  · refine zero_on (A := F) (b := lowF P Q + ((cutE (dif P Q)).length : Int)) hF.sp.pos (by omega) (fun p hp' => ?_) h (by omega)
    rw [← vJ p (by omega)]
    unfold vp
    exact if_neg (by show ¬ p < lowF P Q + ((cutE (dif P Q)).length : Int); omega)
  · refine val_ok (P := (lowF P Q, cutE (dif P Q), F)) hF.sp.pos (by show F.length ≤ 1000; omega) rF (by decide) hb.2.1 p0 (by omega) ?_
    rw [vJ p p0, eqI]
    by_cases c : dD P Q p = 0
    · rw [if_neg (by rw [decide_eq_true c]; decide)]
      exact hz c
    · rw [if_pos (by rw [decide_eq_false c]; decide)]
      exact hne c
theorem unlike_ok {P Q : PT} {r : Option Int} {K : Option Int → Prop} (wP : WF P) (wQ : WF Q) (hr : IsFirst (lowF P Q) (dD P Q) r) (q : K r) : M_unlike P Q K := by
  have hb := beg_lt wP wQ
  have hbl := beg_le P Q
  have hl := low_le P Q
  have p1 := wP.r1
  have q1 := wQ.r1
  have lm := PySem.W.mc_lcm_le P.2.2.length Q.2.2.length
  have e3 : (3 : Int) * (P.2.2.length : Int) * (Q.2.2.length : Int) = 3 * ((P.2.2.length * Q.2.2.length : Nat) : Int) := by rw [Int.natCast_mul, Int.mul_assoc]
  have mx : max3 (lowF P Q) (P.1 + (P.2.1.length : Int)) (Q.1 + (Q.2.1.length : Int)) = begF P Q := by
    unfold max3 begF
    have := hbl
    unfold begF at this
    split <;> split <;> (try split) <;> (try split at this) <;> omega
  have pl : P.2.2.length * Q.2.2.length ≤ 24 * 24 := Nat.mul_le_mul p1 q1
  refine ⟨wide_mul (a := 20) (b := 20) (by omega) (by omega) (by decide) (by decide) (by decide), ?_⟩
  rw [show (if Q.1 > P.1 then Q.1 else P.1) = lowF P Q from rfl, mx, e3]
  refine first_forC hr (fun h => first_lt wP wQ fun p a b => h p a (by omega)) (by omega) (fun p p0 p1' k' hne hz => ?_) q
  refine vl_ok wP.r0 (by omega) wP.rb (by decide) wP.f0 (by omega) (by omega) (vl_ok wQ.r0 (by omega) wQ.rb (by decide) wQ.f0 (by omega) (by omega) ?_)
  rw [eqI]
  by_cases c : vp P p = vp Q p
  · rw [if_neg (by rw [decide_eq_true c]; decide)]
    exact hz (by unfold dD; omega)
  · rw [if_pos (by rw [decide_eq_false c]; decide)]
    exact hne (by unfold dD; omega)
/-! ### one pair -/
theorem opt_first {P Q : PT} {r : Option Int} (wP : WF P) (wQ : WF Q) (hr : IsFirst (lowF P Q) (dD P Q) r) : ∀ p, r = some p → p.natAbs < 2 ^ 1920 := fun p e => by
  have hb := beg_lt wP wQ
  have hN := lcm_le' wP wQ
  have h1 := hr.lt (first_lt wP wQ) e
  have h0 := (hr.1 p e).1
  exact Nat.lt_of_lt_of_le (show p.natAbs < 2 ^ 62 by omega) (Nat.pow_le_pow_right (by decide) (by decide))
theorem oks_non : OkS (D.v V.non) 1 4 := ⟨rfl, by decide, by decide, by decide, by decide +kernel, by decide⟩
theorem oks_opt {r : Option Int} (h : ∀ p, r = some p → p.natAbs < 2 ^ 1920) : OkS (encO (fun y_ : Int => D.v (V.int y_)) r) 1 1921 := by
  cases r with
  | none => exact oks_non.mono (by decide) (by decide)
  | some p => exact oks_int (h p rfl)
theorem first_swap {P Q : PT} {r : Option Int} (hr : IsFirst (lowF P Q) (dD P Q) r) : IsFirst (lowF Q P) (dD Q P) r := by
  have e : lowF Q P = lowF P Q := by
    unfold lowF
    split <;> split <;> omega
  rw [e]
  exact hr.congr fun x _ => by unfold dD; omega
theorem first_self (P : PT) : IsFirst (lowF P P) (dD P P) none := And.intro (fun p e => by cases e) fun _ x _ => by unfold dD; omega
theorem same_ok {P Q : PT} {r : Option Int} {K : Bool → Prop} (wP : WF P) (wQ : WF Q) (hr : IsFirst (lowF P Q) (dD P Q) r) (q : K r.isNone) : M_same_values P Q K := funlike_ok wP wQ hr q
def lift1 (P : PT) : PT := (P.1, P.2.1.map (fun x => x + 1), P.2.2.map (fun r => ((r.1, r.2.1, r.2.2 + 1) : Row)))
theorem lift_ok {P : PT} {K : PT → Prop} (w : WF P) (q : K (lift1 P)) : M_Form_add P 1 K := by
  show if (!(!false)) = true then False else _
  rw [if_neg (by decide)]
  have e1 := w.e1
  have r1 := w.r1
  refine ⟨by omega, mapC_ok (fun x => x + 1) (fun x hx k' hk => hk) ⟨by omega, mapC_ok (fun r => ((r.1, r.2.1, r.2.2 + 1) : Row)) (fun x hx k' hk => hk) ?_⟩⟩
  rw [List.nil_append, List.nil_append]
  exact q
theorem wf_lift {P : PT} (w : WF0 P) : WF (lift1 P) where
  f0 := w.f0
  f1 := by
    have := w.f1
    show P.1 < 2 ^ 60
    omega
  e1 := by
    show (P.2.1.map _).length ≤ 200
    rw [List.length_map]
    have := w.e1
    omega
  eb := fun v hv => by
    obtain ⟨x, hx, rfl⟩ := List.mem_map.mp hv
    exact bd_mono (bd_add (w.eb x hx) (show ((1 : Int)).natAbs < 2 ^ 40 by decide)) (by decide)
  r0 := by
    show 0 < (P.2.2.map _).length
    rw [List.length_map]
    exact w.r0
  r1 := by
    show (P.2.2.map _).length ≤ 24
    rw [List.length_map]
    have := w.r1
    omega
  rb := fun r hr => by
    obtain ⟨x, hx, rfl⟩ := List.mem_map.mp hr
    have b := w.rb x hx
    exact ⟨bd_mono b.1 (by decide), bd_mono b.2.1 (by decide), bd_mono (bd_add b.2.2 (show ((1 : Int)).natAbs < 2 ^ 40 by decide)) (by decide)⟩
theorem vp_lift {P : PT} (r0 : 0 < P.2.2.length) {p : Int} (hp : P.1 ≤ p) : vp (lift1 P) p = vp P p + 1 := by
  unfold vp
  show (if p < P.1 + (((P.2.1.map (fun x => x + 1)).length : Nat) : Int) then (P.2.1.map (fun x => x + 1)).getD (p - P.1).toNat 0 else vn (P.2.2.map (fun r => ((r.1, r.2.1, r.2.2 + 1) : Row))) p.toNat) = _
  rw [List.length_map]
  by_cases c : p < P.1 + (P.2.1.length : Int)
  · rw [if_pos c, if_pos c, List.getD_eq_getElem?_getD, List.getElem?_map, List.getD_eq_getElem?_getD, List.getElem?_eq_getElem (by omega)]
    rfl
  · rw [if_neg c, if_neg c]
    unfold vn
    rw [List.length_map]
    have hj := Nat.mod_lt p.toNat r0
    have e : rg (P.2.2.map (fun r => ((r.1, r.2.1, r.2.2 + 1) : Row))) (p.toNat % P.2.2.length) = ((rg P.2.2 (p.toNat % P.2.2.length)).1, (rg P.2.2 (p.toNat % P.2.2.length)).2.1, (rg P.2.2 (p.toNat % P.2.2.length)).2.2 + 1) := by
      unfold rg
      rw [List.getD_eq_getElem?_getD, List.getElem?_map, List.getD_eq_getElem?_getD, List.getElem?_eq_getElem hj]
      rfl
    rw [e]
    simp only [rv]
    omega
theorem first_lift {P : PT} (w : WF0 P) : IsFirst (lowF P (lift1 P)) (dD P (lift1 P)) (some P.1) := by
  have e : lowF P (lift1 P) = P.1 := by
    unfold lowF
    exact if_neg (by show ¬ P.1 > P.1; omega)
  rw [e]
  refine And.intro (fun p hp => ?_) (fun z => by cases z)
  cases hp
  refine ⟨Int.le_refl _, ?_, fun x a b => by omega⟩
  unfold dD
  rw [vp_lift w.r0 (Int.le_refl _)]
  omega
theorem areright_ok {P Q : PT} {K : Bool → Prop} (w : WF0 P) (wQ : WF Q) (q : K true) : M_are_right P Q K := by
  have wP := w.wf
  obtain ⟨r, hr⟩ := first_ex (lowF P Q) (dD P Q)
  have hs := first_swap hr
  have hb := opt_first wP wQ hr
  refine form_ok wP (form_ok wQ (unlike_ok wP wQ hr (funlike_ok wP wQ hr (funlike_ok wQ wP hs (funlike_ok wP wQ hr ?_)))))
  have e : sizeLine = 16777216 := sizeLine_eq
  have e3 : List.flatten (List.replicate (Int.toNat (3 : Int)) ([r] : List (Option Int))) = [r, r, r] := rfl
  have e4 : List.flatten (List.replicate (Int.toNat (3 : Int)) ([r.isNone] : List Bool)) = [r.isNone, r.isNone, r.isNone] := rfl
  rw [e3]
  have o3 : OkS (D.lst (([r, r, r] : List (Option Int)).map (fun y_ : (Option Int) => (encO (fun y_ : Int => (D.v (V.int y_))) y_)))) 2 5771 := oks_map (k := 1) (n := 1921) (m := 3) (fun x hx => by
    simp only [List.mem_cons, List.not_mem_nil, or_false] at hx
    rcases hx with rfl | rfl | rfl <;> exact oks_opt hb) (by simp)
  have g3 := o3.rp (by decide) (by decide)
  refine ⟨g3, ⟨by decide, by decide, by rw [e]; exact (by decide : 1 * 3 ≤ 16777216)⟩, g3, ?_⟩
  rw [if_neg (by simp)]
  refine same_ok wP wQ hr (same_ok wQ wP hs (same_ok wP wQ hr ?_))
  rw [e4]
  have o4 : OkS (D.lst (([r.isNone, r.isNone, r.isNone] : List Bool).map (fun y_ : Bool => (D.v (V.bl y_))))) 2 23 := oks_map (k := 1) (n := 5) (m := 3) (fun x hx => oks_bl x) (by simp)
  have g4 := o4.rp (by decide) (by decide)
  refine ⟨g4, ⟨by decide, by decide, by rw [e]; exact (by decide : 1 * 3 ≤ 16777216)⟩, g4, ?_⟩
  rw [if_neg (by simp)]
  refine same_ok wP wP (first_self P) ?_
  rw [if_neg (by decide)]
  refine funlike_ok wQ wQ (first_self Q) ?_
  rw [if_pos (show (none : Option Int).isNone = true from rfl)]
  refine lift_ok wP (funlike_ok wP (wf_lift w) (first_lift w) ?_)
  have : decide (optV V.int (some P.1) = V.int P.1) = true := decide_eq_true rfl
  rw [this]
  exact q
/-! ### what stands beside, and the whole law -/
theorem cut_dropM {α : Type} (xs : List α) {k : Int} (h : 0 ≤ k) : cutM xs (some k) none = xs.drop k.toNat := by
  obtain ⟨n, rfl⟩ := Int.eq_ofNat_of_zero_le h
  unfold cutM
  rw [HT.sIx_none, HT.sIx_nat, Int.toNat_natCast]
  by_cases c : n ≤ xs.length
  · rw [Nat.min_eq_left c, List.take_of_length_le (by rw [List.length_drop]; omega)]
  · rw [Nat.min_eq_right (by omega), Nat.sub_self, List.take_zero, List.drop_of_length_le (by omega)]
structure WL (P : PT) : Prop where
  f0 : 0 ≤ P.1
  f1 : P.1 < 2 ^ 59
  e1 : P.2.1.length ≤ 60
  eb : ∀ v ∈ P.2.1, v.natAbs < 2 ^ 350
  r0 : 0 < P.2.2.length
  r1 : P.2.2.length ≤ 24
  rb : RB P.2.2 90
theorem WL.wf {P : PT} (w : WL P) : WF P := ⟨w.f0, by have := w.f1; omega, by have := w.e1; omega, fun v hv => bd_mono (w.eb v hv) (by decide), w.r0, w.r1, rb_mono w.rb (by decide)⟩
theorem later_ok {P : PT} {m : Int} {K : PT → Prop} (w : WL P) (m0 : 0 ≤ m) (m1 : m ≤ 100) (q : ∀ S, WF S → K S) : M_later P m K := by
  show K (P.1 + m, cutM P.2.1 (some m) none, P.2.2)
  rw [cut_dropM _ m0]
  have f0 := w.f0
  have f1 := w.f1
  refine q _ ⟨by show 0 ≤ P.1 + m; omega, by show P.1 + m < 2 ^ 60; omega, ?_, fun v hv => bd_mono (w.eb v (List.mem_of_mem_drop hv)) (by decide), w.r0, w.r1, rb_mono w.rb (by decide)⟩
  show (P.2.1.drop m.toNat).length ≤ 200
  rw [List.length_drop]
  have := w.e1
  omega
theorem Wider.wl {P W : PT} (w : WF0 P) (h : Wider P W) : WL W := by
  obtain ⟨wW, l, eb, rb⟩ := h.wf w
  exact ⟨wW.f0, by rw [h.f]; exact w.f1, l, fun v hv => bd_mono (eb v hv) (by decide), wW.r0, wW.r1, rb⟩
theorem tail_ok {W : PT} {r : Int} {K : PT → Prop} (w : WL W) (q : ∀ S, WF S → K S) :
    if (decide (V.int r = V.int (1 : Int))) = true then (M_draw (W.2.2.length : Int) fun r129 => (CDivW W.1 (W.2.2.length : Int) ∧ (M_draw (4 : Int) fun r135 => (∃ y140, atI W.2.2 r129 = some y140 ∧ (M_draw (2 : Int) fun r158 => (CMulW ((W.1 / (W.2.2.length : Int)) + r135) ((((W.1 / (W.2.2.length : Int)) + r135) + (1 : Int)) + r158) ∧ (M_pick_pltiii ([(y140.1, (y140.2.1 + (1 : Int)), (y140.2.2 - ((W.1 / (W.2.2.length : Int)) + r135))), ((y140.1 + (1 : Int)), ((y140.2.1 - ((W.1 / (W.2.2.length : Int)) + r135)) - ((((W.1 / (W.2.2.length : Int)) + r135) + (1 : Int)) + r158)), (y140.2.2 + (((W.1 / (W.2.2.length : Int)) + r135) * ((((W.1 / (W.2.2.length : Int)) + r135) + (1 : Int)) + r158)))), (y140.1, y140.2.1, (y140.2.2 + (1 : Int)))] : List (Int × Int × Int)) fun r188 => (0 ≤ r129 ∧ Int.toNat r129 < W.2.2.length ∧ (K (W.1, W.2.1, (W.2.2.set (Int.toNat r129) r188))))))))))) else (if (decide (V.int r = V.int (2 : Int))) = true then (M_parts (6 : Int) fun r207 => (K r207)) else (M_draw ((W.2.1.length : Int) + (5 : Int)) fun r212 => (M_later (W.1, W.2.1, W.2.2) r212 fun r218 => (K r218)))) := by
  have r0 := w.r0
  have r1 := w.r1
  have f0 := w.f0
  have f1 := w.f1
  have e1 := w.e1
  split
  · refine drawW_ok (by omega) (by rw [Int.natAbs_natCast]; omega) fun d d0 d1 => ⟨⟨by omega, log_lt (a := 20) (by decide) (by rw [Int.natAbs_natCast]; omega) (by decide)⟩, drawW_ok (by decide) (by decide) fun g g0 g1 => ⟨_, at_pos (d := ((0, 0, 0) : Row)) d0 (by omega), ?_⟩⟩
    have b := w.rb _ (getD_mem (xs := W.2.2) (j := d.toNat) (d := ((0, 0, 0) : Row)) (by omega))
    generalize W.2.2.getD d.toNat (0, 0, 0) = y at *
    have q0 : 0 ≤ W.1 / (W.2.2.length : Int) := Int.ediv_nonneg f0 (by omega)
    have q1 : W.1 / (W.2.2.length : Int) ≤ W.1 := Int.ediv_le_self _ f0
    generalize W.1 / (W.2.2.length : Int) = z at *
    refine drawW_ok (by decide) (by decide) fun t t0 t1 => ?_
    have rb1 : (z + g).natAbs < 2 ^ 61 := by omega
    have rb2 : (z + g + 1 + t).natAbs < 2 ^ 61 := by omega
    refine ⟨wide_mul rb1 rb2 (by decide) (by decide) (by decide), pickR_ok (by simp) (by simp) fun x hx => ⟨d0, by omega, q _ ⟨f0, by show W.1 < 2 ^ 60; omega, by show W.2.1.length ≤ 200; omega, fun v hv => bd_mono (w.eb v hv) (by decide), by show 0 < (W.2.2.set d.toNat x).length; rw [List.length_set]; exact r0, by show (W.2.2.set d.toNat x).length ≤ 24; rw [List.length_set]; exact r1, fun r hr => ?_⟩⟩⟩
    have add_ : ∀ {u v : Int} {i : Nat}, u.natAbs < 2 ^ 150 → v.natAbs < 2 ^ 150 → (u + v).natAbs < 2 ^ 151 := fun hu hv => bd_add hu hv
    have pb := bd_mul rb1 rb2
    rcases set_mem hr with h | rfl
    · have c := w.rb r h
      exact ⟨bd_mono c.1 (by decide), bd_mono c.2.1 (by decide), bd_mono c.2.2 (by decide)⟩
    · have b1 := b.1
      have b2 := b.2.1
      have b3 := b.2.2
      have one : ((1 : Int)).natAbs < 2 ^ 90 := by decide
      have n1 : (-(z + g)).natAbs < 2 ^ 90 := by rw [Int.natAbs_neg]; exact bd_mono rb1 (by decide)
      have n2 : (-(z + g + 1 + t)).natAbs < 2 ^ 91 := by rw [Int.natAbs_neg]; exact bd_mono rb2 (by decide)
      simp only [List.mem_cons, List.not_mem_nil, or_false] at hx
      rcases hx with rfl | rfl | rfl
      · refine ⟨bd_mono b1 (by decide), bd_mono (bd_add b2 one) (by decide), ?_⟩
        show (y.2.2 - (z + g)).natAbs < 2 ^ 200
        rw [Int.sub_eq_add_neg]
        exact bd_mono (bd_add b3 n1) (by decide)
      · refine ⟨bd_mono (bd_add b1 one) (by decide), ?_, ?_⟩
        · show (y.2.1 - (z + g) - (z + g + 1 + t)).natAbs < 2 ^ 200
          rw [Int.sub_eq_add_neg, Int.sub_eq_add_neg]
          exact bd_mono (bd_add (bd_add b2 n1) n2) (by decide)
        · exact bd_mono (bd_add (bd_mono b3 (by decide)) pb) (by decide)
      · exact ⟨bd_mono b1 (by decide), bd_mono b2 (by decide), bd_mono (bd_add b3 one) (by decide)⟩
  · split
    · exact parts_ok fun P h => q P h.wf
    · exact drawW_ok (by omega) (by omega) fun m m0 m1 => later_ok w m0 (by omega) q
theorem beside_ok {P : PT} {K : PT → Prop} (w : WF0 P) (q : ∀ S, WF S → K S) : M_beside P K := by
  refine drawW_ok (by decide) (by decide) fun r r0 r1 => pick_ok (by simp) (by simp) fun t ht => drawW_ok (by decide) (by decide) fun m m0 m1 => ?_
  have tb : 1 ≤ t ∧ t ≤ 4 := by
    simp only [List.mem_cons, List.not_mem_nil, or_false] at ht
    rcases ht with rfl | rfl | rfl <;> decide
  refine wider_ok w tb.1 tb.2 m0 (by omega) fun W hW => ?_
  have wl := hW.wl w
  split
  · refine ⟨⟨ints_plain _, ints_plain [], ints_shaped _, ints_shaped []⟩, ?_⟩
    rw [show ∀ a b : List Int, PyData.eqv (pyOf (D.lst (a.map fun y_ : Int => D.v (V.int y_)))) (pyOf (D.lst (b.map fun y_ : Int => D.v (V.int y_)))) = decide (a = b) from fun a b => eqv_int]
    by_cases c : W.2.1 = []
    · rw [if_neg (by rw [decide_eq_true c]; decide)]
      exact tail_ok wl q
    · rw [if_pos (by rw [decide_eq_false c]; decide)]
      have l0 : 0 < W.2.1.length := List.length_pos_iff.mpr c
      have e1 := wl.e1
      refine drawW_ok (by omega) (by omega) fun d d0 d1 => ⟨_, at_pos (d := (0 : Int)) d0 (by omega), ?_⟩
      have e20 : (10 : Int) ^ Int.toNat 20 = 100000000000000000000 := by decide
      refine pick_ok (by simp) (by simp) fun x hx => ⟨d0, by omega, drawW_ok (by omega) (by rw [List.length_set]; omega) fun g g0 g1 => later_ok (P := (W.1, _, W.2.2)) ⟨wl.f0, wl.f1, by show (W.2.1.set d.toNat _).length ≤ 60; rw [List.length_set]; exact e1, fun v hv => ?_, wl.r0, wl.r1, wl.rb⟩ g0 (by rw [List.length_set] at g1; omega) q⟩
      rcases set_mem hv with z | rfl
      · exact wl.eb v z
      · have xb : x.natAbs < 2 ^ 300 := by
          rw [e20] at hx
          simp only [List.mem_cons, List.not_mem_nil, or_false] at hx
          rcases hx with rfl | rfl | rfl <;> exact Nat.lt_of_lt_of_le (by decide : _ < 2 ^ 70) (Nat.pow_le_pow_right (by decide) (by decide))
        have yb := (hW.wf w).2.2.1 _ (getD_mem (xs := W.2.1) (j := d.toNat) (d := (0 : Int)) (by omega))
        exact bd_mono (bd_add yb xb) (by decide)
  · exact tail_ok wl q
theorem right_true : M_right fun r => r = true := by
  refine forC_ok (fun _ => True) (fun x hx s k' _ hk => ?_) trivial (fun s _ => rfl)
  refine parts_ok fun P w => beside_ok w fun Q wQ => areright_ok w wQ ?_
  rw [if_neg (by decide)]
  exact hk () trivial

def sp_law (K : PySem.W.Frag) : Sp := fun vs H Q _ => ∃ (a : Addr) (ns : List Int), vs = [.ref a] ∧ SqL K H a (ns.map V.int) ∧ ns.length ≤ 63 ∧ ∀ H1 : Hp, Q (.bl true) H1
theorem law_enter {K : PySem.W.Frag} {H : Hp} {a : Addr} {ns : List Int} (hl : ns.length ≤ 63) (_ : Only H) (hS : SqL K H a (ns.map V.int)) : sp_law K [.ref a] H (fun v _ => v = .bl true) fun _ _ _ => False := ⟨a, ns, rfl, hS, hl, fun _ => rfl⟩
theorem sq_keep {K : PySem.W.Frag} {H H1 : Hp} {a : Addr} {xs : List V} (k : ∀ b o, H b = some o → H1 b = some o) (h : SqL K H a xs) : SqL K H1 a xs := by
  rcases h with (h | ⟨o, h⟩) | h
  · exact .inl (.inl (k _ _ h))
  · exact .inl (.inr ⟨o, k _ _ h⟩)
  · exact .inr h
theorem ok_law {P : Program} {w : World} {K : PySem.W.Frag} {mg : Str → Option Value} {base : Heap} {A : Ad} (T : Txt w K mg A) : FnG P w K mg base 11 A.a_law A.d_law ["_law_script"] (sp_law K) := by
  refine okG T.F_law sc_law (fun vs H Q E h => ?_) (fun cdv A_ outer s_ H_0 vs Q E gu hr h => ?_)
  · obtain ⟨a, ns, rfl, _⟩ := h
    rfl
  · obtain ⟨a, ns, rfl, hS, hl, hQ⟩ := h
    refine ⟨_, pss_one (ps_ret (pe_callB (cr_all rfl) (by rfl) T.z_all (by decide +kernel) (pa_cons (pe_lc (own := [("_law_k", 1)]) (g := gName 1) rfl sc_law.nd
      (pi_range1 (by rfl) T.z_range (pa_cons (pe_callB (call_max2 rfl) (by rfl) T.z_max (by decide +kernel) (pa_cons pe_int (pa_cons (pe_callB (call_min2 rfl) (by rfl) T.z_min (by decide +kernel) (pa_cons pe_int (pa_cons (pe_callB call_len (by rfl) T.z_len PySem.boot_len (pa_cons (pv 0) pa_nil)) pa_nil))) pa_nil))) pa_nil))
      (blkOk_by (N := ["_law_script", "_law_k"]) (sc := defScope s_law) (by decide +kernel)) (fun _ _ _ _ _ => pg_name (i := 1) sc_law.nd rfl (by first | exact Or.inl rfl | exact Or.inr rfl)) (fun _ _ _ _ _ => pts_nil)
      (fun _ _ _ _ _ => pe_callG (ok_right T) gu (hr.mono (by decide)) (by rfl) T.g_right T.F_right.kp T.b_right (pa_cons (pe_call (ok_pot T) (hr.mono (by decide)) (by rfl) T.g_pot T.F_pot.kp T.b_pot .nil pass0 (pa_cons (pv 0) (pa_cons (pv 1) pa_nil))) pa_nil))) pa_nil))), ?_⟩
    refine ⟨_, rfl, _, ns.length, rfl, .inl ⟨_, hS, by rw [List.length_map]⟩, _, _, rfl, _, _, rfl, _, rfl, ?_, ?_, fun L nl => ?_⟩
    · split <;> split <;> omega
    · split <;> split <;> omega
    have hsq : ∀ H : Hp, (∀ o, H_0 a = some o → H a = some o) → SqL K H a (ns.map V.int) := fun H k => by
      rcases hS with (h | ⟨o, h⟩) | h
      · exact .inl (.inl (k _ h))
      · exact .inl (.inr ⟨o, k _ h⟩)
      · exact .inr h
    refine lc_range (lo := 0) (fun i H => (∀ o, H_0 a = some o → H a = some o) ∧ ∃ n, n ≤ i ∧ H L = some (.lst (List.replicate n (.bl true)))) ⟨fun o h => (Rx.Ext.new nl).keep h, 0, Nat.le_refl _, upd_same⟩ (fun i H hi ⟨hS1, n, hn, hL⟩ => ?_) (fun H ⟨hS1, n, hn, hL⟩ => ?_)
    · refine ⟨rfl, ?_⟩
      refine tyes_of ?_
      have hi4 : i < 64 := by
        refine Nat.lt_of_lt_of_le hi ?_
        split <;> split <;> omega
      refine ⟨_, rfl, _, rfl, a, ns, 0 + (i : Int), rfl, hsq H hS1, hl, by omega, by omega, fun p H1 i1 j1 np e1 hp hj => ?_⟩
      refine ⟨[p], p, fun r => r = true, rfl, ⟨fun _ _ _ h => h, fun _ h => h, fun m hm => ?_, fun b hb => ?_, fun b hb => hb, fun c hc => absurd hc List.not_mem_nil⟩, right_true, fun r u H2 hr2 e2 hu => ?_⟩
      · rw [List.mem_singleton.mp hm, hp]
        exact fun z => nomatch z
      · rw [List.mem_singleton.mp hb]
        exact ⟨i1, j1, hp, hj⟩
      · obtain rfl := of_v hu
        have e3 : ∀ b o, H b = some o → H2 b = some o := fun b o h => e2.kp b o (fun z => by
          rw [List.mem_singleton.mp z, np] at h
          cases h) (e1.keep h)
        refine ⟨_, e3 _ _ hL, ?_, fun o h => ?_, n + 1, Nat.succ_le_succ hn, by rw [upd_same, hr2, List.replicate_succ']⟩
        · rw [List.length_replicate]
          exact Nat.lt_of_le_of_lt (show n ≤ 64 by omega) (by decide)
        · rw [upd_ne (ne_of_none h nl)]
          exact e3 _ _ (hS1 _ h)
    · refine ⟨L, List.replicate n true, rfl, .inl (.inl (by rw [List.map_replicate]; exact hL)), ?_⟩
      have : (List.replicate n true).all id = true := by
        rw [List.all_eq_true]
        intro x hx
        rw [(List.mem_replicate.mp hx).2]
        rfl
      rw [this]
      exact hQ _

theorem all_mk {l : PySem.W.OpenLaw} {w : World} {K : PySem.W.Frag} {h : Heap} {mg : Str → Option Value} {fa Adraw Apick Ainteger Aparts AvalueL Awider Alater Abeside Ais_integer Ais_count Acheck_first Ais_list Acheck_values Ais_row Acheck_rows Acheck_parts AForm_init Aform Aunlike AForm_first AForm_begin AForm_period Arow_value Aplace_value Avalue Aspread_row Aspread AReckoned_init Areckoned_form Ajoined Afewest_early Afolded Afewest_rows AForm_reduced AForm_sub Afirst_unlike Asame_values Achecked Alifted AForm_add Aare_right Aright Apot Alaw CForm CReckoned : Addr} (X : K.In h) (G : h.Ns mainGlobals mg) (hfa : mg "law" = some (.ref fa))
    {oddraw andraw : Option Addr} {sldraw : Array (Option Value)} {ocdraw kVdraw dcdraw pmdraw cddraw ctdraw : Value}
    {odpick anpick : Option Addr} {slpick : Array (Option Value)} {ocpick kVpick dcpick pmpick cdpick ctpick : Value}
    {odinteger aninteger : Option Addr} {slinteger : Array (Option Value)} {ocinteger kVinteger dcinteger pminteger cdinteger ctinteger : Value}
    {odparts anparts : Option Addr} {slparts : Array (Option Value)} {ocparts kVparts dcparts pmparts cdparts ctparts : Value}
    {odvalueL anvalueL : Option Addr} {slvalueL : Array (Option Value)} {ocvalueL kVvalueL dcvalueL pmvalueL cdvalueL ctvalueL : Value}
    {odwider anwider : Option Addr} {slwider : Array (Option Value)} {ocwider kVwider dcwider pmwider cdwider ctwider : Value}
    {odlater anlater : Option Addr} {sllater : Array (Option Value)} {oclater kVlater dclater pmlater cdlater ctlater : Value}
    {odbeside anbeside : Option Addr} {slbeside : Array (Option Value)} {ocbeside kVbeside dcbeside pmbeside cdbeside ctbeside : Value}
    {odis_integer anis_integer : Option Addr} {slis_integer : Array (Option Value)} {ocis_integer kVis_integer dcis_integer pmis_integer cdis_integer ctis_integer : Value}
    {odis_count anis_count : Option Addr} {slis_count : Array (Option Value)} {ocis_count kVis_count dcis_count pmis_count cdis_count ctis_count : Value}
    {odcheck_first ancheck_first : Option Addr} {slcheck_first : Array (Option Value)} {occheck_first kVcheck_first dccheck_first pmcheck_first cdcheck_first ctcheck_first : Value}
    {odis_list anis_list : Option Addr} {slis_list : Array (Option Value)} {ocis_list kVis_list dcis_list pmis_list cdis_list ctis_list : Value}
    {odcheck_values ancheck_values : Option Addr} {slcheck_values : Array (Option Value)} {occheck_values kVcheck_values dccheck_values pmcheck_values cdcheck_values ctcheck_values : Value}
    {odis_row anis_row : Option Addr} {slis_row : Array (Option Value)} {ocis_row kVis_row dcis_row pmis_row cdis_row ctis_row : Value}
    {odcheck_rows ancheck_rows : Option Addr} {slcheck_rows : Array (Option Value)} {occheck_rows kVcheck_rows dccheck_rows pmcheck_rows cdcheck_rows ctcheck_rows : Value}
    {odcheck_parts ancheck_parts : Option Addr} {slcheck_parts : Array (Option Value)} {occheck_parts kVcheck_parts dccheck_parts pmcheck_parts cdcheck_parts ctcheck_parts : Value}
    {odForm_init anForm_init : Option Addr} {slForm_init : Array (Option Value)} {ocForm_init kVForm_init dcForm_init pmForm_init cdForm_init ctForm_init : Value}
    {odform anform : Option Addr} {slform : Array (Option Value)} {ocform kVform dcform pmform cdform ctform : Value}
    {odunlike anunlike : Option Addr} {slunlike : Array (Option Value)} {ocunlike kVunlike dcunlike pmunlike cdunlike ctunlike : Value}
    {PForm_first : Addr}
    {RForm_first : List Value}
    {odForm_first anForm_first : Option Addr} {slForm_first : Array (Option Value)} {ocForm_first kVForm_first dcForm_first pmForm_first cdForm_first ctForm_first : Value}
    {PForm_begin : Addr}
    {RForm_begin : List Value}
    {odForm_begin anForm_begin : Option Addr} {slForm_begin : Array (Option Value)} {ocForm_begin kVForm_begin dcForm_begin pmForm_begin cdForm_begin ctForm_begin : Value}
    {PForm_period : Addr}
    {RForm_period : List Value}
    {odForm_period anForm_period : Option Addr} {slForm_period : Array (Option Value)} {ocForm_period kVForm_period dcForm_period pmForm_period cdForm_period ctForm_period : Value}
    {odrow_value anrow_value : Option Addr} {slrow_value : Array (Option Value)} {ocrow_value kVrow_value dcrow_value pmrow_value cdrow_value ctrow_value : Value}
    {odplace_value anplace_value : Option Addr} {slplace_value : Array (Option Value)} {ocplace_value kVplace_value dcplace_value pmplace_value cdplace_value ctplace_value : Value}
    {odvalue anvalue : Option Addr} {slvalue : Array (Option Value)} {ocvalue kVvalue dcvalue pmvalue cdvalue ctvalue : Value}
    {odspread_row anspread_row : Option Addr} {slspread_row : Array (Option Value)} {ocspread_row kVspread_row dcspread_row pmspread_row cdspread_row ctspread_row : Value}
    {odspread anspread : Option Addr} {slspread : Array (Option Value)} {ocspread kVspread dcspread pmspread cdspread ctspread : Value}
    {odReckoned_init anReckoned_init : Option Addr} {slReckoned_init : Array (Option Value)} {ocReckoned_init kVReckoned_init dcReckoned_init pmReckoned_init cdReckoned_init ctReckoned_init : Value}
    {odreckoned_form anreckoned_form : Option Addr} {slreckoned_form : Array (Option Value)} {ocreckoned_form kVreckoned_form dcreckoned_form pmreckoned_form cdreckoned_form ctreckoned_form : Value}
    {odjoined anjoined : Option Addr} {sljoined : Array (Option Value)} {ocjoined kVjoined dcjoined pmjoined cdjoined ctjoined : Value}
    {odfewest_early anfewest_early : Option Addr} {slfewest_early : Array (Option Value)} {ocfewest_early kVfewest_early dcfewest_early pmfewest_early cdfewest_early ctfewest_early : Value}
    {odfolded anfolded : Option Addr} {slfolded : Array (Option Value)} {ocfolded kVfolded dcfolded pmfolded cdfolded ctfolded : Value}
    {odfewest_rows anfewest_rows : Option Addr} {slfewest_rows : Array (Option Value)} {ocfewest_rows kVfewest_rows dcfewest_rows pmfewest_rows cdfewest_rows ctfewest_rows : Value}
    {odForm_reduced anForm_reduced : Option Addr} {slForm_reduced : Array (Option Value)} {ocForm_reduced kVForm_reduced dcForm_reduced pmForm_reduced cdForm_reduced ctForm_reduced : Value}
    {odForm_sub anForm_sub : Option Addr} {slForm_sub : Array (Option Value)} {ocForm_sub kVForm_sub dcForm_sub pmForm_sub cdForm_sub ctForm_sub : Value}
    {odfirst_unlike anfirst_unlike : Option Addr} {slfirst_unlike : Array (Option Value)} {ocfirst_unlike kVfirst_unlike dcfirst_unlike pmfirst_unlike cdfirst_unlike ctfirst_unlike : Value}
    {odsame_values ansame_values : Option Addr} {slsame_values : Array (Option Value)} {ocsame_values kVsame_values dcsame_values pmsame_values cdsame_values ctsame_values : Value}
    {odchecked anchecked : Option Addr} {slchecked : Array (Option Value)} {occhecked kVchecked dcchecked pmchecked cdchecked ctchecked : Value}
    {odlifted anlifted : Option Addr} {sllifted : Array (Option Value)} {oclifted kVlifted dclifted pmlifted cdlifted ctlifted : Value}
    {odForm_add anForm_add : Option Addr} {slForm_add : Array (Option Value)} {ocForm_add kVForm_add dcForm_add pmForm_add cdForm_add ctForm_add : Value}
    {odare_right anare_right : Option Addr} {slare_right : Array (Option Value)} {ocare_right kVare_right dcare_right pmare_right cdare_right ctare_right : Value}
    {odright anright : Option Addr} {slright : Array (Option Value)} {ocright kVright dcright pmright cdright ctright : Value}
    {odpot anpot : Option Addr} {slpot : Array (Option Value)} {ocpot kVpot dcpot pmpot cdpot ctpot : Value}
    {odlaw anlaw : Option Addr} {sllaw : Array (Option Value)} {oclaw kVlaw dclaw pmlaw cdlaw ctlaw : Value}
    {RForm_Add : Addr}
    {foForm_Add roForm_Add : Option Value}
    {tMOST_ROWS : Tok}
    {tMOST_VALUES : Tok}
    (a_draw : PySem.W.nsIn K mainGlobals "_law_draw" = some (some (.ref Adraw)))
    (l_draw : K.lookup Adraw = some ⟨ocdraw, oddraw, .func (PySem.W.fnOf "_law_draw" "_law_draw" (defArgs s_draw) (defBody s_draw) (defScope s_draw) .none kVdraw dcdraw pmdraw andraw cddraw ctdraw), sldraw⟩)
    (o_draw : PySem.W.codeIn K cddraw "_law_draw" = true)
    (k_draw : PySem.W.keepIn K (.ref Adraw) = true)
    (a_pick : PySem.W.nsIn K mainGlobals "_law_pick" = some (some (.ref Apick)))
    (l_pick : K.lookup Apick = some ⟨ocpick, odpick, .func (PySem.W.fnOf "_law_pick" "_law_pick" (defArgs s_pick) (defBody s_pick) (defScope s_pick) .none kVpick dcpick pmpick anpick cdpick ctpick), slpick⟩)
    (o_pick : PySem.W.codeIn K cdpick "_law_pick" = true)
    (k_pick : PySem.W.keepIn K (.ref Apick) = true)
    (a_integer : PySem.W.nsIn K mainGlobals "_law_integer" = some (some (.ref Ainteger)))
    (l_integer : K.lookup Ainteger = some ⟨ocinteger, odinteger, .func (PySem.W.fnOf "_law_integer" "_law_integer" (defArgs s_integer) (defBody s_integer) (defScope s_integer) .none kVinteger dcinteger pminteger aninteger cdinteger ctinteger), slinteger⟩)
    (o_integer : PySem.W.codeIn K cdinteger "_law_integer" = true)
    (k_integer : PySem.W.keepIn K (.ref Ainteger) = true)
    (a_parts : PySem.W.nsIn K mainGlobals "_law_parts" = some (some (.ref Aparts)))
    (l_parts : K.lookup Aparts = some ⟨ocparts, odparts, .func (PySem.W.fnOf "_law_parts" "_law_parts" (defArgs s_parts) (defBody s_parts) (defScope s_parts) .none kVparts dcparts pmparts anparts cdparts ctparts), slparts⟩)
    (o_parts : PySem.W.codeIn K cdparts "_law_parts" = true)
    (k_parts : PySem.W.keepIn K (.ref Aparts) = true)
    (a_valueL : PySem.W.nsIn K mainGlobals "_law_value" = some (some (.ref AvalueL)))
    (l_valueL : K.lookup AvalueL = some ⟨ocvalueL, odvalueL, .func (PySem.W.fnOf "_law_value" "_law_value" (defArgs s_valueL) (defBody s_valueL) (defScope s_valueL) .none kVvalueL dcvalueL pmvalueL anvalueL cdvalueL ctvalueL), slvalueL⟩)
    (o_valueL : PySem.W.codeIn K cdvalueL "_law_value" = true)
    (k_valueL : PySem.W.keepIn K (.ref AvalueL) = true)
    (a_wider : PySem.W.nsIn K mainGlobals "_law_wider" = some (some (.ref Awider)))
    (l_wider : K.lookup Awider = some ⟨ocwider, odwider, .func (PySem.W.fnOf "_law_wider" "_law_wider" (defArgs s_wider) (defBody s_wider) (defScope s_wider) .none kVwider dcwider pmwider anwider cdwider ctwider), slwider⟩)
    (o_wider : PySem.W.codeIn K cdwider "_law_wider" = true)
    (k_wider : PySem.W.keepIn K (.ref Awider) = true)
    (a_later : PySem.W.nsIn K mainGlobals "_law_later" = some (some (.ref Alater)))
    (l_later : K.lookup Alater = some ⟨oclater, odlater, .func (PySem.W.fnOf "_law_later" "_law_later" (defArgs s_later) (defBody s_later) (defScope s_later) .none kVlater dclater pmlater anlater cdlater ctlater), sllater⟩)
    (o_later : PySem.W.codeIn K cdlater "_law_later" = true)
    (k_later : PySem.W.keepIn K (.ref Alater) = true)
    (a_beside : PySem.W.nsIn K mainGlobals "_law_beside" = some (some (.ref Abeside)))
    (l_beside : K.lookup Abeside = some ⟨ocbeside, odbeside, .func (PySem.W.fnOf "_law_beside" "_law_beside" (defArgs s_beside) (defBody s_beside) (defScope s_beside) .none kVbeside dcbeside pmbeside anbeside cdbeside ctbeside), slbeside⟩)
    (o_beside : PySem.W.codeIn K cdbeside "_law_beside" = true)
    (k_beside : PySem.W.keepIn K (.ref Abeside) = true)
    (a_is_integer : PySem.W.nsIn K mainGlobals "is_integer" = some (some (.ref Ais_integer)))
    (l_is_integer : K.lookup Ais_integer = some ⟨ocis_integer, odis_integer, .func (PySem.W.fnOf "is_integer" "is_integer" (defArgs s_is_integer) (defBody s_is_integer) (defScope s_is_integer) .none kVis_integer dcis_integer pmis_integer anis_integer cdis_integer ctis_integer), slis_integer⟩)
    (o_is_integer : PySem.W.codeIn K cdis_integer "is_integer" = true)
    (k_is_integer : PySem.W.keepIn K (.ref Ais_integer) = true)
    (a_is_count : PySem.W.nsIn K mainGlobals "is_count" = some (some (.ref Ais_count)))
    (l_is_count : K.lookup Ais_count = some ⟨ocis_count, odis_count, .func (PySem.W.fnOf "is_count" "is_count" (defArgs s_is_count) (defBody s_is_count) (defScope s_is_count) .none kVis_count dcis_count pmis_count anis_count cdis_count ctis_count), slis_count⟩)
    (o_is_count : PySem.W.codeIn K cdis_count "is_count" = true)
    (k_is_count : PySem.W.keepIn K (.ref Ais_count) = true)
    (a_check_first : PySem.W.nsIn K mainGlobals "_check_first" = some (some (.ref Acheck_first)))
    (l_check_first : K.lookup Acheck_first = some ⟨occheck_first, odcheck_first, .func (PySem.W.fnOf "_check_first" "_check_first" (defArgs s_check_first) (defBody s_check_first) (defScope s_check_first) .none kVcheck_first dccheck_first pmcheck_first ancheck_first cdcheck_first ctcheck_first), slcheck_first⟩)
    (o_check_first : PySem.W.codeIn K cdcheck_first "_check_first" = true)
    (k_check_first : PySem.W.keepIn K (.ref Acheck_first) = true)
    (a_is_list : PySem.W.nsIn K mainGlobals "is_list" = some (some (.ref Ais_list)))
    (l_is_list : K.lookup Ais_list = some ⟨ocis_list, odis_list, .func (PySem.W.fnOf "is_list" "is_list" (defArgs s_is_list) (defBody s_is_list) (defScope s_is_list) .none kVis_list dcis_list pmis_list anis_list cdis_list ctis_list), slis_list⟩)
    (o_is_list : PySem.W.codeIn K cdis_list "is_list" = true)
    (k_is_list : PySem.W.keepIn K (.ref Ais_list) = true)
    (a_check_values : PySem.W.nsIn K mainGlobals "_check_values" = some (some (.ref Acheck_values)))
    (l_check_values : K.lookup Acheck_values = some ⟨occheck_values, odcheck_values, .func (PySem.W.fnOf "_check_values" "_check_values" (defArgs s_check_values) (defBody s_check_values) (defScope s_check_values) .none kVcheck_values dccheck_values pmcheck_values ancheck_values cdcheck_values ctcheck_values), slcheck_values⟩)
    (o_check_values : PySem.W.codeIn K cdcheck_values "_check_values" = true)
    (k_check_values : PySem.W.keepIn K (.ref Acheck_values) = true)
    (a_is_row : PySem.W.nsIn K mainGlobals "_is_row" = some (some (.ref Ais_row)))
    (l_is_row : K.lookup Ais_row = some ⟨ocis_row, odis_row, .func (PySem.W.fnOf "_is_row" "_is_row" (defArgs s_is_row) (defBody s_is_row) (defScope s_is_row) .none kVis_row dcis_row pmis_row anis_row cdis_row ctis_row), slis_row⟩)
    (o_is_row : PySem.W.codeIn K cdis_row "_is_row" = true)
    (k_is_row : PySem.W.keepIn K (.ref Ais_row) = true)
    (a_check_rows : PySem.W.nsIn K mainGlobals "_check_rows" = some (some (.ref Acheck_rows)))
    (l_check_rows : K.lookup Acheck_rows = some ⟨occheck_rows, odcheck_rows, .func (PySem.W.fnOf "_check_rows" "_check_rows" (defArgs s_check_rows) (defBody s_check_rows) (defScope s_check_rows) .none kVcheck_rows dccheck_rows pmcheck_rows ancheck_rows cdcheck_rows ctcheck_rows), slcheck_rows⟩)
    (o_check_rows : PySem.W.codeIn K cdcheck_rows "_check_rows" = true)
    (k_check_rows : PySem.W.keepIn K (.ref Acheck_rows) = true)
    (a_check_parts : PySem.W.nsIn K mainGlobals "_check_parts" = some (some (.ref Acheck_parts)))
    (l_check_parts : K.lookup Acheck_parts = some ⟨occheck_parts, odcheck_parts, .func (PySem.W.fnOf "_check_parts" "_check_parts" (defArgs s_check_parts) (defBody s_check_parts) (defScope s_check_parts) .none kVcheck_parts dccheck_parts pmcheck_parts ancheck_parts cdcheck_parts ctcheck_parts), slcheck_parts⟩)
    (o_check_parts : PySem.W.codeIn K cdcheck_parts "_check_parts" = true)
    (k_check_parts : PySem.W.keepIn K (.ref Acheck_parts) = true)
    (a_Form_init : PySem.W.findIn K (.ref CForm) "__init__" = some (some (.ref AForm_init)))
    (i_Form_init : PySem.W.isFn K (.ref AForm_init) = true)
    (l_Form_init : K.lookup AForm_init = some ⟨ocForm_init, odForm_init, .func (PySem.W.fnOf "__init__" "Form.__init__" (defArgs s_Form_init) (defBody s_Form_init) (defScope s_Form_init) .none kVForm_init dcForm_init pmForm_init anForm_init cdForm_init ctForm_init), slForm_init⟩)
    (o_Form_init : PySem.W.codeIn K cdForm_init "Form.__init__" = true)
    (k_Form_init : PySem.W.keepIn K (.ref AForm_init) = true)
    (a_form : PySem.W.nsIn K mainGlobals "_law_form" = some (some (.ref Aform)))
    (l_form : K.lookup Aform = some ⟨ocform, odform, .func (PySem.W.fnOf "_law_form" "_law_form" (defArgs s_form) (defBody s_form) (defScope s_form) .none kVform dcform pmform anform cdform ctform), slform⟩)
    (o_form : PySem.W.codeIn K cdform "_law_form" = true)
    (k_form : PySem.W.keepIn K (.ref Aform) = true)
    (a_unlike : PySem.W.nsIn K mainGlobals "_law_unlike" = some (some (.ref Aunlike)))
    (l_unlike : K.lookup Aunlike = some ⟨ocunlike, odunlike, .func (PySem.W.fnOf "_law_unlike" "_law_unlike" (defArgs s_unlike) (defBody s_unlike) (defScope s_unlike) .none kVunlike dcunlike pmunlike anunlike cdunlike ctunlike), slunlike⟩)
    (o_unlike : PySem.W.codeIn K cdunlike "_law_unlike" = true)
    (k_unlike : PySem.W.keepIn K (.ref Aunlike) = true)
    (pa_Form_first : PySem.W.findIn K (.ref CForm) "first" = some (some (.ref PForm_first)))
    (pg_Form_first : PySem.W.specialIn K (.ref PForm_first) "__get__" = some (some (.builtin "property.__get__")))
    (pt_Form_first : PySem.W.takesIn K (.ref PForm_first) = some true)
    (pr_Form_first : PySem.W.recIn K PForm_first "property" = some (.ref AForm_first :: RForm_first))
    (l_Form_first : K.lookup AForm_first = some ⟨ocForm_first, odForm_first, .func (PySem.W.fnOf "first" "Form.first" (defArgs s_Form_first) (defBody s_Form_first) (defScope s_Form_first) .none kVForm_first dcForm_first pmForm_first anForm_first cdForm_first ctForm_first), slForm_first⟩)
    (o_Form_first : PySem.W.codeIn K cdForm_first "Form.first" = true)
    (k_Form_first : PySem.W.keepIn K (.ref AForm_first) = true)
    (pa_Form_begin : PySem.W.findIn K (.ref CForm) "begin" = some (some (.ref PForm_begin)))
    (pg_Form_begin : PySem.W.specialIn K (.ref PForm_begin) "__get__" = some (some (.builtin "property.__get__")))
    (pt_Form_begin : PySem.W.takesIn K (.ref PForm_begin) = some true)
    (pr_Form_begin : PySem.W.recIn K PForm_begin "property" = some (.ref AForm_begin :: RForm_begin))
    (l_Form_begin : K.lookup AForm_begin = some ⟨ocForm_begin, odForm_begin, .func (PySem.W.fnOf "begin" "Form.begin" (defArgs s_Form_begin) (defBody s_Form_begin) (defScope s_Form_begin) .none kVForm_begin dcForm_begin pmForm_begin anForm_begin cdForm_begin ctForm_begin), slForm_begin⟩)
    (o_Form_begin : PySem.W.codeIn K cdForm_begin "Form.begin" = true)
    (k_Form_begin : PySem.W.keepIn K (.ref AForm_begin) = true)
    (pa_Form_period : PySem.W.findIn K (.ref CForm) "period" = some (some (.ref PForm_period)))
    (pg_Form_period : PySem.W.specialIn K (.ref PForm_period) "__get__" = some (some (.builtin "property.__get__")))
    (pt_Form_period : PySem.W.takesIn K (.ref PForm_period) = some true)
    (pr_Form_period : PySem.W.recIn K PForm_period "property" = some (.ref AForm_period :: RForm_period))
    (l_Form_period : K.lookup AForm_period = some ⟨ocForm_period, odForm_period, .func (PySem.W.fnOf "period" "Form.period" (defArgs s_Form_period) (defBody s_Form_period) (defScope s_Form_period) .none kVForm_period dcForm_period pmForm_period anForm_period cdForm_period ctForm_period), slForm_period⟩)
    (o_Form_period : PySem.W.codeIn K cdForm_period "Form.period" = true)
    (k_Form_period : PySem.W.keepIn K (.ref AForm_period) = true)
    (a_row_value : PySem.W.nsIn K mainGlobals "row_value" = some (some (.ref Arow_value)))
    (l_row_value : K.lookup Arow_value = some ⟨ocrow_value, odrow_value, .func (PySem.W.fnOf "row_value" "row_value" (defArgs s_row_value) (defBody s_row_value) (defScope s_row_value) .none kVrow_value dcrow_value pmrow_value anrow_value cdrow_value ctrow_value), slrow_value⟩)
    (o_row_value : PySem.W.codeIn K cdrow_value "row_value" = true)
    (k_row_value : PySem.W.keepIn K (.ref Arow_value) = true)
    (a_place_value : PySem.W.nsIn K mainGlobals "place_value" = some (some (.ref Aplace_value)))
    (l_place_value : K.lookup Aplace_value = some ⟨ocplace_value, odplace_value, .func (PySem.W.fnOf "place_value" "place_value" (defArgs s_place_value) (defBody s_place_value) (defScope s_place_value) .none kVplace_value dcplace_value pmplace_value anplace_value cdplace_value ctplace_value), slplace_value⟩)
    (o_place_value : PySem.W.codeIn K cdplace_value "place_value" = true)
    (k_place_value : PySem.W.keepIn K (.ref Aplace_value) = true)
    (a_value : PySem.W.nsIn K mainGlobals "_value" = some (some (.ref Avalue)))
    (l_value : K.lookup Avalue = some ⟨ocvalue, odvalue, .func (PySem.W.fnOf "_value" "_value" (defArgs s_value) (defBody s_value) (defScope s_value) .none kVvalue dcvalue pmvalue anvalue cdvalue ctvalue), slvalue⟩)
    (o_value : PySem.W.codeIn K cdvalue "_value" = true)
    (k_value : PySem.W.keepIn K (.ref Avalue) = true)
    (a_spread_row : PySem.W.nsIn K mainGlobals "spread_row" = some (some (.ref Aspread_row)))
    (l_spread_row : K.lookup Aspread_row = some ⟨ocspread_row, odspread_row, .func (PySem.W.fnOf "spread_row" "spread_row" (defArgs s_spread_row) (defBody s_spread_row) (defScope s_spread_row) .none kVspread_row dcspread_row pmspread_row anspread_row cdspread_row ctspread_row), slspread_row⟩)
    (o_spread_row : PySem.W.codeIn K cdspread_row "spread_row" = true)
    (k_spread_row : PySem.W.keepIn K (.ref Aspread_row) = true)
    (a_spread : PySem.W.nsIn K mainGlobals "spread" = some (some (.ref Aspread)))
    (l_spread : K.lookup Aspread = some ⟨ocspread, odspread, .func (PySem.W.fnOf "spread" "spread" (defArgs s_spread) (defBody s_spread) (defScope s_spread) .none kVspread dcspread pmspread anspread cdspread ctspread), slspread⟩)
    (o_spread : PySem.W.codeIn K cdspread "spread" = true)
    (k_spread : PySem.W.keepIn K (.ref Aspread) = true)
    (a_Reckoned_init : PySem.W.findIn K (.ref CReckoned) "__init__" = some (some (.ref AReckoned_init)))
    (i_Reckoned_init : PySem.W.isFn K (.ref AReckoned_init) = true)
    (l_Reckoned_init : K.lookup AReckoned_init = some ⟨ocReckoned_init, odReckoned_init, .func (PySem.W.fnOf "__init__" "Reckoned.__init__" (defArgs s_Reckoned_init) (defBody s_Reckoned_init) (defScope s_Reckoned_init) .none kVReckoned_init dcReckoned_init pmReckoned_init anReckoned_init cdReckoned_init ctReckoned_init), slReckoned_init⟩)
    (o_Reckoned_init : PySem.W.codeIn K cdReckoned_init "Reckoned.__init__" = true)
    (k_Reckoned_init : PySem.W.keepIn K (.ref AReckoned_init) = true)
    (a_reckoned_form : PySem.W.nsIn K mainGlobals "reckoned_form" = some (some (.ref Areckoned_form)))
    (l_reckoned_form : K.lookup Areckoned_form = some ⟨ocreckoned_form, odreckoned_form, .func (PySem.W.fnOf "reckoned_form" "reckoned_form" (defArgs s_reckoned_form) (defBody s_reckoned_form) (defScope s_reckoned_form) .none kVreckoned_form dcreckoned_form pmreckoned_form anreckoned_form cdreckoned_form ctreckoned_form), slreckoned_form⟩)
    (o_reckoned_form : PySem.W.codeIn K cdreckoned_form "reckoned_form" = true)
    (k_reckoned_form : PySem.W.keepIn K (.ref Areckoned_form) = true)
    (a_joined : PySem.W.nsIn K mainGlobals "_joined" = some (some (.ref Ajoined)))
    (l_joined : K.lookup Ajoined = some ⟨ocjoined, odjoined, .func (PySem.W.fnOf "_joined" "_joined" (defArgs s_joined) (defBody s_joined) (defScope s_joined) .none kVjoined dcjoined pmjoined anjoined cdjoined ctjoined), sljoined⟩)
    (o_joined : PySem.W.codeIn K cdjoined "_joined" = true)
    (k_joined : PySem.W.keepIn K (.ref Ajoined) = true)
    (a_fewest_early : PySem.W.nsIn K mainGlobals "fewest_early" = some (some (.ref Afewest_early)))
    (l_fewest_early : K.lookup Afewest_early = some ⟨ocfewest_early, odfewest_early, .func (PySem.W.fnOf "fewest_early" "fewest_early" (defArgs s_fewest_early) (defBody s_fewest_early) (defScope s_fewest_early) .none kVfewest_early dcfewest_early pmfewest_early anfewest_early cdfewest_early ctfewest_early), slfewest_early⟩)
    (o_fewest_early : PySem.W.codeIn K cdfewest_early "fewest_early" = true)
    (k_fewest_early : PySem.W.keepIn K (.ref Afewest_early) = true)
    (a_folded : PySem.W.nsIn K mainGlobals "folded" = some (some (.ref Afolded)))
    (l_folded : K.lookup Afolded = some ⟨ocfolded, odfolded, .func (PySem.W.fnOf "folded" "folded" (defArgs s_folded) (defBody s_folded) (defScope s_folded) .none kVfolded dcfolded pmfolded anfolded cdfolded ctfolded), slfolded⟩)
    (o_folded : PySem.W.codeIn K cdfolded "folded" = true)
    (k_folded : PySem.W.keepIn K (.ref Afolded) = true)
    (a_fewest_rows : PySem.W.nsIn K mainGlobals "fewest_rows" = some (some (.ref Afewest_rows)))
    (l_fewest_rows : K.lookup Afewest_rows = some ⟨ocfewest_rows, odfewest_rows, .func (PySem.W.fnOf "fewest_rows" "fewest_rows" (defArgs s_fewest_rows) (defBody s_fewest_rows) (defScope s_fewest_rows) .none kVfewest_rows dcfewest_rows pmfewest_rows anfewest_rows cdfewest_rows ctfewest_rows), slfewest_rows⟩)
    (o_fewest_rows : PySem.W.codeIn K cdfewest_rows "fewest_rows" = true)
    (k_fewest_rows : PySem.W.keepIn K (.ref Afewest_rows) = true)
    (a_Form_reduced : PySem.W.findIn K (.ref CForm) "reduced" = some (some (.ref AForm_reduced)))
    (i_Form_reduced : PySem.W.isFn K (.ref AForm_reduced) = true)
    (l_Form_reduced : K.lookup AForm_reduced = some ⟨ocForm_reduced, odForm_reduced, .func (PySem.W.fnOf "reduced" "Form.reduced" (defArgs s_Form_reduced) (defBody s_Form_reduced) (defScope s_Form_reduced) .none kVForm_reduced dcForm_reduced pmForm_reduced anForm_reduced cdForm_reduced ctForm_reduced), slForm_reduced⟩)
    (o_Form_reduced : PySem.W.codeIn K cdForm_reduced "Form.reduced" = true)
    (k_Form_reduced : PySem.W.keepIn K (.ref AForm_reduced) = true)
    (a_Form_sub : PySem.W.findIn K (.ref CForm) "__sub__" = some (some (.ref AForm_sub)))
    (i_Form_sub : PySem.W.isFn K (.ref AForm_sub) = true)
    (l_Form_sub : K.lookup AForm_sub = some ⟨ocForm_sub, odForm_sub, .func (PySem.W.fnOf "__sub__" "Form.__sub__" (defArgs s_Form_sub) (defBody s_Form_sub) (defScope s_Form_sub) .none kVForm_sub dcForm_sub pmForm_sub anForm_sub cdForm_sub ctForm_sub), slForm_sub⟩)
    (o_Form_sub : PySem.W.codeIn K cdForm_sub "Form.__sub__" = true)
    (k_Form_sub : PySem.W.keepIn K (.ref AForm_sub) = true)
    (a_first_unlike : PySem.W.nsIn K mainGlobals "first_unlike" = some (some (.ref Afirst_unlike)))
    (l_first_unlike : K.lookup Afirst_unlike = some ⟨ocfirst_unlike, odfirst_unlike, .func (PySem.W.fnOf "first_unlike" "first_unlike" (defArgs s_first_unlike) (defBody s_first_unlike) (defScope s_first_unlike) .none kVfirst_unlike dcfirst_unlike pmfirst_unlike anfirst_unlike cdfirst_unlike ctfirst_unlike), slfirst_unlike⟩)
    (o_first_unlike : PySem.W.codeIn K cdfirst_unlike "first_unlike" = true)
    (k_first_unlike : PySem.W.keepIn K (.ref Afirst_unlike) = true)
    (a_same_values : PySem.W.nsIn K mainGlobals "same_values" = some (some (.ref Asame_values)))
    (l_same_values : K.lookup Asame_values = some ⟨ocsame_values, odsame_values, .func (PySem.W.fnOf "same_values" "same_values" (defArgs s_same_values) (defBody s_same_values) (defScope s_same_values) .none kVsame_values dcsame_values pmsame_values ansame_values cdsame_values ctsame_values), slsame_values⟩)
    (o_same_values : PySem.W.codeIn K cdsame_values "same_values" = true)
    (k_same_values : PySem.W.keepIn K (.ref Asame_values) = true)
    (a_checked : PySem.W.nsIn K mainGlobals "_checked" = some (some (.ref Achecked)))
    (l_checked : K.lookup Achecked = some ⟨occhecked, odchecked, .func (PySem.W.fnOf "_checked" "_checked" (defArgs s_checked) (defBody s_checked) (defScope s_checked) .none kVchecked dcchecked pmchecked anchecked cdchecked ctchecked), slchecked⟩)
    (o_checked : PySem.W.codeIn K cdchecked "_checked" = true)
    (k_checked : PySem.W.keepIn K (.ref Achecked) = true)
    (a_lifted : PySem.W.nsIn K mainGlobals "_lifted" = some (some (.ref Alifted)))
    (l_lifted : K.lookup Alifted = some ⟨oclifted, odlifted, .func (PySem.W.fnOf "_lifted" "_lifted" (defArgs s_lifted) (defBody s_lifted) (defScope s_lifted) .none kVlifted dclifted pmlifted anlifted cdlifted ctlifted), sllifted⟩)
    (o_lifted : PySem.W.codeIn K cdlifted "_lifted" = true)
    (k_lifted : PySem.W.keepIn K (.ref Alifted) = true)
    (a_Form_add : PySem.W.findIn K (.ref CForm) "__add__" = some (some (.ref AForm_add)))
    (i_Form_add : PySem.W.isFn K (.ref AForm_add) = true)
    (l_Form_add : K.lookup AForm_add = some ⟨ocForm_add, odForm_add, .func (PySem.W.fnOf "__add__" "Form.__add__" (defArgs s_Form_add) (defBody s_Form_add) (defScope s_Form_add) .none kVForm_add dcForm_add pmForm_add anForm_add cdForm_add ctForm_add), slForm_add⟩)
    (o_Form_add : PySem.W.codeIn K cdForm_add "Form.__add__" = true)
    (k_Form_add : PySem.W.keepIn K (.ref AForm_add) = true)
    (a_are_right : PySem.W.nsIn K mainGlobals "_law_are_right" = some (some (.ref Aare_right)))
    (l_are_right : K.lookup Aare_right = some ⟨ocare_right, odare_right, .func (PySem.W.fnOf "_law_are_right" "_law_are_right" (defArgs s_are_right) (defBody s_are_right) (defScope s_are_right) .none kVare_right dcare_right pmare_right anare_right cdare_right ctare_right), slare_right⟩)
    (o_are_right : PySem.W.codeIn K cdare_right "_law_are_right" = true)
    (k_are_right : PySem.W.keepIn K (.ref Aare_right) = true)
    (a_right : PySem.W.nsIn K mainGlobals "_law_right" = some (some (.ref Aright)))
    (l_right : K.lookup Aright = some ⟨ocright, odright, .func (PySem.W.fnOf "_law_right" "_law_right" (defArgs s_right) (defBody s_right) (defScope s_right) .none kVright dcright pmright anright cdright ctright), slright⟩)
    (o_right : PySem.W.codeIn K cdright "_law_right" = true)
    (k_right : PySem.W.keepIn K (.ref Aright) = true)
    (a_pot : PySem.W.nsIn K mainGlobals "_law_pot" = some (some (.ref Apot)))
    (l_pot : K.lookup Apot = some ⟨ocpot, odpot, .func (PySem.W.fnOf "_law_pot" "_law_pot" (defArgs s_pot) (defBody s_pot) (defScope s_pot) .none kVpot dcpot pmpot anpot cdpot ctpot), slpot⟩)
    (o_pot : PySem.W.codeIn K cdpot "_law_pot" = true)
    (k_pot : PySem.W.keepIn K (.ref Apot) = true)
    (a_law : PySem.W.nsIn K mainGlobals "law" = some (some (.ref Alaw)))
    (l_law : K.lookup Alaw = some ⟨oclaw, odlaw, .func (PySem.W.fnOf "law" "law" (defArgs s_law) (defBody s_law) (defScope s_law) .none kVlaw dclaw pmlaw anlaw cdlaw ctlaw), sllaw⟩)
    (o_law : PySem.W.codeIn K cdlaw "law" = true)
    (k_law : PySem.W.keepIn K (.ref Alaw) = true)
    (aC_Form : PySem.W.nsIn K mainGlobals "Form" = some (some (.ref CForm)))
    (pg_Form : PySem.W.plainGet K CForm Str.empty = true)
    (hd_Form : PySem.W.hasDictIn K CForm = true)
    (po_Form : PySem.W.plainOver K CForm = true)
    (sa_Form : PySem.W.findIn K (.ref CForm) "__setattr__" = some (some (.builtin "object.__setattr__")))
    (mk_Form : PySem.W.makesIn K CForm = true)
    (kc_Form : PySem.W.keepIn K (.ref CForm) = true)
    (na_Form__first : PySem.W.findIn K (.ref CForm) "_first" = some none)
    (na_Form__early : PySem.W.findIn K (.ref CForm) "_early" = some none)
    (na_Form__rows : PySem.W.findIn K (.ref CForm) "_rows" = some none)
    (aC_Reckoned : PySem.W.nsIn K mainGlobals "Reckoned" = some (some (.ref CReckoned)))
    (pg_Reckoned : PySem.W.plainGet K CReckoned Str.empty = true)
    (hd_Reckoned : PySem.W.hasDictIn K CReckoned = true)
    (po_Reckoned : PySem.W.plainOver K CReckoned = true)
    (sa_Reckoned : PySem.W.findIn K (.ref CReckoned) "__setattr__" = some (some (.builtin "object.__setattr__")))
    (mk_Reckoned : PySem.W.makesIn K CReckoned = true)
    (kc_Reckoned : PySem.W.keepIn K (.ref CReckoned) = true)
    (na_Reckoned_parts : PySem.W.findIn K (.ref CReckoned) "parts" = some none)
    (ic1_Form : PySem.W.findIn K (.ref CForm) "__class__" = some (some (.builtin "object.__class__")))
    (ic2_Form : PySem.W.specialIn K (.builtin "object.__class__") "__get__" = some (some (.builtin "getset_descriptor.__get__")))
    (ic3_Form : PySem.W.takesIn K (.builtin "object.__class__") = some true)
    (ic4_Form : PySem.W.mroIn K CForm (.type "object") = some true)
    (ic1_Reckoned : PySem.W.findIn K (.ref CReckoned) "__class__" = some (some (.builtin "object.__class__")))
    (ic2_Reckoned : PySem.W.specialIn K (.builtin "object.__class__") "__get__" = some (some (.builtin "getset_descriptor.__get__")))
    (ic3_Reckoned : PySem.W.takesIn K (.builtin "object.__class__") = some true)
    (ic4_Reckoned : PySem.W.mroIn K CReckoned (.type "object") = some true)
    (in1_Form : PySem.W.isClsIn K CForm = true)
    (in2_Form : PySem.W.typeIn K (.ref CForm) = some (.type "type"))
    (in1_Reckoned : PySem.W.isClsIn K CReckoned = true)
    (in2_Reckoned : PySem.W.typeIn K (.ref CReckoned) = some (.type "type"))
    (obf_Form : PySem.W.selfFirst K CForm = true)
    (obs_Form_Add : PySem.W.findIn K (.ref CForm) (PySem.dunder (Operator.info .Add).2) = some (some (.ref AForm_add)))
    (obs_Form_Sub : PySem.W.findIn K (.ref CForm) (PySem.dunder (Operator.info .Sub).2) = some (some (.ref AForm_sub)))
    (obr_Form_Add : PySem.W.findIn K (.ref CForm) (dunderR (Operator.info .Add).2) = some (some (.ref RForm_Add)))
    (obi_Form_Add : PySem.W.findIn K (.type "int") (PySem.dunder (Operator.info .Add).2) = some foForm_Add)
    (obj_Form_Add : PySem.W.findIn K (.type "int") (dunderR (Operator.info .Add).2) = some roForm_Add)
    (z_abs : PySem.W.nsIn K mainGlobals "abs" = some none)
    (z_all : PySem.W.nsIn K mainGlobals "all" = some none)
    (z_bool : PySem.W.nsIn K mainGlobals "bool" = some none)
    (z_dict : PySem.W.nsIn K mainGlobals "dict" = some none)
    (z_divmod : PySem.W.nsIn K mainGlobals "divmod" = some none)
    (z_enumerate : PySem.W.nsIn K mainGlobals "enumerate" = some none)
    (z_int : PySem.W.nsIn K mainGlobals "int" = some none)
    (z_isinstance : PySem.W.nsIn K mainGlobals "isinstance" = some none)
    (z_len : PySem.W.nsIn K mainGlobals "len" = some none)
    (z_list : PySem.W.nsIn K mainGlobals "list" = some none)
    (z_max : PySem.W.nsIn K mainGlobals "max" = some none)
    (z_min : PySem.W.nsIn K mainGlobals "min" = some none)
    (z_range : PySem.W.nsIn K mainGlobals "range" = some none)
    (z_repr : PySem.W.nsIn K mainGlobals "repr" = some none)
    (z_tuple : PySem.W.nsIn K mainGlobals "tuple" = some none)
    (z_zip : PySem.W.nsIn K mainGlobals "zip" = some none)
    (i_lcm : PySem.W.nsIn K mainGlobals "lcm" = some (some (.builtin "math.lcm")))
    (c_MOST_ROWS : PySem.W.nsIn K mainGlobals "MOST_ROWS" = some (some (.int 24 tMOST_ROWS)))
    (c_MOST_VALUES : PySem.W.nsIn K mainGlobals "MOST_VALUES" = some (some (.int 200 tMOST_VALUES))) :
    ∃ fd : FuncData, (∀ (s : Shared) (v : Value), BindsTo s fd ⟨[v], []⟩ [("_law_script", v)]) ∧ ∀ base : Heap, K.In base → base.Ns mainGlobals mg → FnG l.prog w K mg base 11 fa fd ["_law_script"] (sp_law K) := by
  have e := hfa.symm.trans (PySem.W.mg_of X G a_law)
  cases e
  have T : Txt w K mg ⟨Adraw, (PySem.W.fnOf "_law_draw" "_law_draw" (defArgs s_draw) (defBody s_draw) (defScope s_draw) .none kVdraw dcdraw pmdraw andraw cddraw ctdraw), Apick, (PySem.W.fnOf "_law_pick" "_law_pick" (defArgs s_pick) (defBody s_pick) (defScope s_pick) .none kVpick dcpick pmpick anpick cdpick ctpick), Ainteger, (PySem.W.fnOf "_law_integer" "_law_integer" (defArgs s_integer) (defBody s_integer) (defScope s_integer) .none kVinteger dcinteger pminteger aninteger cdinteger ctinteger), Aparts, (PySem.W.fnOf "_law_parts" "_law_parts" (defArgs s_parts) (defBody s_parts) (defScope s_parts) .none kVparts dcparts pmparts anparts cdparts ctparts), AvalueL, (PySem.W.fnOf "_law_value" "_law_value" (defArgs s_valueL) (defBody s_valueL) (defScope s_valueL) .none kVvalueL dcvalueL pmvalueL anvalueL cdvalueL ctvalueL), Awider, (PySem.W.fnOf "_law_wider" "_law_wider" (defArgs s_wider) (defBody s_wider) (defScope s_wider) .none kVwider dcwider pmwider anwider cdwider ctwider), Alater, (PySem.W.fnOf "_law_later" "_law_later" (defArgs s_later) (defBody s_later) (defScope s_later) .none kVlater dclater pmlater anlater cdlater ctlater), Abeside, (PySem.W.fnOf "_law_beside" "_law_beside" (defArgs s_beside) (defBody s_beside) (defScope s_beside) .none kVbeside dcbeside pmbeside anbeside cdbeside ctbeside), Ais_integer, (PySem.W.fnOf "is_integer" "is_integer" (defArgs s_is_integer) (defBody s_is_integer) (defScope s_is_integer) .none kVis_integer dcis_integer pmis_integer anis_integer cdis_integer ctis_integer), Ais_count, (PySem.W.fnOf "is_count" "is_count" (defArgs s_is_count) (defBody s_is_count) (defScope s_is_count) .none kVis_count dcis_count pmis_count anis_count cdis_count ctis_count), Acheck_first, (PySem.W.fnOf "_check_first" "_check_first" (defArgs s_check_first) (defBody s_check_first) (defScope s_check_first) .none kVcheck_first dccheck_first pmcheck_first ancheck_first cdcheck_first ctcheck_first), Ais_list, (PySem.W.fnOf "is_list" "is_list" (defArgs s_is_list) (defBody s_is_list) (defScope s_is_list) .none kVis_list dcis_list pmis_list anis_list cdis_list ctis_list), Acheck_values, (PySem.W.fnOf "_check_values" "_check_values" (defArgs s_check_values) (defBody s_check_values) (defScope s_check_values) .none kVcheck_values dccheck_values pmcheck_values ancheck_values cdcheck_values ctcheck_values), Ais_row, (PySem.W.fnOf "_is_row" "_is_row" (defArgs s_is_row) (defBody s_is_row) (defScope s_is_row) .none kVis_row dcis_row pmis_row anis_row cdis_row ctis_row), Acheck_rows, (PySem.W.fnOf "_check_rows" "_check_rows" (defArgs s_check_rows) (defBody s_check_rows) (defScope s_check_rows) .none kVcheck_rows dccheck_rows pmcheck_rows ancheck_rows cdcheck_rows ctcheck_rows), Acheck_parts, (PySem.W.fnOf "_check_parts" "_check_parts" (defArgs s_check_parts) (defBody s_check_parts) (defScope s_check_parts) .none kVcheck_parts dccheck_parts pmcheck_parts ancheck_parts cdcheck_parts ctcheck_parts), AForm_init, (PySem.W.fnOf "__init__" "Form.__init__" (defArgs s_Form_init) (defBody s_Form_init) (defScope s_Form_init) .none kVForm_init dcForm_init pmForm_init anForm_init cdForm_init ctForm_init), Aform, (PySem.W.fnOf "_law_form" "_law_form" (defArgs s_form) (defBody s_form) (defScope s_form) .none kVform dcform pmform anform cdform ctform), Aunlike, (PySem.W.fnOf "_law_unlike" "_law_unlike" (defArgs s_unlike) (defBody s_unlike) (defScope s_unlike) .none kVunlike dcunlike pmunlike anunlike cdunlike ctunlike), AForm_first, (PySem.W.fnOf "first" "Form.first" (defArgs s_Form_first) (defBody s_Form_first) (defScope s_Form_first) .none kVForm_first dcForm_first pmForm_first anForm_first cdForm_first ctForm_first), AForm_begin, (PySem.W.fnOf "begin" "Form.begin" (defArgs s_Form_begin) (defBody s_Form_begin) (defScope s_Form_begin) .none kVForm_begin dcForm_begin pmForm_begin anForm_begin cdForm_begin ctForm_begin), AForm_period, (PySem.W.fnOf "period" "Form.period" (defArgs s_Form_period) (defBody s_Form_period) (defScope s_Form_period) .none kVForm_period dcForm_period pmForm_period anForm_period cdForm_period ctForm_period), Arow_value, (PySem.W.fnOf "row_value" "row_value" (defArgs s_row_value) (defBody s_row_value) (defScope s_row_value) .none kVrow_value dcrow_value pmrow_value anrow_value cdrow_value ctrow_value), Aplace_value, (PySem.W.fnOf "place_value" "place_value" (defArgs s_place_value) (defBody s_place_value) (defScope s_place_value) .none kVplace_value dcplace_value pmplace_value anplace_value cdplace_value ctplace_value), Avalue, (PySem.W.fnOf "_value" "_value" (defArgs s_value) (defBody s_value) (defScope s_value) .none kVvalue dcvalue pmvalue anvalue cdvalue ctvalue), Aspread_row, (PySem.W.fnOf "spread_row" "spread_row" (defArgs s_spread_row) (defBody s_spread_row) (defScope s_spread_row) .none kVspread_row dcspread_row pmspread_row anspread_row cdspread_row ctspread_row), Aspread, (PySem.W.fnOf "spread" "spread" (defArgs s_spread) (defBody s_spread) (defScope s_spread) .none kVspread dcspread pmspread anspread cdspread ctspread), AReckoned_init, (PySem.W.fnOf "__init__" "Reckoned.__init__" (defArgs s_Reckoned_init) (defBody s_Reckoned_init) (defScope s_Reckoned_init) .none kVReckoned_init dcReckoned_init pmReckoned_init anReckoned_init cdReckoned_init ctReckoned_init), Areckoned_form, (PySem.W.fnOf "reckoned_form" "reckoned_form" (defArgs s_reckoned_form) (defBody s_reckoned_form) (defScope s_reckoned_form) .none kVreckoned_form dcreckoned_form pmreckoned_form anreckoned_form cdreckoned_form ctreckoned_form), Ajoined, (PySem.W.fnOf "_joined" "_joined" (defArgs s_joined) (defBody s_joined) (defScope s_joined) .none kVjoined dcjoined pmjoined anjoined cdjoined ctjoined), Afewest_early, (PySem.W.fnOf "fewest_early" "fewest_early" (defArgs s_fewest_early) (defBody s_fewest_early) (defScope s_fewest_early) .none kVfewest_early dcfewest_early pmfewest_early anfewest_early cdfewest_early ctfewest_early), Afolded, (PySem.W.fnOf "folded" "folded" (defArgs s_folded) (defBody s_folded) (defScope s_folded) .none kVfolded dcfolded pmfolded anfolded cdfolded ctfolded), Afewest_rows, (PySem.W.fnOf "fewest_rows" "fewest_rows" (defArgs s_fewest_rows) (defBody s_fewest_rows) (defScope s_fewest_rows) .none kVfewest_rows dcfewest_rows pmfewest_rows anfewest_rows cdfewest_rows ctfewest_rows), AForm_reduced, (PySem.W.fnOf "reduced" "Form.reduced" (defArgs s_Form_reduced) (defBody s_Form_reduced) (defScope s_Form_reduced) .none kVForm_reduced dcForm_reduced pmForm_reduced anForm_reduced cdForm_reduced ctForm_reduced), AForm_sub, (PySem.W.fnOf "__sub__" "Form.__sub__" (defArgs s_Form_sub) (defBody s_Form_sub) (defScope s_Form_sub) .none kVForm_sub dcForm_sub pmForm_sub anForm_sub cdForm_sub ctForm_sub), Afirst_unlike, (PySem.W.fnOf "first_unlike" "first_unlike" (defArgs s_first_unlike) (defBody s_first_unlike) (defScope s_first_unlike) .none kVfirst_unlike dcfirst_unlike pmfirst_unlike anfirst_unlike cdfirst_unlike ctfirst_unlike), Asame_values, (PySem.W.fnOf "same_values" "same_values" (defArgs s_same_values) (defBody s_same_values) (defScope s_same_values) .none kVsame_values dcsame_values pmsame_values ansame_values cdsame_values ctsame_values), Achecked, (PySem.W.fnOf "_checked" "_checked" (defArgs s_checked) (defBody s_checked) (defScope s_checked) .none kVchecked dcchecked pmchecked anchecked cdchecked ctchecked), Alifted, (PySem.W.fnOf "_lifted" "_lifted" (defArgs s_lifted) (defBody s_lifted) (defScope s_lifted) .none kVlifted dclifted pmlifted anlifted cdlifted ctlifted), AForm_add, (PySem.W.fnOf "__add__" "Form.__add__" (defArgs s_Form_add) (defBody s_Form_add) (defScope s_Form_add) .none kVForm_add dcForm_add pmForm_add anForm_add cdForm_add ctForm_add), Aare_right, (PySem.W.fnOf "_law_are_right" "_law_are_right" (defArgs s_are_right) (defBody s_are_right) (defScope s_are_right) .none kVare_right dcare_right pmare_right anare_right cdare_right ctare_right), Aright, (PySem.W.fnOf "_law_right" "_law_right" (defArgs s_right) (defBody s_right) (defScope s_right) .none kVright dcright pmright anright cdright ctright), Apot, (PySem.W.fnOf "_law_pot" "_law_pot" (defArgs s_pot) (defBody s_pot) (defScope s_pot) .none kVpot dcpot pmpot anpot cdpot ctpot), fa, (PySem.W.fnOf "law" "law" (defArgs s_law) (defBody s_law) (defScope s_law) .none kVlaw dclaw pmlaw anlaw cdlaw ctlaw), CForm, CReckoned, PForm_begin, PForm_first, PForm_period⟩ := ⟨fun_mk (st := s_draw) l_draw o_draw k_draw, (fun_mk (st := s_draw) l_draw o_draw k_draw).binds (ps := ["_law_pot_here", "_law_size"]) fun _ _ _ _ _ _ us hl => match us, hl with | [_, _], _ => rfl, PySem.W.mg_of X G a_draw, fun_mk (st := s_pick) l_pick o_pick k_pick, (fun_mk (st := s_pick) l_pick o_pick k_pick).binds (ps := ["_law_pot_here", "_law_some"]) fun _ _ _ _ _ _ us hl => match us, hl with | [_, _], _ => rfl, PySem.W.mg_of X G a_pick, fun_mk (st := s_integer) l_integer o_integer k_integer, (fun_mk (st := s_integer) l_integer o_integer k_integer).binds (ps := ["_law_pot_here"]) fun _ _ _ _ _ _ us hl => match us, hl with | [_], _ => rfl, PySem.W.mg_of X G a_integer, fun_mk (st := s_parts) l_parts o_parts k_parts, (fun_mk (st := s_parts) l_parts o_parts k_parts).binds (ps := ["_law_pot_here", "_law_most"]) fun _ _ _ _ _ _ us hl => match us, hl with | [_, _], _ => rfl, PySem.W.mg_of X G a_parts, fun_mk (st := s_valueL) l_valueL o_valueL k_valueL, (fun_mk (st := s_valueL) l_valueL o_valueL k_valueL).binds (ps := ["_law_parts_here", "_law_place"]) fun _ _ _ _ _ _ us hl => match us, hl with | [_, _], _ => rfl, PySem.W.mg_of X G a_valueL, fun_mk (st := s_wider) l_wider o_wider k_wider, (fun_mk (st := s_wider) l_wider o_wider k_wider).binds (ps := ["_law_parts_here", "_law_times", "_law_more"]) fun _ _ _ _ _ _ us hl => match us, hl with | [_, _, _], _ => rfl, PySem.W.mg_of X G a_wider, fun_mk (st := s_later) l_later o_later k_later, (fun_mk (st := s_later) l_later o_later k_later).binds (ps := ["_law_parts_here", "_law_more"]) fun _ _ _ _ _ _ us hl => match us, hl with | [_, _], _ => rfl, PySem.W.mg_of X G a_later, fun_mk (st := s_beside) l_beside o_beside k_beside, (fun_mk (st := s_beside) l_beside o_beside k_beside).binds (ps := ["_law_pot_here", "_law_parts_here"]) fun _ _ _ _ _ _ us hl => match us, hl with | [_, _], _ => rfl, PySem.W.mg_of X G a_beside, fun_mk (st := s_is_integer) l_is_integer o_is_integer k_is_integer, (fun_mk (st := s_is_integer) l_is_integer o_is_integer k_is_integer).binds (ps := ["value"]) fun _ _ _ _ _ _ us hl => match us, hl with | [_], _ => rfl, PySem.W.mg_of X G a_is_integer, fun_mk (st := s_is_count) l_is_count o_is_count k_is_count, (fun_mk (st := s_is_count) l_is_count o_is_count k_is_count).binds (ps := ["value"]) fun _ _ _ _ _ _ us hl => match us, hl with | [_], _ => rfl, PySem.W.mg_of X G a_is_count, fun_mk (st := s_check_first) l_check_first o_check_first k_check_first, (fun_mk (st := s_check_first) l_check_first o_check_first k_check_first).binds (ps := ["first"]) fun _ _ _ _ _ _ us hl => match us, hl with | [_], _ => rfl, PySem.W.mg_of X G a_check_first, fun_mk (st := s_is_list) l_is_list o_is_list k_is_list, (fun_mk (st := s_is_list) l_is_list o_is_list k_is_list).binds (ps := ["value"]) fun _ _ _ _ _ _ us hl => match us, hl with | [_], _ => rfl, PySem.W.mg_of X G a_is_list, fun_mk (st := s_check_values) l_check_values o_check_values k_check_values, (fun_mk (st := s_check_values) l_check_values o_check_values k_check_values).binds (ps := ["early"]) fun _ _ _ _ _ _ us hl => match us, hl with | [_], _ => rfl, PySem.W.mg_of X G a_check_values, fun_mk (st := s_is_row) l_is_row o_is_row k_is_row, (fun_mk (st := s_is_row) l_is_row o_is_row k_is_row).binds (ps := ["value"]) fun _ _ _ _ _ _ us hl => match us, hl with | [_], _ => rfl, PySem.W.mg_of X G a_is_row, fun_mk (st := s_check_rows) l_check_rows o_check_rows k_check_rows, (fun_mk (st := s_check_rows) l_check_rows o_check_rows k_check_rows).binds (ps := ["rows"]) fun _ _ _ _ _ _ us hl => match us, hl with | [_], _ => rfl, PySem.W.mg_of X G a_check_rows, fun_mk (st := s_check_parts) l_check_parts o_check_parts k_check_parts, (fun_mk (st := s_check_parts) l_check_parts o_check_parts k_check_parts).binds (ps := ["first", "early", "rows"]) fun _ _ _ _ _ _ us hl => match us, hl with | [_, _, _], _ => rfl, PySem.W.mg_of X G a_check_parts, fun_mk (st := s_Form_init) l_Form_init o_Form_init k_Form_init, (fun_mk (st := s_Form_init) l_Form_init o_Form_init k_Form_init).binds (ps := ["self", "first", "early", "rows"]) fun _ _ _ _ _ _ us hl => match us, hl with | [_, _, _, _], _ => rfl, fun_mk (st := s_form) l_form o_form k_form, (fun_mk (st := s_form) l_form o_form k_form).binds (ps := ["_law_parts_here"]) fun _ _ _ _ _ _ us hl => match us, hl with | [_], _ => rfl, PySem.W.mg_of X G a_form, fun_mk (st := s_unlike) l_unlike o_unlike k_unlike, (fun_mk (st := s_unlike) l_unlike o_unlike k_unlike).binds (ps := ["_law_mine", "_law_theirs"]) fun _ _ _ _ _ _ us hl => match us, hl with | [_, _], _ => rfl, PySem.W.mg_of X G a_unlike, fun_mk (st := s_Form_first) l_Form_first o_Form_first k_Form_first, (fun_mk (st := s_Form_first) l_Form_first o_Form_first k_Form_first).binds (ps := ["self"]) fun _ _ _ _ _ _ us hl => match us, hl with | [_], _ => rfl, ⟨pa_Form_first, pg_Form_first, pt_Form_first, ⟨_, pr_Form_first⟩⟩, fun_mk (st := s_Form_begin) l_Form_begin o_Form_begin k_Form_begin, (fun_mk (st := s_Form_begin) l_Form_begin o_Form_begin k_Form_begin).binds (ps := ["self"]) fun _ _ _ _ _ _ us hl => match us, hl with | [_], _ => rfl, ⟨pa_Form_begin, pg_Form_begin, pt_Form_begin, ⟨_, pr_Form_begin⟩⟩, fun_mk (st := s_Form_period) l_Form_period o_Form_period k_Form_period, (fun_mk (st := s_Form_period) l_Form_period o_Form_period k_Form_period).binds (ps := ["self"]) fun _ _ _ _ _ _ us hl => match us, hl with | [_], _ => rfl, ⟨pa_Form_period, pg_Form_period, pt_Form_period, ⟨_, pr_Form_period⟩⟩, fun_mk (st := s_row_value) l_row_value o_row_value k_row_value, (fun_mk (st := s_row_value) l_row_value o_row_value k_row_value).binds (ps := ["row", "turn"]) fun _ _ _ _ _ _ us hl => match us, hl with | [_, _], _ => rfl, PySem.W.mg_of X G a_row_value, fun_mk (st := s_place_value) l_place_value o_place_value k_place_value, (fun_mk (st := s_place_value) l_place_value o_place_value k_place_value).binds (ps := ["rows", "place"]) fun _ _ _ _ _ _ us hl => match us, hl with | [_, _], _ => rfl, PySem.W.mg_of X G a_place_value, fun_mk (st := s_value) l_value o_value k_value, (fun_mk (st := s_value) l_value o_value k_value).binds (ps := ["form", "place"]) fun _ _ _ _ _ _ us hl => match us, hl with | [_, _], _ => rfl, PySem.W.mg_of X G a_value, fun_mk (st := s_spread_row) l_spread_row o_spread_row k_spread_row, (fun_mk (st := s_spread_row) l_spread_row o_spread_row k_spread_row).binds (ps := ["row", "many", "ahead"]) fun _ _ _ _ _ _ us hl => match us, hl with | [_, _, _], _ => rfl, PySem.W.mg_of X G a_spread_row, fun_mk (st := s_spread) l_spread o_spread k_spread, (fun_mk (st := s_spread) l_spread o_spread k_spread).binds (ps := ["rows", "period"]) fun _ _ _ _ _ _ us hl => match us, hl with | [_, _], _ => rfl, PySem.W.mg_of X G a_spread, fun_mk (st := s_Reckoned_init) l_Reckoned_init o_Reckoned_init k_Reckoned_init, (fun_mk (st := s_Reckoned_init) l_Reckoned_init o_Reckoned_init k_Reckoned_init).binds (ps := ["self", "parts"]) fun _ _ _ _ _ _ us hl => match us, hl with | [_, _], _ => rfl, fun_mk (st := s_reckoned_form) l_reckoned_form o_reckoned_form k_reckoned_form, (fun_mk (st := s_reckoned_form) l_reckoned_form o_reckoned_form k_reckoned_form).binds (ps := ["first", "early", "rows"]) fun _ _ _ _ _ _ us hl => match us, hl with | [_, _, _], _ => rfl, PySem.W.mg_of X G a_reckoned_form, fun_mk (st := s_joined) l_joined o_joined k_joined, (fun_mk (st := s_joined) l_joined o_joined k_joined).binds (ps := ["one", "other", "sign"]) fun _ _ _ _ _ _ us hl => match us, hl with | [_, _, _], _ => rfl, PySem.W.mg_of X G a_joined, fun_mk (st := s_fewest_early) l_fewest_early o_fewest_early k_fewest_early, (fun_mk (st := s_fewest_early) l_fewest_early o_fewest_early k_fewest_early).binds (ps := ["first", "early", "rows"]) fun _ _ _ _ _ _ us hl => match us, hl with | [_, _, _], _ => rfl, PySem.W.mg_of X G a_fewest_early, fun_mk (st := s_folded) l_folded o_folded k_folded, (fun_mk (st := s_folded) l_folded o_folded k_folded).binds (ps := ["rows", "period"]) fun _ _ _ _ _ _ us hl => match us, hl with | [_, _], _ => rfl, PySem.W.mg_of X G a_folded, fun_mk (st := s_fewest_rows) l_fewest_rows o_fewest_rows k_fewest_rows, (fun_mk (st := s_fewest_rows) l_fewest_rows o_fewest_rows k_fewest_rows).binds (ps := ["rows"]) fun _ _ _ _ _ _ us hl => match us, hl with | [_], _ => rfl, PySem.W.mg_of X G a_fewest_rows, fun_mk (st := s_Form_reduced) l_Form_reduced o_Form_reduced k_Form_reduced, (fun_mk (st := s_Form_reduced) l_Form_reduced o_Form_reduced k_Form_reduced).binds (ps := ["self"]) fun _ _ _ _ _ _ us hl => match us, hl with | [_], _ => rfl, ⟨a_Form_reduced, i_Form_reduced, k_Form_reduced⟩, fun_mk (st := s_Form_sub) l_Form_sub o_Form_sub k_Form_sub, (fun_mk (st := s_Form_sub) l_Form_sub o_Form_sub k_Form_sub).binds (ps := ["self", "other"]) fun _ _ _ _ _ _ us hl => match us, hl with | [_, _], _ => rfl, ⟨a_Form_sub, i_Form_sub, k_Form_sub⟩, fun_mk (st := s_first_unlike) l_first_unlike o_first_unlike k_first_unlike, (fun_mk (st := s_first_unlike) l_first_unlike o_first_unlike k_first_unlike).binds (ps := ["one", "other"]) fun _ _ _ _ _ _ us hl => match us, hl with | [_, _], _ => rfl, PySem.W.mg_of X G a_first_unlike, fun_mk (st := s_same_values) l_same_values o_same_values k_same_values, (fun_mk (st := s_same_values) l_same_values o_same_values k_same_values).binds (ps := ["one", "other"]) fun _ _ _ _ _ _ us hl => match us, hl with | [_, _], _ => rfl, PySem.W.mg_of X G a_same_values, fun_mk (st := s_checked) l_checked o_checked k_checked, (fun_mk (st := s_checked) l_checked o_checked k_checked).binds (ps := ["number"]) fun _ _ _ _ _ _ us hl => match us, hl with | [_], _ => rfl, PySem.W.mg_of X G a_checked, fun_mk (st := s_lifted) l_lifted o_lifted k_lifted, (fun_mk (st := s_lifted) l_lifted o_lifted k_lifted).binds (ps := ["form", "number"]) fun _ _ _ _ _ _ us hl => match us, hl with | [_, _], _ => rfl, PySem.W.mg_of X G a_lifted, fun_mk (st := s_Form_add) l_Form_add o_Form_add k_Form_add, (fun_mk (st := s_Form_add) l_Form_add o_Form_add k_Form_add).binds (ps := ["self", "other"]) fun _ _ _ _ _ _ us hl => match us, hl with | [_, _], _ => rfl, ⟨a_Form_add, i_Form_add, k_Form_add⟩, fun_mk (st := s_are_right) l_are_right o_are_right k_are_right, (fun_mk (st := s_are_right) l_are_right o_are_right k_are_right).binds (ps := ["_law_mine", "_law_theirs"]) fun _ _ _ _ _ _ us hl => match us, hl with | [_, _], _ => rfl, PySem.W.mg_of X G a_are_right, fun_mk (st := s_right) l_right o_right k_right, (fun_mk (st := s_right) l_right o_right k_right).binds (ps := ["_law_pot_here"]) fun _ _ _ _ _ _ us hl => match us, hl with | [_], _ => rfl, PySem.W.mg_of X G a_right, fun_mk (st := s_pot) l_pot o_pot k_pot, (fun_mk (st := s_pot) l_pot o_pot k_pot).binds (ps := ["_law_script", "_law_k"]) fun _ _ _ _ _ _ us hl => match us, hl with | [_, _], _ => rfl, PySem.W.mg_of X G a_pot, fun_mk (st := s_law) l_law o_law k_law, (fun_mk (st := s_law) l_law o_law k_law).binds (ps := ["_law_script"]) fun _ _ _ _ _ _ us hl => match us, hl with | [_], _ => rfl, PySem.W.mg_of X G a_law, ⟨pg_Form, hd_Form, po_Form, sa_Form⟩, PySem.W.mg_of X G aC_Form, ⟨mk_Form, a_Form_init, i_Form_init, kc_Form⟩, na_Form__first, na_Form__early, na_Form__rows, ⟨pg_Reckoned, hd_Reckoned, po_Reckoned, sa_Reckoned⟩, PySem.W.mg_of X G aC_Reckoned, ⟨mk_Reckoned, a_Reckoned_init, i_Reckoned_init, kc_Reckoned⟩, na_Reckoned_parts, ⟨⟨pg_Form, hd_Form, po_Form, sa_Form⟩, ic1_Form, ic2_Form, ic3_Form, ic4_Form⟩, ⟨⟨pg_Reckoned, hd_Reckoned, po_Reckoned, sa_Reckoned⟩, ic1_Reckoned, ic2_Reckoned, ic3_Reckoned, ic4_Reckoned⟩, ⟨in1_Form, in2_Form⟩, ⟨in1_Reckoned, in2_Reckoned⟩, ⟨⟨obf_Form, obs_Form_Add, i_Form_add⟩, ⟨_, obr_Form_Add, .inr ⟨_, rfl⟩⟩, ⟨_, obi_Form_Add⟩, ⟨_, obj_Form_Add⟩⟩, ⟨obf_Form, obs_Form_Sub, i_Form_sub⟩, PySem.W.mg_none_of X G z_abs, PySem.W.mg_none_of X G z_all, PySem.W.mg_none_of X G z_bool, PySem.W.mg_none_of X G z_dict, PySem.W.mg_none_of X G z_divmod, PySem.W.mg_none_of X G z_enumerate, PySem.W.mg_none_of X G z_int, PySem.W.mg_none_of X G z_isinstance, PySem.W.mg_none_of X G z_len, PySem.W.mg_none_of X G z_list, PySem.W.mg_none_of X G z_max, PySem.W.mg_none_of X G z_min, PySem.W.mg_none_of X G z_range, PySem.W.mg_none_of X G z_repr, PySem.W.mg_none_of X G z_tuple, PySem.W.mg_none_of X G z_zip, PySem.W.mg_of X G i_lcm, ⟨_, PySem.W.mg_of X G c_MOST_ROWS, ⟨_, rfl⟩⟩, ⟨_, PySem.W.mg_of X G c_MOST_VALUES, ⟨_, rfl⟩⟩, ⟨fun s us ws _ h1 h2 => match us, ws, h1, h2 with | [], [_, _], _, _ => .of_eq rfl, fun r1 r2 => r1.append (.cons (vals_getD r2 1) (.cons (vals_getD r2 0) (.nil)))⟩, ⟨fun s us ws _ h1 h2 => match us, ws, h1, h2 with | [], [_, _], _, _ => .of_eq rfl, fun r1 r2 => r1.append (.cons (vals_getD r2 1) (.cons (vals_getD r2 0) (.nil)))⟩⟩
  exact ⟨_, fun s v => .of_eq rfl, fun base _ _ => ok_law T⟩
end Lw
open PySem PySem.W PyProof.Rows in
set_option maxRecDepth 100000 in
set_option maxHeartbeats 0 in
theorem PySem.Challenge.cw_ringrows_k15_whole_forms_alike_holds : PySem.Challenge.rw_ringrows_k15_whole_forms_alike.Holds := by
  w_on; o_law; k_head; (case hw => w_witness2)
  k_fill
  refine Rx.walk_ofG (l := PySem.Challenge.rw_ringrows_k15_whole_forms_alike) (n := 63) (k := 11) (x := "_law_script") (sp := fun w => Lw.sp_law _) rfl (by decide) rfl ⟨rfl, by decide, by decide⟩ (fun w h Y => PySem.W.kIn_of Y) ?F (fun w H a ns hl hO hS => Lw.law_enter hl hO hS)
  case F =>
    intro w mg fa h KX G hmg
    refine' Lw.all_mk KX G hmg ?a_draw ?l_draw ?o_draw ?k_draw ?a_pick ?l_pick ?o_pick ?k_pick ?a_integer ?l_integer ?o_integer ?k_integer ?a_parts ?l_parts ?o_parts ?k_parts ?a_valueL ?l_valueL ?o_valueL ?k_valueL ?a_wider ?l_wider ?o_wider ?k_wider ?a_later ?l_later ?o_later ?k_later ?a_beside ?l_beside ?o_beside ?k_beside ?a_is_integer ?l_is_integer ?o_is_integer ?k_is_integer ?a_is_count ?l_is_count ?o_is_count ?k_is_count ?a_check_first ?l_check_first ?o_check_first ?k_check_first ?a_is_list ?l_is_list ?o_is_list ?k_is_list ?a_check_values ?l_check_values ?o_check_values ?k_check_values ?a_is_row ?l_is_row ?o_is_row ?k_is_row ?a_check_rows ?l_check_rows ?o_check_rows ?k_check_rows ?a_check_parts ?l_check_parts ?o_check_parts ?k_check_parts ?a_Form_init ?i_Form_init ?l_Form_init ?o_Form_init ?k_Form_init ?a_form ?l_form ?o_form ?k_form ?a_unlike ?l_unlike ?o_unlike ?k_unlike ?pa_Form_first ?pg_Form_first ?pt_Form_first ?pr_Form_first ?l_Form_first ?o_Form_first ?k_Form_first ?pa_Form_begin ?pg_Form_begin ?pt_Form_begin ?pr_Form_begin ?l_Form_begin ?o_Form_begin ?k_Form_begin ?pa_Form_period ?pg_Form_period ?pt_Form_period ?pr_Form_period ?l_Form_period ?o_Form_period ?k_Form_period ?a_row_value ?l_row_value ?o_row_value ?k_row_value ?a_place_value ?l_place_value ?o_place_value ?k_place_value ?a_value ?l_value ?o_value ?k_value ?a_spread_row ?l_spread_row ?o_spread_row ?k_spread_row ?a_spread ?l_spread ?o_spread ?k_spread ?a_Reckoned_init ?i_Reckoned_init ?l_Reckoned_init ?o_Reckoned_init ?k_Reckoned_init ?a_reckoned_form ?l_reckoned_form ?o_reckoned_form ?k_reckoned_form ?a_joined ?l_joined ?o_joined ?k_joined ?a_fewest_early ?l_fewest_early ?o_fewest_early ?k_fewest_early ?a_folded ?l_folded ?o_folded ?k_folded ?a_fewest_rows ?l_fewest_rows ?o_fewest_rows ?k_fewest_rows ?a_Form_reduced ?i_Form_reduced ?l_Form_reduced ?o_Form_reduced ?k_Form_reduced ?a_Form_sub ?i_Form_sub ?l_Form_sub ?o_Form_sub ?k_Form_sub ?a_first_unlike ?l_first_unlike ?o_first_unlike ?k_first_unlike ?a_same_values ?l_same_values ?o_same_values ?k_same_values ?a_checked ?l_checked ?o_checked ?k_checked ?a_lifted ?l_lifted ?o_lifted ?k_lifted ?a_Form_add ?i_Form_add ?l_Form_add ?o_Form_add ?k_Form_add ?a_are_right ?l_are_right ?o_are_right ?k_are_right ?a_right ?l_right ?o_right ?k_right ?a_pot ?l_pot ?o_pot ?k_pot ?a_law ?l_law ?o_law ?k_law ?aC_Form ?pg_Form ?hd_Form ?po_Form ?sa_Form ?mk_Form ?kc_Form ?na_Form__first ?na_Form__early ?na_Form__rows ?aC_Reckoned ?pg_Reckoned ?hd_Reckoned ?po_Reckoned ?sa_Reckoned ?mk_Reckoned ?kc_Reckoned ?na_Reckoned_parts ?ic1_Form ?ic2_Form ?ic3_Form ?ic4_Form ?ic1_Reckoned ?ic2_Reckoned ?ic3_Reckoned ?ic4_Reckoned ?in1_Form ?in2_Form ?in1_Reckoned ?in2_Reckoned ?obf_Form ?obs_Form_Add ?obs_Form_Sub ?obr_Form_Add ?obi_Form_Add ?obj_Form_Add ?z_abs ?z_all ?z_bool ?z_dict ?z_divmod ?z_enumerate ?z_int ?z_isinstance ?z_len ?z_list ?z_max ?z_min ?z_range ?z_repr ?z_tuple ?z_zip ?i_lcm ?c_MOST_ROWS ?c_MOST_VALUES
    (case aC_Form => k_is); (case aC_Reckoned => k_is); (case a_draw => k_is); (case l_draw => k_is); (case o_draw => k_is); (case k_draw => k_is); (case a_pick => k_is); (case l_pick => k_is); (case o_pick => k_is); (case k_pick => k_is); (case a_integer => k_is); (case l_integer => k_is); (case o_integer => k_is); (case k_integer => k_is); (case a_parts => k_is); (case l_parts => k_is); (case o_parts => k_is); (case k_parts => k_is); (case a_valueL => k_is); (case l_valueL => k_is); (case o_valueL => k_is); (case k_valueL => k_is); (case a_wider => k_is); (case l_wider => k_is); (case o_wider => k_is); (case k_wider => k_is); (case a_later => k_is); (case l_later => k_is); (case o_later => k_is); (case k_later => k_is); (case a_beside => k_is); (case l_beside => k_is); (case o_beside => k_is); (case k_beside => k_is); (case a_is_integer => k_is); (case l_is_integer => k_is); (case o_is_integer => k_is); (case k_is_integer => k_is); (case a_is_count => k_is); (case l_is_count => k_is); (case o_is_count => k_is); (case k_is_count => k_is); (case a_check_first => k_is); (case l_check_first => k_is); (case o_check_first => k_is); (case k_check_first => k_is); (case a_is_list => k_is); (case l_is_list => k_is); (case o_is_list => k_is); (case k_is_list => k_is); (case a_check_values => k_is); (case l_check_values => k_is); (case o_check_values => k_is); (case k_check_values => k_is); (case a_is_row => k_is); (case l_is_row => k_is); (case o_is_row => k_is); (case k_is_row => k_is); (case a_check_rows => k_is); (case l_check_rows => k_is); (case o_check_rows => k_is); (case k_check_rows => k_is); (case a_check_parts => k_is); (case l_check_parts => k_is); (case o_check_parts => k_is); (case k_check_parts => k_is); (case a_Form_init => k_is); (case i_Form_init => k_is); (case l_Form_init => k_is); (case o_Form_init => k_is); (case k_Form_init => k_is); (case a_form => k_is); (case l_form => k_is); (case o_form => k_is); (case k_form => k_is); (case a_unlike => k_is); (case l_unlike => k_is); (case o_unlike => k_is); (case k_unlike => k_is); (case pa_Form_first => k_is); (case pg_Form_first => k_is); (case pt_Form_first => k_is); (case pr_Form_first => k_is); (case l_Form_first => k_is); (case o_Form_first => k_is); (case k_Form_first => k_is); (case pa_Form_begin => k_is); (case pg_Form_begin => k_is); (case pt_Form_begin => k_is); (case pr_Form_begin => k_is); (case l_Form_begin => k_is); (case o_Form_begin => k_is); (case k_Form_begin => k_is); (case pa_Form_period => k_is); (case pg_Form_period => k_is); (case pt_Form_period => k_is); (case pr_Form_period => k_is); (case l_Form_period => k_is); (case o_Form_period => k_is); (case k_Form_period => k_is); (case a_row_value => k_is); (case l_row_value => k_is); (case o_row_value => k_is); (case k_row_value => k_is); (case a_place_value => k_is); (case l_place_value => k_is); (case o_place_value => k_is); (case k_place_value => k_is); (case a_value => k_is); (case l_value => k_is); (case o_value => k_is); (case k_value => k_is); (case a_spread_row => k_is); (case l_spread_row => k_is); (case o_spread_row => k_is); (case k_spread_row => k_is); (case a_spread => k_is); (case l_spread => k_is); (case o_spread => k_is); (case k_spread => k_is); (case a_Reckoned_init => k_is); (case i_Reckoned_init => k_is); (case l_Reckoned_init => k_is); (case o_Reckoned_init => k_is); (case k_Reckoned_init => k_is); (case a_reckoned_form => k_is); (case l_reckoned_form => k_is); (case o_reckoned_form => k_is); (case k_reckoned_form => k_is); (case a_joined => k_is); (case l_joined => k_is); (case o_joined => k_is); (case k_joined => k_is); (case a_fewest_early => k_is); (case l_fewest_early => k_is); (case o_fewest_early => k_is); (case k_fewest_early => k_is); (case a_folded => k_is); (case l_folded => k_is); (case o_folded => k_is); (case k_folded => k_is); (case a_fewest_rows => k_is); (case l_fewest_rows => k_is); (case o_fewest_rows => k_is); (case k_fewest_rows => k_is); (case a_Form_reduced => k_is); (case i_Form_reduced => k_is); (case l_Form_reduced => k_is); (case o_Form_reduced => k_is); (case k_Form_reduced => k_is); (case a_Form_sub => k_is); (case i_Form_sub => k_is); (case l_Form_sub => k_is); (case o_Form_sub => k_is); (case k_Form_sub => k_is); (case a_first_unlike => k_is); (case l_first_unlike => k_is); (case o_first_unlike => k_is); (case k_first_unlike => k_is); (case a_same_values => k_is); (case l_same_values => k_is); (case o_same_values => k_is); (case k_same_values => k_is); (case a_checked => k_is); (case l_checked => k_is); (case o_checked => k_is); (case k_checked => k_is); (case a_lifted => k_is); (case l_lifted => k_is); (case o_lifted => k_is); (case k_lifted => k_is); (case a_Form_add => k_is); (case i_Form_add => k_is); (case l_Form_add => k_is); (case o_Form_add => k_is); (case k_Form_add => k_is); (case a_are_right => k_is); (case l_are_right => k_is); (case o_are_right => k_is); (case k_are_right => k_is); (case a_right => k_is); (case l_right => k_is); (case o_right => k_is); (case k_right => k_is); (case a_pot => k_is); (case l_pot => k_is); (case o_pot => k_is); (case k_pot => k_is); (case a_law => k_is); (case l_law => k_is); (case o_law => k_is); (case k_law => k_is); (case pg_Form => k_is); (case hd_Form => k_is); (case po_Form => k_is); (case sa_Form => k_is); (case mk_Form => k_is); (case kc_Form => k_is); (case na_Form__first => k_is); (case na_Form__early => k_is); (case na_Form__rows => k_is); (case pg_Reckoned => k_is); (case hd_Reckoned => k_is); (case po_Reckoned => k_is); (case sa_Reckoned => k_is); (case mk_Reckoned => k_is); (case kc_Reckoned => k_is); (case na_Reckoned_parts => k_is); (case ic1_Form => k_is); (case ic2_Form => k_is); (case ic3_Form => k_is); (case ic4_Form => k_is); (case ic1_Reckoned => k_is); (case ic2_Reckoned => k_is); (case ic3_Reckoned => k_is); (case ic4_Reckoned => k_is); (case in1_Form => k_is); (case in2_Form => k_is); (case in1_Reckoned => k_is); (case in2_Reckoned => k_is); (case obf_Form => k_is); (case obs_Form_Add => k_is); (case obs_Form_Sub => k_is); (case obr_Form_Add => k_is); (case obi_Form_Add => k_is); (case obj_Form_Add => k_is); (case z_abs => k_is); (case z_all => k_is); (case z_bool => k_is); (case z_dict => k_is); (case z_divmod => k_is); (case z_enumerate => k_is); (case z_int => k_is); (case z_isinstance => k_is); (case z_len => k_is); (case z_list => k_is); (case z_max => k_is); (case z_min => k_is); (case z_range => k_is); (case z_repr => k_is); (case z_tuple => k_is); (case z_zip => k_is); (case i_lcm => k_is); (case c_MOST_ROWS => k_is); (case c_MOST_VALUES => k_is)
