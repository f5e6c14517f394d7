import PyProof.Rows.All
import Wide.All
import OpenK.AllK
import Wide.FinOn
import KE.GoesEnum
import HandS.DictEq
import PyProof.ListStr
import KE.GoesMore
import HandS.ForMost
import HandS.Property
import HandS.IsInst
import HandS.Wide
import HandS.WideBits
import HandS.Defaults
import HandS.StrMore
import HandS.Style
import HandS.Codes
import HandS.OwnEq
import HandS.Conv
import HandS.SetFor
import HandS.WrittenGet
import PyProof.StrBlock2
import PyProof.LongRange
import PyProof.ReprRoads
import HandS.FStr
import HandS.MakeKwOnly
import HandS.ListItems
import HandS.Gcd
import HandS.Small
import HandS.NoneIn
import HandS.Walk
import HandS.Deep
import HandS.SortRule
import HandS.SortInts
import HandS.Star
import KE.KOpsOwn
import KE.KMathGC
import HandS.Flt
import KE.KMathG
import KE.DataMinMax
import HandS.SortKw
import HandS.Zip
import Flt.RightSqrt
import PyProof.ReprNest
import HandS.ClsMeth
import HandS.TupLe
import HandS.Lambda
import HandS.ExcInit
import HandS.ExcIs
import HandS.ExcField
import HandS.ExcOwn
import HandS.TryMany
import HandS.WordsExc
import KE.KExcIs
import HandS.EndTab
import PySem.Challenge.RW_ringrows_k46_breaks_and_stays_of_rows
set_option Elab.async false
set_option linter.all false
set_option maxRecDepth 100000
set_option maxHeartbeats 4000000
namespace Rx
open PySem PySem.Spec PyProof.Rows L2

inductive D where
  | v (x : V)
  | lst (xs : List D)
  | tup (xs : List D)
  | ins (C : Addr) (ns : List Str) (xs : List D)
  | dct (ks : List Key) (xs : List D)
  | dcT (ks : List (List Key)) (xs : List D)

mutual
def rep (ms : List Addr) (H : Hp) : D → V → Prop
  | .v x, u => u = x
  | .lst ds, u => ∃ p vs, u = .ref p ∧ p ∉ ms ∧ H p = some (.lst vs) ∧ repL ms H ds vs
  | .tup ds, u => ∃ p vs, u = .ref p ∧ p ∉ ms ∧ H p = some (.tup vs) ∧ repL ms H ds vs
  | .ins C ns ds, u => ∃ p dx vs, u = .ref p ∧ p ∉ ms ∧ H p = some (.ins C dx (ns.zip vs)) ∧ ns.length = vs.length ∧ repL ms H ds vs
  | .dct ks ds, u => ∃ p vs, u = .ref p ∧ p ∉ ms ∧ H p = some (.dK (ks.zip vs)) ∧ ks.length = vs.length ∧ repL ms H ds vs
  | .dcT ks ds, u => ∃ p vs, u = .ref p ∧ p ∉ ms ∧ H p = some (.dT (ks.zip vs)) ∧ ks.length = vs.length ∧ repL ms H ds vs
def repL (ms : List Addr) (H : Hp) : List D → List V → Prop
  | [], vs => vs = []
  | d :: ds, vs => ∃ u us, vs = u :: us ∧ rep ms H d u ∧ repL ms H ds us
end

mutual
theorem rep_map {ms ms' : List Addr} {H H' : Hp} (f : ∀ p o, p ∉ ms → H p = some o → p ∉ ms' ∧ H' p = some o) : ∀ (d : D) (u : V), rep ms H d u → rep ms' H' d u
  | .v x, u, h => by
    simp only [rep] at h ⊢
    exact h
  | .lst ds, u, h => by
    simp only [rep] at h ⊢
    obtain ⟨p, vs, e, n, hp, hl⟩ := h
    exact ⟨p, vs, e, (f p _ n hp).1, (f p _ n hp).2, repL_map f ds vs hl⟩
  | .tup ds, u, h => by
    simp only [rep] at h ⊢
    obtain ⟨p, vs, e, n, hp, hl⟩ := h
    exact ⟨p, vs, e, (f p _ n hp).1, (f p _ n hp).2, repL_map f ds vs hl⟩
  | .ins C ns ds, u, h => by
    simp only [rep] at h ⊢
    obtain ⟨p, dx, vs, e, n, hp, hn, hl⟩ := h
    exact ⟨p, dx, vs, e, (f p _ n hp).1, (f p _ n hp).2, hn, repL_map f ds vs hl⟩
  | .dct ks ds, u, h => by
    simp only [rep] at h ⊢
    obtain ⟨p, vs, e, n, hp, hn, hl⟩ := h
    exact ⟨p, vs, e, (f p _ n hp).1, (f p _ n hp).2, hn, repL_map f ds vs hl⟩
  | .dcT ks ds, u, h => by
    simp only [rep] at h ⊢
    obtain ⟨p, vs, e, n, hp, hn, hl⟩ := h
    exact ⟨p, vs, e, (f p _ n hp).1, (f p _ n hp).2, hn, repL_map f ds vs hl⟩
theorem repL_map {ms ms' : List Addr} {H H' : Hp} (f : ∀ p o, p ∉ ms → H p = some o → p ∉ ms' ∧ H' p = some o) : ∀ (ds : List D) (us : List V), repL ms H ds us → repL ms' H' ds us
  | [], us, h => by
    simp only [repL] at h ⊢
    exact h
  | d :: ds, us, h => by
    simp only [repL] at h ⊢
    obtain ⟨u, vs, e, h1, h2⟩ := h
    exact ⟨u, vs, e, rep_map f d u h1, repL_map f ds vs h2⟩
end

theorem repL_len {ms : List Addr} {H : Hp} : ∀ {ds : List D} {vs : List V}, repL ms H ds vs → ds.length = vs.length
  | [], vs, h => by
    simp only [repL] at h
    rw [h]
    rfl
  | d :: ds, vs, h => by
    simp only [repL] at h
    obtain ⟨u, us, e, _, h2⟩ := h
    rw [e]
    show ds.length + 1 = us.length + 1
    rw [repL_len h2]
theorem repL_get {ms : List Addr} {H : Hp} : ∀ {ds : List D} {vs : List V} {j : Nat} {d : D}, repL ms H ds vs → ds[j]? = some d → ∃ v, vs[j]? = some v ∧ rep ms H d v
  | [], vs, j, d, h, e => by simp at e
  | d0 :: ds, vs, 0, d, h, e => by
    simp only [repL] at h
    obtain ⟨u, us, rfl, h1, _⟩ := h
    have e' : d0 = d := Option.some.inj e
    subst e'
    exact ⟨u, rfl, h1⟩
  | d0 :: ds, vs, j + 1, d, h, e => by
    simp only [repL] at h
    obtain ⟨u, us, rfl, _, h2⟩ := h
    exact repL_get (j := j) h2 (by simpa using e)
theorem repL_app {ms : List Addr} {H : Hp} : ∀ {ds es : List D} {vs us : List V}, repL ms H ds vs → repL ms H es us → repL ms H (ds ++ es) (vs ++ us)
  | [], es, vs, us, h, h' => by
    simp only [repL] at h
    rw [h]
    exact h'
  | d :: ds, es, vs, us, h, h' => by
    simp only [repL] at h
    obtain ⟨u, ws, rfl, h1, h2⟩ := h
    show repL ms H (d :: (ds ++ es)) (u :: (ws ++ us))
    simp only [repL]
    exact ⟨u, ws ++ us, rfl, h1, repL_app h2 h'⟩
theorem repL_one {ms : List Addr} {H : Hp} {d : D} {u : V} (h : rep ms H d u) : repL ms H [d] [u] := by
  simp only [repL]
  exact ⟨u, [], rfl, h, rfl⟩
theorem repL_nil {ms : List Addr} {H : Hp} : repL ms H [] [] := by simp only [repL]
theorem repL_cons {ms : List Addr} {H : Hp} {d : D} {u : V} {ds : List D} {us : List V} (h : rep ms H d u) (t : repL ms H ds us) : repL ms H (d :: ds) (u :: us) := by
  simp only [repL]
  exact ⟨u, us, rfl, h, t⟩
theorem rep_v {ms : List Addr} {H : Hp} {x : V} : rep ms H (.v x) x := by simp only [rep]
theorem of_v {ms : List Addr} {H : Hp} {x u : V} (h : rep ms H (.v x) u) : u = x := by
  simp only [rep] at h
  exact h
/-- a list of flat values -/
theorem repL_flat {ms : List Addr} {H : Hp} : ∀ {xs vs : List V}, repL ms H (xs.map D.v) vs ↔ vs = xs
  | [], vs => by simp only [List.map_nil, repL]
  | x :: xs, vs => by
    simp only [List.map_cons, repL]
    constructor
    · rintro ⟨u, us, rfl, h1, h2⟩
      rw [of_v h1, repL_flat.mp h2]
    · rintro rfl
      exact ⟨x, xs, rfl, rep_v, repL_flat.mpr rfl⟩

/-! ### frames -/
def PotH (H : Hp) (a : Addr) : Prop := ∃ i j : Int, H a = some (.lst [.int i, .int j]) ∧ j.natAbs < 4294967296
/-- what may change: pots, and tables of code objects, each with the name of its code -/
abbrev PEn := Addr × Option Str
abbrev ad (ps : List PEn) : List Addr := ps.map Prod.fst
def EntH (H : Hp) (p : PEn) : Prop := match p.2 with
  | none => PotH H p.1
  | some q => LamX.TabS H p.1 q
theorem ent_ne {H : Hp} {p : PEn} {o : HO} (h : EntH H p) (e : H p.1 = some o) : (∃ xs, o = .lst xs) ∨ ∃ xs, o = .tbl xs := by
  obtain ⟨a, k⟩ := p
  cases k with
  | none =>
    obtain ⟨i, j, h1, _⟩ := h
    rw [h1] at e
    cases e
    exact .inl ⟨_, rfl⟩
  | some q =>
    obtain ⟨xs, h1, _⟩ := h
    rw [h1] at e
    cases e
    exact .inr ⟨_, rfl⟩
theorem ent_some {H : Hp} {p : PEn} (h : EntH H p) : H p.1 ≠ none := fun z => by
  obtain ⟨a, k⟩ := p
  cases k with
  | none =>
    obtain ⟨i, j, h1, _⟩ := h
    rw [z] at h1
    cases h1
  | some q =>
    obtain ⟨xs, h1, _⟩ := h
    rw [z] at h1
    cases h1
/-- an entry stays where its own thing and all code objects do -/
theorem ent_stay {H H' : Hp} {p : PEn} (h : EntH H p) (f : ∀ o, H p.1 = some o → H' p.1 = some o) (g : ∀ c q, H c = some (LamX.CodeO c q) → H' c = some (LamX.CodeO c q)) : EntH H' p := by
  obtain ⟨a, k⟩ := p
  cases k with
  | none =>
    obtain ⟨i, j, h1, h2⟩ := h
    exact ⟨i, j, f _ h1, h2⟩
  | some q =>
    obtain ⟨xs, h1, h2, h3⟩ := h
    exact ⟨xs, f _ h1, h2, fun pos cv hc => by
      obtain ⟨c, e1, e2⟩ := h3 pos cv hc
      exact ⟨c, e1, g c q e2⟩⟩
structure Ret (ps : List PEn) (H H' : Hp) : Prop where
  kp : ∀ a o, a ∉ ad ps → H a = some o → H' a = some o
  pot : ∀ a ∈ ps, EntH H' a
  grow : ∀ a, H a ≠ none → H' a ≠ none
abbrev Ext (H H' : Hp) : Prop := Ret [] H H'
theorem Ret.rfl0 {H : Hp} : Ret [] H H := ⟨fun _ _ _ h => h, fun _ h => absurd h List.not_mem_nil, fun _ h => h⟩
theorem Ext.keep {H H' : Hp} (e : Ext H H') {a : Addr} {o : HO} (h : H a = some o) : H' a = some o := e.kp a o (by simp) h
theorem Ext.new {H : Hp} {p : Addr} {o : HO} (np : H p = none) : Ext H (upd H p o) := by
  refine ⟨fun a u _ h => ?_, fun _ h => absurd h List.not_mem_nil, fun a h => ?_⟩
  · rw [upd_ne (ne_of_none h np)]
    exact h
  · by_cases e : a = p
    · rw [e, upd_same]
      exact fun z => nomatch z
    · rw [upd_ne e]
      exact h
theorem newH {H : Hp} {o : HO} {Q : V → Hp → Prop} (h : ∀ p H', H p = none → Ext H H' → H' p = some o → Q (.ref p) H') : ∀ p, H p = none → Q (.ref p) (upd H p o) :=
  fun p np => h p _ np (Ext.new np) upd_same

structure Wd (ms : List Addr) (ps : List PEn) (cs : List (Addr × List V)) (H0 H : Hp) : Prop where
  kp : ∀ a o, a ∉ ad ps → H0 a = some o → H a = some o
  grow : ∀ a, H0 a ≠ none → H a ≠ none
  tr : ∀ m ∈ ms, H m ≠ none
  pot : ∀ a ∈ ps, EntH H a
  pm : ∀ a ∈ ad ps, a ∈ ms
  cel : ∀ c ∈ cs, H c.1 = some (.lst c.2) ∧ c.1 ∈ ms ∧ c.1 ∉ ad ps ∧ H0 c.1 = none

section
variable {ms : List Addr} {ps ps' : List PEn} {cs : List (Addr × List V)} {H0 H H' : Hp} {d : D} {u : V}
theorem ad_mem {ps ps' : List PEn} (hs : ∀ a ∈ ps', a ∈ ps) {a : Addr} (h : a ∈ ad ps') : a ∈ ad ps := by
  obtain ⟨p, hp, rfl⟩ := List.mem_map.mp h
  exact List.mem_map.mpr ⟨p, hs p hp, rfl⟩
theorem mem_ad {ps : List PEn} {p : PEn} (h : p ∈ ps) : p.1 ∈ ad ps := List.mem_map.mpr ⟨p, h, rfl⟩
theorem Wd.ret (hs : ∀ a ∈ ps', a ∈ ps) (hu : ∀ p ∈ ps, p.1 ∈ ad ps' → p ∈ ps') (w : Wd ms ps cs H0 H) (e : Ret ps' H H') : Wd ms ps cs H0 H' where
  kp := fun a o n h => e.kp a o (fun z => n (ad_mem hs z)) (w.kp a o n h)
  grow := fun a h => e.grow a (w.grow a h)
  tr := fun m h => e.grow m (w.tr m h)
  pot := fun p h => by
    by_cases z : p ∈ ps'
    · exact e.pot p z
    · refine ent_stay (w.pot p h) (fun o ho => e.kp _ o (fun y => z (hu p h y)) ho) fun c q hc => e.kp _ _ (fun y => ?_) hc
      obtain ⟨p2, h2, e2⟩ := List.mem_map.mp y
      have := w.pot p2 (hs p2 h2)
      rw [← e2] at hc
      rcases ent_ne this hc with ⟨xs, hx⟩ | ⟨xs, hx⟩ <;> cases hx
  pm := w.pm
  cel := fun c h => by
    obtain ⟨h1, h2, h3, h4⟩ := w.cel c h
    exact ⟨e.kp _ _ (fun z => h3 (ad_mem hs z)) h1, h2, h3, h4⟩
theorem Wd.ret0 (w : Wd ms ps cs H0 H) (e : Ret [] H H') : Wd ms ps cs H0 H' := w.ret (fun _ h => absurd h List.not_mem_nil) (fun _ _ h => absurd h List.not_mem_nil) e
theorem Wd.retP (w : Wd ms ps cs H0 H) (e : Ret ps H H') : Wd ms ps cs H0 H' := w.ret (fun _ h => h) (fun _ h _ => h) e
/-- a call that changes some of the pots alone -/
theorem Wd.retS (hs : ∀ a ∈ ps', a ∈ ps) (hk : ∀ a ∈ ps', a.2 = none) (w : Wd ms ps cs H0 H) (e : Ret ps' H H') : Wd ms ps cs H0 H' := w.ret hs (fun p h z => by
  obtain ⟨p2, h2, e2⟩ := List.mem_map.mp z
  have a1 := w.pot p h
  have a2 := w.pot p2 (hs p2 h2)
  have k2 := hk p2 h2
  obtain ⟨a, k⟩ := p
  obtain ⟨b, k'⟩ := p2
  cases k2
  cases e2
  cases k with
  | none => exact h2
  | some q =>
    obtain ⟨i, j, h1, _⟩ := a2
    obtain ⟨xs, h3, _⟩ := a1
    rw [h1] at h3
    cases h3) e
theorem Wd.enterS (hs : ∀ a ∈ ps', a ∈ ps) (w : Wd ms ps cs H0 H) : Wd ms ps' [] H H := ⟨fun _ _ _ h => h, fun _ h => h, w.tr, fun a h => w.pot a (hs a h), fun a h => w.pm a (ad_mem hs h), fun _ h => absurd h List.not_mem_nil⟩
theorem Wd.enter0 (w : Wd ms ps cs H0 H) : Wd ms [] [] H H := ⟨fun _ _ _ h => h, fun _ h => h, w.tr, fun _ h => absurd h List.not_mem_nil, fun _ h => absurd h List.not_mem_nil, fun _ h => absurd h List.not_mem_nil⟩
theorem Wd.enterP (w : Wd ms ps cs H0 H) : Wd ms ps [] H H := ⟨fun _ _ _ h => h, fun _ h => h, w.tr, w.pot, w.pm, fun _ h => absurd h List.not_mem_nil⟩
theorem Wd.out (w : Wd ms ps cs H0 H) : Ret ps H0 H := ⟨w.kp, w.pot, w.grow⟩
theorem rep_ret (w : Wd ms ps cs H0 H) (e : Ret ps H H') (h : rep ms H d u) : rep ms H' d u := rep_map (fun p o n hp => ⟨n, e.kp p o (fun z => n (w.pm p z)) hp⟩) d u h
theorem rep_ext (e : Ret [] H H') (h : rep ms H d u) : rep ms H' d u := rep_map (fun p o n hp => ⟨n, e.kp p o (by simp) hp⟩) d u h
theorem repL_ret {ds : List D} {us : List V} (w : Wd ms ps cs H0 H) (e : Ret ps H H') (h : repL ms H ds us) : repL ms H' ds us := repL_map (fun p o n hp => ⟨n, e.kp p o (fun z => n (w.pm p z)) hp⟩) ds us h
theorem repL_ext {ds : List D} {us : List V} (e : Ret [] H H') (h : repL ms H ds us) : repL ms H' ds us := repL_map (fun p o n hp => ⟨n, e.kp p o (by simp) hp⟩) ds us h
/-- a new cell -/
theorem Wd.cell {l : Addr} {xs : List V} (w : Wd ms ps cs H0 H) (nl : H l = none) : Wd (l :: ms) ps ((l, xs) :: cs) H0 (upd H l (.lst xs)) := by
  have e : Ext H (upd H l (.lst xs)) := Ext.new nl
  have w1 := w.ret0 e
  refine ⟨w1.kp, w1.grow, fun m h => ?_, w1.pot, fun a h => List.mem_cons_of_mem _ (w.pm a h), fun c h => ?_⟩
  · rcases List.mem_cons.mp h with rfl | h
    · rw [upd_same]
      exact fun z => nomatch z
    · exact w1.tr m h
  · rcases List.mem_cons.mp h with rfl | h
    · refine ⟨upd_same, List.mem_cons_self, fun z => ?_, ?_⟩
      · obtain ⟨p, hp, e2⟩ := List.mem_map.mp z
        exact ent_some (w.pot p hp) (by rw [e2]; exact nl)
      · show H0 l = none
        cases q : H0 l with
        | none => rfl
        | some o => exact absurd nl (w.grow l (by rw [q]; exact fun z => nomatch z))
    · obtain ⟨h1, h2, h3, h4⟩ := w1.cel c h
      exact ⟨h1, List.mem_cons_of_mem _ h2, h3, h4⟩
theorem rep_cell {l : Addr} {o : HO} (nl : H l = none) (h : rep ms H d u) : rep (l :: ms) (upd H l o) d u := by
  refine rep_map (fun p o n hp => ?_) d u h
  have ne : p ≠ l := ne_of_none hp nl
  refine ⟨fun z => ?_, by rw [upd_ne ne]; exact hp⟩
  rcases List.mem_cons.mp z with z | z
  · exact ne z
  · exact n z
/-- a cell's store -/
theorem Wd.put {l : Addr} {xs ys : List V} (w : Wd ms ps ((l, xs) :: cs) H0 H) (hn : ∀ c ∈ cs, c.1 ≠ l) : Wd ms ps ((l, ys) :: cs) H0 (upd H l (.lst ys)) := by
  obtain ⟨hl, lm, lp, l0⟩ := w.cel _ List.mem_cons_self
  refine ⟨fun a o n h => ?_, fun a h => ?_, fun m h => ?_, fun a h => ?_, w.pm, fun c h => ?_⟩
  · rw [upd_ne (ne_of_none h l0)]
    exact w.kp a o n h
  · by_cases e : a = l
    · rw [e, upd_same]
      exact fun z => nomatch z
    · rw [upd_ne e]
      exact w.grow a h
  · by_cases e : m = l
    · rw [e, upd_same]
      exact fun z => nomatch z
    · rw [upd_ne e]
      exact w.tr m h
  · refine ent_stay (w.pot a h) (fun o ho => by rw [upd_ne (fun z => lp (by rw [← z]; exact mem_ad h))]; exact ho) fun c q hc => ?_
    rw [upd_ne (fun z => by rw [z, hl] at hc; cases hc)]
    exact hc
  · rcases List.mem_cons.mp h with rfl | h
    · exact ⟨upd_same, lm, lp, l0⟩
    · obtain ⟨h1, h2, h3, h4⟩ := w.cel c (List.mem_cons_of_mem _ h)
      exact ⟨by rw [upd_ne (hn c h)]; exact h1, h2, h3, h4⟩
theorem rep_put {l : Addr} {o : HO} (lm : l ∈ ms) (h : rep ms H d u) : rep ms (upd H l o) d u :=
  rep_map (fun p o n hp => ⟨n, by rw [upd_ne (fun z => n (by rw [z]; exact lm))]; exact hp⟩) d u h
theorem repL_put {ds : List D} {us : List V} {l : Addr} {o : HO} (lm : l ∈ ms) (h : repL ms H ds us) : repL ms (upd H l o) ds us :=
  repL_map (fun p o n hp => ⟨n, by rw [upd_ne (fun z => n (by rw [z]; exact lm))]; exact hp⟩) ds us h
/-- the newest cell is a list for good -/
theorem Wd.froze {l : Addr} {xs : List V} (w : Wd (l :: ms) ps ((l, xs) :: cs) H0 H) (hp : ∀ a ∈ ad ps, a ∈ ms) (hc : ∀ c ∈ cs, c.1 ∈ ms) : Wd ms ps cs H0 H :=
  ⟨w.kp, w.grow, fun m h => w.tr m (List.mem_cons_of_mem _ h), w.pot, hp, fun c h => by
    obtain ⟨h1, _, h3, h4⟩ := w.cel c (List.mem_cons_of_mem _ h)
    exact ⟨h1, hc c h, h3, h4⟩⟩
theorem rep_weak {l : Addr} (h : rep (l :: ms) H d u) : rep ms H d u := rep_map (fun p o n hp => ⟨fun z => n (List.mem_cons_of_mem _ z), hp⟩) d u h
theorem repL_weak {ds : List D} {us : List V} {l : Addr} (h : repL (l :: ms) H ds us) : repL ms H ds us := repL_map (fun p o n hp => ⟨fun z => n (List.mem_cons_of_mem _ z), hp⟩) ds us h
end

/-! ### a reading may be weakened at its end: the places where ways are joined -/
def upE (t : TE) : TE := fun σ H Q => ∃ Q' : VK, t σ H Q' ∧ ∀ v H', Q' v H' → Q v H'
def upT (t : TT) : TT := fun σ H Q => ∃ Q' : Bool → Hp → Prop, t σ H Q' ∧ ∀ b H', Q' b H' → Q b H'
def upS (t : TS) : TS := fun D σ H => ∃ N : L2.St → Hp → Prop, t { D with nx := N } σ H ∧ ∀ σ' H', N σ' H' → D.nx σ' H'
section
variable {X : Cx}
theorem pe_up {e : Expr} {t : TE} (h : PE X e t) : PE X e (upE t) := ⟨fun pins s σ H Q I ⟨Q', hq, m⟩ => thn (h.run pins s σ H Q' I hq) fun u s' ⟨v, H', I', r, q⟩ => ⟨v, H', I', r, m v H' q⟩⟩
theorem pt_up {e : Expr} {t : TT} (h : PT X e t) : PT X e (upT t) := ⟨fun pins s σ H Q I ⟨Q', hq, m⟩ => thn (h.run pins s σ H Q' I hq) fun u s' ⟨H', I', q⟩ => ⟨H', I', m u H' q⟩⟩
theorem ps_up {st : Stmt} {t : TS} (h : PS X st t) : PS X st (upS t) := ⟨fun pins s σ H D I ⟨N, hq, m⟩ => thn (h.run pins s σ H _ I hq) fun f s' q => by
  cases f with
  | next => obtain ⟨σ', H', I', n⟩ := q; exact ⟨σ', H', I', m _ _ n⟩
  | brk => exact q
  | cont => exact q
  | ret u => exact q⟩
end

/-! ### loops by data -/
def mapC {α β : Type} (body : α → (β → Prop) → Prop) : List α → List β → (List β → Prop) → Prop
  | [], acc, k => k acc
  | x :: xs, acc, k => body x fun y => mapC body xs (acc ++ [y]) k
def filC {α β : Type} (body : α → (Option β → Prop) → Prop) : List α → List β → (List β → Prop) → Prop
  | [], acc, k => k acc
  | x :: xs, acc, k => body x fun o => match o with
    | some y => filC body xs (acc ++ [y]) k
    | none => filC body xs acc k
def forC {α S : Type} (body : α → S → (S → Prop) → Prop) : List α → S → (S → Prop) → Prop
  | [], s, k => k s
  | x :: xs, s, k => body x s fun s' => forC body xs s' k
def whileC {S : Type} (body : S → (S → Prop) → (S → Prop) → Prop) : Nat → S → (S → Prop) → Prop
  | 0, _, _ => False
  | n + 1, s, k => body s (fun s' => whileC body n s' k) k
def rangeI (lo hi : Int) : List Int := (List.range (hi - lo).toNat).map fun i => lo + ((i : Nat) : Int)
theorem rangeI_len {lo hi : Int} : (rangeI lo hi).length = (hi - lo).toNat := by simp [rangeI]
theorem rangeI_get {lo hi : Int} {i : Nat} (h : i < (hi - lo).toNat) : (rangeI lo hi)[i]? = some (lo + (i : Int)) := by
  simp [rangeI, List.getElem?_map, List.getElem?_range h]
theorem drop_cons' {α : Type} {xs : List α} {i : Nat} {x : α} (h : xs[i]? = some x) : xs.drop i = x :: xs.drop (i + 1) := by
  obtain ⟨h1, h2⟩ := List.getElem?_eq_some_iff.mp h
  rw [List.drop_eq_getElem_cons h1, h2]

/-- what a loop keeps of all that it does not change -/
def Keep (ms : List Addr) (H H' : Hp) : Prop := ∀ a o, a ∉ ms → H a = some o → H' a = some o
section
variable {ms : List Addr} {ps : List PEn} {cs : List (Addr × List V)} {H0 H H1 H' : Hp} {d : D} {u : V}
theorem Keep.refl : Keep ms H H := fun _ _ _ h => h
theorem keep_ret (w : Wd ms ps cs H0 H) (e : Ret ps H H') (k : Keep ms H1 H) : Keep ms H1 H' := fun a o n h => e.kp a o (fun z => n (w.pm a z)) (k a o n h)
theorem keep_ext (e : Ret [] H H') (k : Keep ms H1 H) : Keep ms H1 H' := fun a o n h => e.kp a o (by simp) (k a o n h)
theorem keep_cell {l : Addr} {o : HO} (nl : H l = none) (k : Keep ms H1 H) : Keep (l :: ms) H1 (upd H l o) := fun a u n h => by
  rw [upd_ne (fun z => n (by rw [z]; exact List.mem_cons_self))]
  exact k a u (fun z => n (List.mem_cons_of_mem _ z)) h
theorem keep_put {l : Addr} {o : HO} (lm : l ∈ ms) (k : Keep ms H1 H) : Keep ms H1 (upd H l o) := fun a u n h => by
  rw [upd_ne (fun z => n (by rw [z]; exact lm))]
  exact k a u n h
theorem rep_keep (k : Keep ms H H') (h : rep ms H d u) : rep ms H' d u := rep_map (fun p o n hp => ⟨n, k p o n hp⟩) d u h
theorem repL_keep {ds : List D} {us : List V} (k : Keep ms H H') (h : repL ms H ds us) : repL ms H' ds us := repL_map (fun p o n hp => ⟨n, k p o n hp⟩) ds us h
theorem at_keep {a : Addr} {o : HO} (k : Keep ms H H') (n : a ∉ ms) (h : H a = some o) : H' a = some o := k a o n h
end

theorem ite3 {c : Prop} [Decidable c] {A B P R : Prop} (h : if c then A else B) (h1 : A → P) (h2 : B → R) : if c then P else R := by
  by_cases q : c
  · rw [if_pos q] at h ⊢
    exact h1 h
  · rw [if_neg q] at h ⊢
    exact h2 h

section
variable {K : PySem.W.Frag} {ms : List Addr} {ps : List PEn} {cs : List (Addr × List V)} {H0 H : Hp} {d : D} {u x : V}
/-! ### readings by data -/
theorem rep_fld {C : Addr} {ns : List Str} {ds : List D} {f : Str} {Q : VK} {j : Nat} (h : rep ms H (.ins C ns ds) x) (c : Cls K C) (n : NoAttr K C f) (nd : ns.Nodup) (hn : ns[j]? = some f) (hd : ds[j]? = some d) (k : ∀ v, rep ms H d v → Q v H) :
    ∃ a C dx fs v, x = .ref a ∧ H a = some (.ins C dx fs) ∧ Cls K C ∧ NoAttr K C f ∧ fs.lookup f = some v ∧ Q v H := by
  simp only [rep] at h
  obtain ⟨p, dx, vs, e, _, hp, hl, hr⟩ := h
  obtain ⟨v, hv, rv⟩ := repL_get hr hd
  refine ⟨p, C, dx, _, v, e, hp, c, n, ?_, k v rv⟩
  clear hr hd hp e k rv
  induction ns generalizing vs j with
  | nil => simp at hn
  | cons n0 ns ih =>
    cases vs with
    | nil => simp at hv
    | cons v0 vs =>
      cases j with
      | zero =>
        have e1 : n0 = f := Option.some.inj hn
        have e2 : v0 = v := Option.some.inj hv
        subst e1 e2
        simp [List.lookup]
      | succ j =>
        have hn' : ns[j]? = some f := by simpa using hn
        have hv' : vs[j]? = some v := by simpa using hv
        have ne : f ≠ n0 := fun z => by
          subst z
          exact (List.nodup_cons.mp nd).1 (List.mem_of_getElem? hn')
        show ((n0, v0) :: ns.zip vs).lookup f = some v
        rw [List.lookup_cons, show (f == n0) = false from beq_eq_false_iff_ne.mpr ne]
        exact ih (List.nodup_cons.mp nd).2 hn' vs (by simpa using hl) hv'
theorem lookup_zip_none {m : Str} : ∀ {ns : List Str} {vs : List V}, m ∉ ns → (ns.zip vs).lookup m = none
  | [], vs, _ => by simp
  | n :: ns, [], _ => by simp
  | n :: ns, v :: vs, h => by
    show ((n, v) :: ns.zip vs).lookup m = none
    rw [List.lookup_cons, show (m == n) = false from beq_eq_false_iff_ne.mpr fun z => h (by rw [z]; exact List.mem_cons_self)]
    exact lookup_zip_none fun z => h (List.mem_cons_of_mem _ z)
theorem rep_meth {C : Addr} {ns : List Str} {ds : List D} {m : Str} {P : Hp → Prop} (h : rep ms H (.ins C ns ds) x) (hm : m ∉ ns) (k : P H) : ∃ a dx fs, x = .ref a ∧ H a = some (.ins C dx fs) ∧ fs.lookup m = none ∧ P H := by
  simp only [rep] at h
  obtain ⟨p, dx, vs, e, _, hp, hl, hr⟩ := h
  exact ⟨p, dx, _, e, hp, lookup_zip_none hm, k⟩
theorem rep_prop {C : Addr} {ns : List Str} {ds : List D} {P : Addr → Prop} (h : rep ms H (.ins C ns ds) x) (k : ∀ a, rep ms H (.ins C ns ds) (.ref a) → P a) : ∃ a dx fs, x = .ref a ∧ H a = some (.ins C dx fs) ∧ P a := by
  have h' := h
  simp only [rep] at h
  obtain ⟨p, dx, vs, e, _, hp, hl, hr⟩ := h
  subst e
  exact ⟨p, dx, _, rfl, hp, k p h'⟩
/-- t[j], j written -/
theorem rep_ixT {ds : List D} {i : Int} (j : Nat) {σ : L2.St} {Q : VK} (h : rep ms H (.tup ds) x) (hi : i = (j : Int)) (hd : ds[j]? = some d) (k : ∀ v, rep ms H d v → Q v H) : tC (V.int i) σ H fun y H2 => rIxT K x y H2 Q := by
  subst hi
  simp only [rep] at h
  obtain ⟨p, vs, e, _, hp, hr⟩ := h
  obtain ⟨v, hv, rv⟩ := repL_get hr hd
  exact ⟨p, vs, _, v, e, rfl, .inl (.inl hp), atI_nat hv, k v rv⟩
/-- xs[i] -/
theorem rep_ixL {α : Type} {e : α → D} {xs : List α} {i : Int} {Q : VK} (h : rep ms H (.lst (xs.map e)) x) (h0 : 0 ≤ i) (hi : i.toNat < xs.length) (k : ∀ v, rep ms H (e (xs[i.toNat]'hi)) v → Q v H) : rIxL K x (.int i) H Q := by
  simp only [rep] at h
  obtain ⟨p, vs, e', _, hp, hr⟩ := h
  obtain ⟨v, hv, rv⟩ := repL_get (d := e (xs[i.toNat]'hi)) hr (by rw [List.getElem?_map, List.getElem?_eq_getElem hi]; rfl)
  refine ⟨p, vs, i, v, e', rfl, .inl (.inl hp), at_of (j := i.toNat) (by omega) hv, k v rv⟩
theorem rep_lenL {α : Type} {e : α → D} {xs : List α} {P : Nat → Prop} (h : rep ms H (.lst (xs.map e)) x) (k : P xs.length) : ∃ y n, [x] = [y] ∧ LenV K y H n ∧ P n := by
  simp only [rep] at h
  obtain ⟨p, vs, e', _, hp, hr⟩ := h
  subst e'
  have hl := repL_len hr
  rw [List.length_map] at hl
  exact ⟨_, xs.length, rfl, .inl ⟨vs, .inl (.inl hp), hl⟩, k⟩
theorem rep_iter {ds : List D} {P : Addr → Prop} (h : rep ms H (.lst ds) x) (k : ∀ a xs, x = .ref a → a ∉ ms → H a = some (.lst xs) → repL ms H ds xs → P a) : ∃ a, x = .ref a ∧ (∃ xs, SqL K H a xs) ∧ P a := by
  simp only [rep] at h
  obtain ⟨p, vs, e, n, hp, hr⟩ := h
  exact ⟨p, e, ⟨vs, .inl (.inl hp)⟩, k p vs e n hp hr⟩
theorem rep_gtup {ds : List D} {n : Nat} {Q : L2.St → Hp → Prop} {t : TGs} {σ : L2.St} (h : rep ms H (.tup ds) x) (hn : ds.length = n) (k : ∀ vs, repL ms H ds vs → t vs σ H Q) : ∃ a xs, x = .ref a ∧ SqT K H a xs ∧ xs.length = n ∧ t xs σ H Q := by
  simp only [rep] at h
  obtain ⟨p, vs, e, _, hp, hr⟩ := h
  exact ⟨p, vs, e, .inl (.inl hp), by rw [← repL_len hr]; exact hn, k vs hr⟩
theorem rep_tup_mk {p : Addr} {ds : List D} {vs : List V} (w : Wd ms ps cs H0 H) (np : H p = none) (e : Ext H H') (hp : H' p = some (.tup vs)) (hr : repL ms H ds vs) : rep ms H' (.tup ds) (.ref p) := by
  simp only [rep]
  exact ⟨p, vs, rfl, fun z => w.tr p z np, hp, repL_ext e hr⟩
theorem rep_lst_mk {p : Addr} {ds : List D} {vs : List V} (w : Wd ms ps cs H0 H) (np : H p = none) (e : Ext H H') (hp : H' p = some (.lst vs)) (hr : repL ms H ds vs) : rep ms H' (.lst ds) (.ref p) := by
  simp only [rep]
  exact ⟨p, vs, rfl, fun z => w.tr p z np, hp, repL_ext e hr⟩
end

/-! ### comprehensions -/
section
variable {α β : Type} {K : PySem.W.Frag} {ms : List Addr} {ps : List PEn} {cs : List (Addr × List V)} {H0 H1 : Hp} {g : TG} {tt : TT} {te : TE} {vl : List Nat} {σ : L2.St} {Qd : Hp → Prop}
/-- where a turn begins: the new list at L holds what is made so far -/
structure Trn (ms : List Addr) (ps : List PEn) (cs : List (Addr × List V)) (H0 H1 : Hp) (L : Addr) (eb : β → D) (n : Nat) (ys : List β) (vs : List V) (H : Hp) : Prop where
  w : Wd (L :: ms) ps ((L, vs) :: cs) H0 H
  k : Keep (L :: ms) H1 H
  r : repL (L :: ms) H (ys.map eb) vs
  n : ys.length ≤ n
theorem Trn.add {L : Addr} {eb : β → D} {n : Nat} {ys : List β} {vs : List V} {H : Hp} {y : β} {u : V} (hc : ∀ c ∈ cs, c.1 ≠ L) (w : Wd (L :: ms) ps ((L, vs) :: cs) H0 H) (k : Keep (L :: ms) H1 H) (r : repL (L :: ms) H (ys.map eb) vs) (hn : ys.length ≤ n) (hr : rep (L :: ms) H (eb y) u) :
    Trn ms ps cs H0 H1 L eb (n + 1) (ys ++ [y]) (vs ++ [u]) (upd H L (.lst (vs ++ [u]))) := by
  refine ⟨w.put hc, keep_put List.mem_cons_self k, ?_, by rw [List.length_append]; exact Nat.add_le_add_right hn 1⟩
  rw [List.map_append]
  exact repL_put List.mem_cons_self (repL_app r (repL_one hr))
theorem new_ne {L : Addr} (w : Wd ms ps cs H0 H1) (nl : H1 L = none) : ∀ c ∈ cs, c.1 ≠ L := fun c h z => by
  have q := (w.cel c h).1
  rw [z, nl] at q
  cases q
theorem Trn.start {L : Addr} {eb : β → D} (w : Wd ms ps cs H0 H1) (nl : H1 L = none) : Trn ms ps cs H0 H1 L eb 0 [] [] (upd H1 L (.lst [])) :=
  ⟨w.cell nl, fun a o n h => by rw [upd_ne (ne_of_none h nl)]; exact h, repL_nil, Nat.le_refl _⟩
theorem Trn.done {L : Addr} {eb : β → D} {n : Nat} {ys : List β} {vs : List V} {H : Hp} (w : Wd ms ps cs H0 H1) (nl : H1 L = none) (t : Trn ms ps cs H0 H1 L eb n ys vs H) : Wd ms ps cs H0 H ∧ Keep ms H1 H ∧ rep ms H (.lst (ys.map eb)) (.ref L) := by
  refine ⟨t.w.froze w.pm fun c h => (w.cel c h).2.1, fun a o n h => t.k a o (fun z => ?_) h, ?_⟩
  · rcases List.mem_cons.mp z with z | z
    · rw [z, nl] at h
      cases h
    · exact n z
  · simp only [rep]
    exact ⟨L, vs, rfl, fun z => w.tr L z nl, (t.w.cel _ List.mem_cons_self).1, repL_weak t.r⟩

/-- [e for x in range(lo, hi)] -/
theorem lc_rangeC {lo hi : Int} {N : Nat} {L : Addr} {eb : β → D} {body : Int → (β → Prop) → Prop} {KM : List β → Prop} (hN : N = (hi - lo).toNat) (w : Wd ms ps cs H0 H1) (nl : H1 L = none) (hM : (rangeI lo hi).length < 100000 ∧ mapC body (rangeI lo hi) [] KM)
    (hs : ∀ (x : Int) (n : Nat) (ys : List β) (vs : List V) (k : β → Prop) (H : Hp), n < 100000 → Trn ms ps cs H0 H1 L eb n ys vs H → body x k → ∀ Nx : Hp → Prop, (∀ y vs' H', k y → Trn ms ps cs H0 H1 L eb (n + 1) (ys ++ [y]) vs' H' → Nx H') →
      g (.int x) (wipe σ vl) H fun σ2 H2 => wipe σ2 vl = wipe σ vl ∧ tt σ2 H2 fun b H3 => if b = true then te σ2 H3 fun y H4 => ∃ acc, H4 L = some (.lst acc) ∧ acc.length < sizeLine ∧ Nx (upd H4 L (.lst (acc ++ [y]))) else Nx H3)
    (hd : ∀ ys H, KM ys → Wd ms ps cs H0 H → Keep ms H1 H → rep ms H (.lst (ys.map eb)) (.ref L) → Qd H) :
    ∃ W : Nat → Nat → Hp → Prop, (∃ m, W 0 m (upd H1 L (.lst []))) ∧ ∀ i m H, W i m H →
      ((Itr lo N).stop i H ∧ Qd H) ∨ ((Itr lo N).go i H ∧ ∃ Nx : Hp → Prop, (∀ H', Nx H' → ∃ m', m' < m ∧ W (i + 1) m' H') ∧ ∀ x H', (Itr lo N).yld i H x H' → g x (wipe σ vl) H' fun σ2 H2 => wipe σ2 vl = wipe σ vl ∧ tt σ2 H2 fun b H3 =>
        if b = true then te σ2 H3 fun y H4 => ∃ acc, H4 L = some (.lst acc) ∧ acc.length < sizeLine ∧ Nx (upd H4 L (.lst (acc ++ [y]))) else Nx H3) := by
  obtain ⟨hn, hM⟩ := hM
  subst hN
  rw [rangeI_len] at hn
  refine ⟨fun i m H => m = (hi - lo).toNat - i ∧ i ≤ (hi - lo).toNat ∧ ∃ ys vs, Trn ms ps cs H0 H1 L eb i ys vs H ∧ mapC body ((rangeI lo hi).drop i) ys KM, ⟨_, rfl, Nat.zero_le _, [], [], Trn.start w nl, hM⟩, ?_⟩
  rintro i m H ⟨rfl, hi', ys, vs, T, q⟩
  by_cases hlt : i < (hi - lo).toNat
  · refine .inr ⟨hlt, fun H' => i + 1 ≤ (hi - lo).toNat ∧ ∃ ys vs, Trn ms ps cs H0 H1 L eb (i + 1) ys vs H' ∧ mapC body ((rangeI lo hi).drop (i + 1)) ys KM, fun H' p' => ⟨_, by omega, rfl, p'⟩, fun x H' y => ?_⟩
    obtain ⟨e, y⟩ := y
    subst e y
    rw [drop_cons' (rangeI_get hlt)] at q
    exact hs _ i ys vs _ H' (by omega) T q _ fun y vs' H' k T' => ⟨hlt, _, _, T', k⟩
  · have e : i = (hi - lo).toNat := by omega
    refine .inl ⟨by rw [e]; exact Nat.le_refl _, ?_⟩
    have q' : KM ys := by
      rw [List.drop_of_length_le (by rw [rangeI_len]; omega)] at q
      exact q
    obtain ⟨w', k', r'⟩ := T.done w nl
    exact hd ys H q' w' k' r'
/-- [e for x in xs] -/
theorem lc_listC {items : List α} {a : Addr} {xs : List V} {L : Addr} {e : α → D} {eb : β → D} {body : α → (β → Prop) → Prop} {KM : List β → Prop} (w : Wd ms ps cs H0 H1) (an : a ∉ ms) (ha : H1 a = some (.lst xs)) (hx : repL ms H1 (items.map e) xs) (nl : H1 L = none) (hM : items.length < 100000 ∧ mapC body items [] KM)
    (hs : ∀ (x : α) (u : V) (n : Nat) (ys : List β) (vs : List V) (k : β → Prop) (H : Hp), n < 100000 → Trn ms ps cs H0 H1 L eb n ys vs H → rep (L :: ms) H (e x) u → body x k → ∀ Nx : Hp → Prop, (∀ y vs' H', k y → Trn ms ps cs H0 H1 L eb (n + 1) (ys ++ [y]) vs' H' → Nx H') →
      g u (wipe σ vl) H fun σ2 H2 => wipe σ2 vl = wipe σ vl ∧ tt σ2 H2 fun b H3 => if b = true then te σ2 H3 fun y H4 => ∃ acc, H4 L = some (.lst acc) ∧ acc.length < sizeLine ∧ Nx (upd H4 L (.lst (acc ++ [y]))) else Nx H3)
    (hd : ∀ ys H, KM ys → Wd ms ps cs H0 H → Keep ms H1 H → rep ms H (.lst (ys.map eb)) (.ref L) → Qd H) :
    ∃ W : Nat → Nat → Hp → Prop, (∃ m, W 0 m (upd H1 L (.lst []))) ∧ ∀ i m H, W i m H →
      ((Itl K a).stop i H ∧ Qd H) ∨ ((Itl K a).go i H ∧ ∃ Nx : Hp → Prop, (∀ H', Nx H' → ∃ m', m' < m ∧ W (i + 1) m' H') ∧ ∀ x H', (Itl K a).yld i H x H' → g x (wipe σ vl) H' fun σ2 H2 => wipe σ2 vl = wipe σ vl ∧ tt σ2 H2 fun b H3 =>
        if b = true then te σ2 H3 fun y H4 => ∃ acc, H4 L = some (.lst acc) ∧ acc.length < sizeLine ∧ Nx (upd H4 L (.lst (acc ++ [y]))) else Nx H3) := by
  obtain ⟨hn, hM⟩ := hM
  have hl : items.length = xs.length := by
    have := repL_len hx
    rwa [List.length_map] at this
  have aL : a ≠ L := ne_of_none ha nl
  have hx1 : repL (L :: ms) (upd H1 L (.lst [])) (items.map e) xs := repL_map (fun p o n hp => ⟨fun z => by
    rcases List.mem_cons.mp z with z | z
    · exact ne_of_none hp nl z
    · exact n z, by rw [upd_ne (ne_of_none hp nl)]; exact hp⟩) _ _ hx
  have aM : a ∉ L :: ms := fun z => by
    rcases List.mem_cons.mp z with z | z
    · exact aL z
    · exact an z
  refine ⟨fun i m H => m = xs.length - i ∧ i ≤ xs.length ∧ ∃ ys vs, Trn ms ps cs H0 H1 L eb i ys vs H ∧ Keep (L :: ms) (upd H1 L (.lst [])) H ∧ mapC body (items.drop i) ys KM, ⟨_, rfl, Nat.zero_le _, [], [], Trn.start w nl, Keep.refl, hM⟩, ?_⟩
  rintro i m H ⟨rfl, hi', ys, vs, T, kp, q⟩
  have hA : H a = some (.lst xs) := kp a _ aM (by rw [upd_ne aL]; exact ha)
  by_cases hlt : i < xs.length
  · refine .inr ⟨⟨xs, xs[i], .inl (.inl hA), by simp [hlt]⟩, fun H' => i + 1 ≤ xs.length ∧ ∃ ys vs, Trn ms ps cs H0 H1 L eb (i + 1) ys vs H' ∧ Keep (L :: ms) (upd H1 L (.lst [])) H' ∧ mapC body (items.drop (i + 1)) ys KM, fun H' p' => ⟨_, by omega, rfl, p'⟩, fun x H' y => ?_⟩
    obtain ⟨e1, y⟩ := y
    subst e1
    have hxi := y xs (.inl (.inl hA))
    have hit : items[i]? = some (items[i]'(by omega)) := List.getElem?_eq_getElem (by omega)
    rw [drop_cons' hit] at q
    obtain ⟨v, hv, rv⟩ := repL_get (repL_keep kp hx1) (j := i) (d := e (items[i]'(by omega))) (by rw [List.getElem?_map, hit]; rfl)
    rw [hxi] at hv
    have ev : x = v := Option.some.inj hv
    subst ev
    refine hs _ x i ys vs _ H' (by omega) T rv q _ fun y vs' H'' k T' => ⟨hlt, _, _, T', fun b o n hb => ?_, k⟩
    by_cases e3 : b = L
    · exact absurd (by rw [e3]; exact List.mem_cons_self) n
    · rw [upd_ne e3] at hb
      exact T'.k b o n hb
  · have e1 : i = xs.length := by omega
    refine .inl ⟨⟨xs, .inl (.inl hA), by omega⟩, ?_⟩
    have q' : KM ys := by
      rw [List.drop_of_length_le (by omega)] at q
      exact q
    obtain ⟨w', k', r'⟩ := T.done w nl
    exact hd ys H q' w' k' r'
end

/-! ### comprehensions with a test -/
section
variable {α β : Type} {K : PySem.W.Frag} {ms : List Addr} {ps : List PEn} {cs : List (Addr × List V)} {H0 H1 : Hp} {g : TG} {tt : TT} {te : TE} {vl : List Nat} {σ : L2.St} {Qd : Hp → Prop}
theorem Trn.skip {L : Addr} {eb : β → D} {n : Nat} {ys : List β} {vs : List V} {H : Hp} (t : Trn ms ps cs H0 H1 L eb n ys vs H) : Trn ms ps cs H0 H1 L eb (n + 1) ys vs H := ⟨t.w, t.k, t.r, Nat.le_succ_of_le t.n⟩
theorem lf_listC {items : List α} {a : Addr} {xs : List V} {L : Addr} {e : α → D} {eb : β → D} {body : α → (Option β → Prop) → Prop} {KM : List β → Prop} (w : Wd ms ps cs H0 H1) (an : a ∉ ms) (ha : H1 a = some (.lst xs)) (hx : repL ms H1 (items.map e) xs) (nl : H1 L = none) (hM : items.length < 100000 ∧ filC body items [] KM)
    (hs : ∀ (x : α) (u : V) (n : Nat) (ys : List β) (vs : List V) (k : Option β → Prop) (H : Hp), n < 100000 → Trn ms ps cs H0 H1 L eb n ys vs H → rep (L :: ms) H (e x) u → body x k → ∀ Nx : Hp → Prop,
        (∀ y vs' H', k (some y) → Trn ms ps cs H0 H1 L eb (n + 1) (ys ++ [y]) vs' H' → Nx H') → (∀ vs' H', k none → Trn ms ps cs H0 H1 L eb (n + 1) ys vs' H' → Nx H') →
      g u (wipe σ vl) H fun σ2 H2 => wipe σ2 vl = wipe σ vl ∧ tt σ2 H2 fun b H3 => if b = true then te σ2 H3 fun y H4 => ∃ acc, H4 L = some (.lst acc) ∧ acc.length < sizeLine ∧ Nx (upd H4 L (.lst (acc ++ [y]))) else Nx H3)
    (hd : ∀ ys H, KM ys → Wd ms ps cs H0 H → Keep ms H1 H → rep ms H (.lst (ys.map eb)) (.ref L) → Qd H) :
    ∃ W : Nat → Nat → Hp → Prop, (∃ m, W 0 m (upd H1 L (.lst []))) ∧ ∀ i m H, W i m H →
      ((Itl K a).stop i H ∧ Qd H) ∨ ((Itl K a).go i H ∧ ∃ Nx : Hp → Prop, (∀ H', Nx H' → ∃ m', m' < m ∧ W (i + 1) m' H') ∧ ∀ x H', (Itl K a).yld i H x H' → g x (wipe σ vl) H' fun σ2 H2 => wipe σ2 vl = wipe σ vl ∧ tt σ2 H2 fun b H3 =>
        if b = true then te σ2 H3 fun y H4 => ∃ acc, H4 L = some (.lst acc) ∧ acc.length < sizeLine ∧ Nx (upd H4 L (.lst (acc ++ [y]))) else Nx H3) := by
  obtain ⟨hn, hM⟩ := hM
  have hl : items.length = xs.length := by
    have := repL_len hx
    rwa [List.length_map] at this
  have aL : a ≠ L := ne_of_none ha nl
  have hx1 : repL (L :: ms) (upd H1 L (.lst [])) (items.map e) xs := repL_map (fun p o n hp => ⟨fun z => by
    rcases List.mem_cons.mp z with z | z
    · exact ne_of_none hp nl z
    · exact n z, by rw [upd_ne (ne_of_none hp nl)]; exact hp⟩) _ _ hx
  have aM : a ∉ L :: ms := fun z => by
    rcases List.mem_cons.mp z with z | z
    · exact aL z
    · exact an z
  refine ⟨fun i m H => m = xs.length - i ∧ i ≤ xs.length ∧ ∃ ys vs, Trn ms ps cs H0 H1 L eb i ys vs H ∧ Keep (L :: ms) (upd H1 L (.lst [])) H ∧ filC body (items.drop i) ys KM, ⟨_, rfl, Nat.zero_le _, [], [], Trn.start w nl, Keep.refl, hM⟩, ?_⟩
  rintro i m H ⟨rfl, hi', ys, vs, T, kp, q⟩
  have hA : H a = some (.lst xs) := kp a _ aM (by rw [upd_ne aL]; exact ha)
  by_cases hlt : i < xs.length
  · refine .inr ⟨⟨xs, xs[i], .inl (.inl hA), by simp [hlt]⟩, fun H' => i + 1 ≤ xs.length ∧ ∃ ys vs, Trn ms ps cs H0 H1 L eb (i + 1) ys vs H' ∧ Keep (L :: ms) (upd H1 L (.lst [])) H' ∧ filC body (items.drop (i + 1)) ys KM, fun H' p' => ⟨_, by omega, rfl, p'⟩, fun x H' y => ?_⟩
    obtain ⟨e1, y⟩ := y
    subst e1
    have hxi := y xs (.inl (.inl hA))
    have hit : items[i]? = some (items[i]'(by omega)) := List.getElem?_eq_getElem (by omega)
    rw [drop_cons' hit] at q
    obtain ⟨v, hv, rv⟩ := repL_get (repL_keep kp hx1) (j := i) (d := e (items[i]'(by omega))) (by rw [List.getElem?_map, hit]; rfl)
    rw [hxi] at hv
    have ev : x = v := Option.some.inj hv
    subst ev
    have kk : ∀ {ys'} {vs'} {H''}, Trn ms ps cs H0 H1 L eb (i + 1) ys' vs' H'' → Keep (L :: ms) (upd H1 L (.lst [])) H'' := fun {ys' vs' H''} T' b o n hb => by
      by_cases e3 : b = L
      · exact absurd (by rw [e3]; exact List.mem_cons_self) n
      · rw [upd_ne e3] at hb
        exact T'.k b o n hb
    exact hs _ x i ys vs _ H' (by omega) T rv q _ (fun y vs' H'' k T' => ⟨hlt, _, _, T', kk T', k⟩) (fun vs' H'' k T' => ⟨hlt, _, _, T', kk T', k⟩)
  · have e1 : i = xs.length := by omega
    refine .inl ⟨⟨xs, .inl (.inl hA), by omega⟩, ?_⟩
    have q' : KM ys := by
      rw [List.drop_of_length_le (by omega)] at q
      exact q
    obtain ⟨w', k', r'⟩ := T.done w nl
    exact hd ys H q' w' k' r'
/-- an element's end -/
theorem lc_end {L : Addr} {eb : β → D} {n : Nat} {ys : List β} {vs : List V} {H : Hp} {y : β} {u : V} {Nx : Hp → Prop} (hc : ∀ c ∈ cs, c.1 ≠ L) (hn : n < 100000) (w : Wd (L :: ms) ps ((L, vs) :: cs) H0 H) (k : Keep (L :: ms) H1 H) (r : repL (L :: ms) H (ys.map eb) vs) (hy : ys.length ≤ n) (hr : rep (L :: ms) H (eb y) u)
    (h : ∀ vs' H', Trn ms ps cs H0 H1 L eb (n + 1) (ys ++ [y]) vs' H' → Nx H') : ∃ acc, H L = some (.lst acc) ∧ acc.length < sizeLine ∧ Nx (upd H L (.lst (acc ++ [u]))) := by
  refine ⟨vs, (w.cel _ List.mem_cons_self).1, ?_, h _ _ (Trn.add hc w k r hy hr)⟩
  have q := repL_len r
  rw [List.length_map] at q
  have e : sizeLine = 16777216 := sizeLine_eq
  omega
end

/-! ### for -/
section
variable {α S : Type} {K : PySem.W.Frag} {ms : List Addr} {ps : List PEn} {H0 H1 : Hp} {g : TG} {tb : TS} {D' : Ends} {σ : L2.St} {cs : S → List (Addr × List V)}
/-- for x in range(lo, hi) -/
theorem for_rangeC {lo hi : Int} {N : Nat} {body : Int → S → (S → Prop) → Prop} {KM : S → Prop} (SI : S → L2.St → Hp → Prop) (s0 : S) (hN : N = (hi - lo).toNat) (w : Wd ms ps (cs s0) H0 H1) (hM : forC body (rangeI lo hi) s0 KM) (h0 : SI s0 σ H1)
    (hs : ∀ (x : Int) (s : S) (k : S → Prop) (σ : L2.St) (H : Hp), Wd ms ps (cs s) H0 H → Keep ms H1 H → SI s σ H → body x s k → ∀ Nx : L2.St → Hp → Prop, (∀ s' σ' H', k s' → Wd ms ps (cs s') H0 H' → Keep ms H1 H' → SI s' σ' H' → Nx σ' H') →
      g (.int x) σ H fun σ2 H2 => tb { D' with nx := Nx, ct := Nx, bk := D'.nx } σ2 H2)
    (hd : ∀ s σ H, KM s → Wd ms ps (cs s) H0 H → Keep ms H1 H → SI s σ H → D'.nx σ H) :
    ∃ W : Nat → Nat → L2.St → Hp → Prop, (∃ m, W 0 m σ H1) ∧ ∀ i m σ H, W i m σ H →
      ((Itr lo N).stop i H ∧ D'.nx σ H) ∨ ((Itr lo N).go i H ∧ ∃ Nx : L2.St → Hp → Prop, (∀ σ' H', Nx σ' H' → ∃ m', m' < m ∧ W (i + 1) m' σ' H') ∧ ∀ x H', (Itr lo N).yld i H x H' → g x σ H' fun σ2 H2 => tb { D' with nx := Nx, ct := Nx, bk := D'.nx } σ2 H2) := by
  subst hN
  refine for_range (lo := lo) (n := (hi - lo).toNat) (D := D') (fun i σ H => ∃ s, Wd ms ps (cs s) H0 H ∧ Keep ms H1 H ∧ SI s σ H ∧ forC body ((rangeI lo hi).drop i) s KM) ⟨s0, w, Keep.refl, h0, hM⟩ (fun i σ H hi' ⟨s, w', k', si, q⟩ => ?_) (fun σ H ⟨s, w', k', si, q⟩ => ?_)
  · rw [drop_cons' (rangeI_get hi')] at q
    exact hs _ s _ σ H w' k' si q _ fun s' σ' H' hk w2 k2 si2 => ⟨s', w2, k2, si2, hk⟩
  · rw [List.drop_of_length_le (by rw [rangeI_len]; exact Nat.le_refl _)] at q
    exact hd s σ H q w' k' si
/-- for x in xs -/
theorem for_listC {items : List α} {e : α → D} {a : Addr} {xs : List V} {body : α → S → (S → Prop) → Prop} {KM : S → Prop} (SI : S → L2.St → Hp → Prop) (s0 : S) (w : Wd ms ps (cs s0) H0 H1) (an : a ∉ ms) (ha : H1 a = some (.lst xs)) (hx : repL ms H1 (items.map e) xs) (hM : forC body items s0 KM) (h0 : SI s0 σ H1)
    (hs : ∀ (x : α) (u : V) (s : S) (k : S → Prop) (σ : L2.St) (H : Hp), Wd ms ps (cs s) H0 H → Keep ms H1 H → SI s σ H → rep ms H (e x) u → body x s k → ∀ Nx : L2.St → Hp → Prop, (∀ s' σ' H', k s' → Wd ms ps (cs s') H0 H' → Keep ms H1 H' → SI s' σ' H' → Nx σ' H') →
      g u σ H fun σ2 H2 => tb { D' with nx := Nx, ct := Nx, bk := D'.nx } σ2 H2)
    (hd : ∀ s σ H, KM s → Wd ms ps (cs s) H0 H → Keep ms H1 H → SI s σ H → D'.nx σ H) :
    ∃ W : Nat → Nat → L2.St → Hp → Prop, (∃ m, W 0 m σ H1) ∧ ∀ i m σ H, W i m σ H →
      ((Itl K a).stop i H ∧ D'.nx σ H) ∨ ((Itl K a).go i H ∧ ∃ Nx : L2.St → Hp → Prop, (∀ σ' H', Nx σ' H' → ∃ m', m' < m ∧ W (i + 1) m' σ' H') ∧ ∀ x H', (Itl K a).yld i H x H' → g x σ H' fun σ2 H2 => tb { D' with nx := Nx, ct := Nx, bk := D'.nx } σ2 H2) := by
  have hl : items.length = xs.length := by
    have := repL_len hx
    rwa [List.length_map] at this
  refine for_list (xs := xs) (D := D') (fun i σ H => ∃ s, Wd ms ps (cs s) H0 H ∧ Keep ms H1 H ∧ SI s σ H ∧ forC body (items.drop i) s KM) ⟨s0, w, Keep.refl, h0, hM⟩ (fun i σ H _ ⟨s, w', k', _⟩ => .inl (.inl (k' a _ an ha))) (fun i x σ H hx' ⟨s, w', k', si, q⟩ => ?_) (fun σ H ⟨s, w', k', si, q⟩ => ?_)
  · have hi : i < xs.length := (List.getElem?_eq_some_iff.mp hx').1
    have hit : items[i]? = some (items[i]'(by omega)) := List.getElem?_eq_getElem (by omega)
    rw [drop_cons' hit] at q
    obtain ⟨v, hv, rv⟩ := repL_get (repL_keep k' hx) (j := i) (d := e (items[i]'(by omega))) (by rw [List.getElem?_map, hit]; rfl)
    rw [hx'] at hv
    have ev : x = v := Option.some.inj hv
    subst ev
    exact hs _ x s _ σ H w' k' si rv q _ fun s' σ' H' hk w2 k2 si2 => ⟨s', w2, k2, si2, hk⟩
  · rw [List.drop_of_length_le (by omega)] at q
    exact hd s σ H q w' k' si
/-- while -/
theorem while_C {c : TT} {fuel : Nat} {body : S → (S → Prop) → (S → Prop) → Prop} {KM : S → Prop} (SI : S → L2.St → Hp → Prop) (s0 : S) (w : Wd ms ps (cs s0) H0 H1) (hM : whileC body fuel s0 KM) (h0 : SI s0 σ H1)
    (hs : ∀ (s : S) (k1 k2 : S → Prop) (σ : L2.St) (H : Hp), Wd ms ps (cs s) H0 H → Keep ms H1 H → SI s σ H → body s k1 k2 → ∀ (Nx : L2.St → Hp → Prop) (Ex : L2.St → Hp → Prop), (∀ s' σ' H', k1 s' → Wd ms ps (cs s') H0 H' → Keep ms H1 H' → SI s' σ' H' → Nx σ' H') → (∀ s' σ' H', k2 s' → Wd ms ps (cs s') H0 H' → Keep ms H1 H' → SI s' σ' H' → Ex σ' H') →
      c σ H fun b H1 => if b = true then tb { D' with nx := Nx, ct := Nx, bk := D'.nx } σ H1 else Ex σ H1)
    (hd : ∀ s σ H, KM s → Wd ms ps (cs s) H0 H → Keep ms H1 H → SI s σ H → D'.nx σ H)
    (mono : ∀ σ H Q Q', (∀ b H1, Q b H1 → Q' b H1) → c σ H Q → c σ H Q') : tWhile c tb D' σ H1 := by
  refine ⟨fun m σ H => ∃ s, Wd ms ps (cs s) H0 H ∧ Keep ms H1 H ∧ SI s σ H ∧ whileC body m s KM, ⟨fuel, s0, w, Keep.refl, h0, hM⟩, ?_⟩
  rintro m σ H ⟨s, w', k', si, q⟩
  cases m with
  | zero => exact False.elim q
  | succ m =>
    refine mono _ _ _ _ (fun b H2 hb => ?_) (hs s _ _ σ H w' k' si q (fun σ' H' => ∃ s, Wd ms ps (cs s) H0 H' ∧ Keep ms H1 H' ∧ SI s σ' H' ∧ whileC body m s KM) D'.nx (fun s' σ' H' hk w2 k2 si2 => ⟨s', w2, k2, si2, hk⟩) fun s' σ' H' hk w2 k2 si2 => hd s' σ' H' hk w2 k2 si2)
    cases b with
    | true => exact ⟨_, fun σ' H' p => ⟨m, Nat.lt_succ_self m, p⟩, hb⟩
    | false => exact hb
end

section
variable {K : PySem.W.Frag} {ms : List Addr} {H : Hp} {d : D} {u x y : V}
theorem repL_uncons {ds : List D} {vs : List V} (h : repL ms H (d :: ds) vs) : ∃ u us, vs = u :: us ∧ rep ms H d u ∧ repL ms H ds us := by
  simp only [repL] at h
  exact h
theorem repL_empty {vs : List V} (h : repL ms H [] vs) : vs = [] := by
  simp only [repL] at h
  exact h
theorem repL_ints {ns : List Int} {vs : List V} (h : repL ms H (ns.map fun n => D.v (.int n)) vs) : vs = ns.map V.int := by
  have e : (ns.map fun n => D.v (.int n)) = (ns.map V.int).map D.v := by rw [List.map_map]; rfl
  rw [e] at h
  exact repL_flat.mp h
theorem repL_strs {ns : List Str} {vs : List V} (h : repL ms H (ns.map fun n => D.v (.str n)) vs) : vs = ns.map V.str := by
  have e : (ns.map fun n => D.v (.str n)) = (ns.map V.str).map D.v := by rw [List.map_map]; rfl
  rw [e] at h
  exact repL_flat.mp h
theorem repL_bls {ns : List Bool} {vs : List V} (h : repL ms H (ns.map fun n => D.v (.bl n)) vs) : vs = ns.map V.bl := by
  have e : (ns.map fun n => D.v (.bl n)) = (ns.map V.bl).map D.v := by rw [List.map_map]; rfl
  rw [e] at h
  exact repL_flat.mp h
theorem rep_join {a : Str} {ys : List Str} {P : Str → List Str → Prop} (h : rep ms H (.lst (ys.map fun n => D.v (.str n))) x) (hz : (ys.map (·.length)).sum + ys.length * a.length ≤ 16777216) (k : P a ys) :
    ∃ a' p, ∃ ys : List Str, V.str a = .str a' ∧ [x] = [.ref p] ∧ (SqL K H p (ys.map V.str) ∨ SqT K H p (ys.map V.str)) ∧ (ys.map (·.length)).sum + ys.length * a'.length ≤ 16777216 ∧ P a' ys := by
  simp only [rep] at h
  obtain ⟨p, vs, e, _, hp, hr⟩ := h
  have ev := repL_strs hr
  subst ev e
  exact ⟨a, p, ys, rfl, rfl, .inl (.inl (.inl hp)), hz, k⟩
theorem rep_all {ys : List Bool} {P : List Bool → Prop} (h : rep ms H (.lst (ys.map fun n => D.v (.bl n))) x) (k : P ys) : ∃ (a : Addr) (bs : List Bool), [x] = [V.ref a] ∧ SqL K H a (bs.map V.bl) ∧ P bs := by
  simp only [rep] at h
  obtain ⟨p, vs, e, _, hp, hr⟩ := h
  have ev := repL_bls hr
  subst ev e
  exact ⟨p, ys, rfl, .inl (.inl hp), k⟩
/-! data as the library data, for == -/
mutual
def pyOf : D → PyData
  | .v .non => .none
  | .v (.bl b) => .bool b
  | .v (.int i) => .int i
  | .v (.str z) => .str z
  | .v _ => .none
  | .lst ds => .list (pyL ds)
  | .tup ds => .tuple (pyL ds)
  | .ins _ _ _ => .none
  | .dct _ _ => .none
  | .dcT _ _ => .none
def pyL : List D → List PyData
  | [] => []
  | d :: ds => pyOf d :: pyL ds
def plainD : D → Bool
  | .v .non => true
  | .v (.bl _) => true
  | .v (.int _) => true
  | .v (.str _) => true
  | .v _ => false
  | .lst ds => plainL ds
  | .tup ds => plainL ds
  | .ins _ _ _ => false
  | .dct _ _ => false
  | .dcT _ _ => false
def plainL : List D → Bool
  | [] => true
  | d :: ds => plainD d && plainL ds
end
mutual
theorem dp_of : ∀ (d : D) (u : V), plainD d = true → rep ms H d u → Dp K H u (pyOf d)
  | .v x, u, p, h => by
    have e := of_v h
    subst e
    cases u <;> simp only [pyOf, plainD] at p ⊢ <;> first | exact .non | exact .bl _ | exact .int _ | exact .str _ | cases p
  | .lst ds, u, p, h => by
    simp only [rep] at h
    obtain ⟨a, vs, e, _, hp, hr⟩ := h
    subst e
    simp only [pyOf, plainD] at p ⊢
    exact .lst (.inl (.inl hp)) (dpL_of ds vs p hr)
  | .tup ds, u, p, h => by
    simp only [rep] at h
    obtain ⟨a, vs, e, _, hp, hr⟩ := h
    subst e
    simp only [pyOf, plainD] at p ⊢
    exact .tup (.inl (.inl hp)) (dpL_of ds vs p hr)
  | .ins _ _ _, u, p, h => by
    simp only [plainD] at p
    cases p
  | .dct _ _, u, p, h => by
    simp only [plainD] at p
    cases p
  | .dcT _ _, u, p, h => by
    simp only [plainD] at p
    cases p
theorem dpL_of : ∀ (ds : List D) (vs : List V), plainL ds = true → repL ms H ds vs → DpAll K H vs (pyL ds)
  | [], vs, p, h => by
    have e := repL_empty h
    subst e
    simp only [pyL]
    exact .nil
  | d :: ds, vs, p, h => by
    obtain ⟨u, us, e, h1, h2⟩ := repL_uncons h
    subst e
    simp only [plainL, Bool.and_eq_true] at p
    simp only [pyL]
    exact .cons (dp_of d u p.1 h1) (dpL_of ds us p.2 h2)
end
theorem rep_eqD {d e : D} {Q : VK} (h1 : rep ms H d x) (h2 : rep ms H e y) (p1 : plainD d = true) (p2 : plainD e = true) (s1 : SeqAt.shaped (pyOf d) = true) (s2 : SeqAt.shaped (pyOf e) = true) (k : Q (.bl (PyData.eqv (pyOf d) (pyOf e))) H) : rEqD K x y H Q :=
  ⟨_, _, dp_of d x p1 h1, dp_of e y p2 h2, s1, s2, k⟩
theorem rep_neD {d e : D} {Q : VK} (h1 : rep ms H d x) (h2 : rep ms H e y) (p1 : plainD d = true) (p2 : plainD e = true) (s1 : SeqAt.shaped (pyOf d) = true) (s2 : SeqAt.shaped (pyOf e) = true) (k : Q (.bl (!PyData.eqv (pyOf d) (pyOf e))) H) : rNeD K x y H Q :=
  ⟨_, _, dp_of d x p1 h1, dp_of e y p2 h2, s1, s2, k⟩
end

section
variable {ms : List Addr} {H H' H1 : Hp} {d : D} {u : V} {l : Addr}
theorem Keep.trans (a : Keep ms H1 H) (b : Keep ms H H') : Keep ms H1 H' := fun x o n h => b x o n (a x o n h)
theorem Keep.new (k : Keep ms H1 H) : Keep (l :: ms) H1 H := fun x o n h => k x o (fun z => n (List.mem_cons_of_mem _ z)) h
theorem rep_new (nl : H l = none) (h : rep ms H d u) : rep (l :: ms) H d u := rep_map (fun p o n hp => ⟨fun z => by
  rcases List.mem_cons.mp z with z | z
  · exact ne_of_none hp nl z
  · exact n z, hp⟩) d u h
theorem repL_new {ds : List D} {us : List V} (nl : H l = none) (h : repL ms H ds us) : repL (l :: ms) H ds us := repL_map (fun p o n hp => ⟨fun z => by
  rcases List.mem_cons.mp z with z | z
  · exact ne_of_none hp nl z
  · exact n z, hp⟩) ds us h
end

/-! ### a method called by keywords alone -/
def tMethK (C : Addr) (m : Str) (n : Nat) (gV : List V → List V → List V) (sp : Sp) (E : XK) (ta : TE) (tk : TA) : TE := fun σ H Q => ta σ H fun x H1 => ∃ a dx fs, x = .ref a ∧ H1 a = some (.ins C dx fs) ∧ fs.lookup m = none ∧
  tk σ H1 fun zs H2 => zs.length = n ∧ sp (gV [x] zs) H2 Q E
section
variable {X : Cx} {CX : CXT} {k : Nat} {f C : Addr} {fd : FuncData} {ps ks : List Str} {sp : Sp} {E : XK} {m : Str} {apos pos : Pos} {o : Expr} {kws : List Keyword} {ta : TE} {tk : TA} {g : List Value → List Value → List Value} {gV : List V → List V → List V}
theorem pe_methK0 {pl : Sem Bool} (he : PE X o ta) (c : Cls X.K C) (hm : Meth X.K C m f) (F : FnOk X.prog X.w X.K X.mg X.base CX k f fd ps sp) (hr : Room k X.A) (hb : KBn X.K fd ps 1 ks g gV) (hx : Passes CX X E) (hkw : PK X kws tk)
    (hall : (backToKw pos (keywordEach kws X.env)).all (·.1.isSome) = true := by rfl) (hks : (backToKw pos (keywordEach kws X.env)).filterMap (·.1) = ks := by rfl)
    (hpl : ((backTo pos (starEach [] X.env)).any (·.1) || (backToKw pos (keywordEach kws X.env)).any (·.1.isNone)) = false := by rfl)
    (ht : eval (.Call (.Attribute o m apos) [] kws pos) X.env = (do
      let ov ← eval o X.env
      standAt apos.atName
      let (f, first) ← holding [ov] (getMethod ov m pl)
      callWith pos f first (backTo pos (starEach [] X.env)) (backToKw pos (keywordEach kws X.env))) := by rfl) :
    PE X (.Call (.Attribute o m apos) [] kws pos) (tMethK C m ks.length gV sp E ta tk) := by
  refine ⟨fun pins s σ H Q I h => ?_⟩
  refine PySem.W.methodCall_KW (pl := pl) (thn (he.run pins s σ H _ I h) fun u s1 ⟨x, H1, I1, rx, a, dx, fs, ex, ea, l, q⟩ => ?_) ht
  subst ex
  obtain rfl : u = Value.ref a := rx
  refine getmeth_ok I1 ea c hm l ?_
  refine PySem.W.callWith_KW0 (first := [.ref a]) (h₀ := X.base) I.ok.mod.kin hm.kp hall ?_ hpl
  refine thn (hkw.run pos pins s1 σ H1 _ I1 q) fun ws s2 ⟨zs, H2, I2, rz, l2, q2⟩ => ⟨I2.kIn, ?_⟩
  rw [hks]
  exact run_fnN (us := [.ref a]) (vs := [.ref a]) F hr hb hx I2 (.cons rfl .nil) rz rfl l2 q2
end
end Rx
namespace Rx
open PySem PySem.Spec PyProof.Rows L2
theorem vals_getD : ∀ {zs : List V} {ws : List Value}, Vals zs ws → ∀ j : Nat, RelV (zs.getD j .non) (ws.getD j .none)
  | _, _, .nil, _ => rfl
  | _, _, .cons r _, 0 => r
  | _, _, .cons _ t, j + 1 => vals_getD t j
theorem tyes_of {σ : L2.St} {H : Hp} {A B : Hp → Prop} (h : A H) : tYes σ H fun b H3 => if b = true then A H3 else B H3 := by
  show (if true = true then A H else B H)
  rw [if_pos rfl]
  exact h
theorem Ret.keep {H H' : Hp} (e : Ret [] H H') {a : Addr} {o : HO} (h : H a = some o) : H' a = some o := e.kp a o (by simp) h
end Rx
namespace Rx
open PySem PySem.Spec PyProof.Rows L2
section
variable {X : Cx}
def rMulS : R2 := fun x y H Q => ∃ (a : Str) (k : Int), x = .str a ∧ y = .int k ∧ MulOk a k ∧ Q (.str (Txt.mul a k)) H
theorem op_mulS : OpR X (binaryOp .Mult) rMulS := by
  intro pins s σ H x y v u Q I rx ry h
  obtain ⟨a, k, rfl, rfl, ok, q⟩ := h
  obtain ⟨t, rfl⟩ := rx
  obtain ⟨t', rfl⟩ := ry
  exact SB.mul ok fun t' tk => ⟨.str (Txt.mul a k), H, I.tok _, ⟨_, rfl⟩, q⟩
end

/-! own == -/
def rOwnEq (C : Addr) (sp : Sp) (E : XK) : R2 := fun x y H Q => ∃ a b dx dy fs gs, x = .ref a ∧ y = .ref b ∧ H a = some (.ins C dx fs) ∧ H b = some (.ins C dy gs) ∧ sp [x, y] H (fun v H' => ∃ r : Bool, v = .bl r ∧ Q v H') E
structure OwnEq (K : PySem.W.Frag) (C f : Addr) : Prop where
  hs : PySem.W.findIn K (.ref C) "__eq__" = some (some (.ref f))
  hf : PySem.W.isFn K (.ref f) = true
theorem op_eqOwn {X : Cx} {n : Nat} {CX : CXT} {C f : Addr} {fd : FuncData} {ps : List Str} {sp : Sp} {E : XK} (F : FnOk X.prog X.w X.K X.mg X.base CX n f fd ps sp) (hr : Room n X.A)
    (o : OwnEq X.K C f) (hb : Binds X.K fd ps []) (hx : Passes CX X E) : OpR X (compareOp .Eq) (rOwnEq C sp E) := by
  intro pins s σ H x y v u Q I rx ry d
  show wpAny (model X.prog X.w) X.A (richCompare .Eq v u) (EP X pins σ Q) X.xe s
  obtain ⟨a, b, dx, dy, fs, gs, rfl, rfl, ha, hb', hsp⟩ := d
  cases rx
  cases ry
  obtain ⟨mA, J, _⟩ := ins_get I.hok ha
  obtain ⟨mB, J', _⟩ := ins_get I.hok hb'
  obtain ⟨od, J, _⟩ := J.look
  obtain ⟨od', J', _⟩ := J'.look
  obtain ⟨m, hF⟩ := I.fr
  refine PySem.W.cmp_K (op := .Eq) (tb := .ref C) hr.units0 hF I.ok.mod.kin J J'.type (by simp [PySem.W.notFirst]) o.hs o.hf ?_
  have hl := F.len _ _ _ _ hsp
  have r2 : Vals [V.ref a, V.ref b] [Value.ref a, Value.ref b] := .cons rfl (.cons rfl .nil)
  refine wpAny_call (codeAny_mono (F.run X.A X.stack s H ⟨[.ref a, .ref b], []⟩ [.ref a, .ref b] [.ref a, .ref b] _ E hr I.env0 (by
    have := hb s [.ref a, .ref b] I.kIn (by simpa using hl)
    simpa using this) r2 hsp) fun r s' hq => ?_)
  cases r with
  | error e => exact hx pins σ H s e s' I hq
  | ok fl =>
    cases fl with
    | ret w =>
      obtain ⟨z, H', I', rz, ⟨r, ez, q⟩⟩ := I.after hq
      subst ez
      cases (show w = Value.bool r from rz)
      exact ⟨.bl r, H', I', rfl, q⟩
    | next => exact False.elim hq
    | brk => exact False.elim hq
    | cont => exact False.elim hq
section
variable {K : PySem.W.Frag} {ms : List Addr} {ps : List PEn} {cs : List (Addr × List V)} {H H0 H1 : Hp} {d : D} {u x y : V}
theorem rep_ins {C : Addr} {ns : List Str} {ds : List D} (h : rep ms H (.ins C ns ds) u) : ∃ p dx fs, u = .ref p ∧ H p = some (.ins C dx fs) := by
  simp only [rep] at h
  obtain ⟨p, dx, vs, e, _, hp, _⟩ := h
  exact ⟨p, dx, _, e, hp⟩
theorem rep_eqOwn {C : Addr} {ns ns' : List Str} {ds ds' : List D} {sp : Sp} {E : XK} {Q : VK} (h1 : rep ms H (.ins C ns ds) x) (h2 : rep ms H (.ins C ns' ds') y) (k : sp [x, y] H (fun v H' => ∃ r : Bool, v = .bl r ∧ Q v H') E) : rOwnEq C sp E x y H Q := by
  obtain ⟨p, dx, fs, e, hp⟩ := rep_ins h1
  obtain ⟨q, dy, gs, e', hq⟩ := rep_ins h2
  subst e e'
  exact ⟨p, q, dx, dy, fs, gs, rfl, rfl, hp, hq, k⟩
/-! list + list -/
theorem rep_cat {α : Type} {xs ys : List α} {e : α → D} {Q : VK} (w : Wd ms ps cs H0 H) (h1 : rep ms H (.lst (xs.map e)) x) (h2 : rep ms H (.lst (ys.map e)) y) (hz : xs.length + ys.length ≤ sizeLine)
    (k : ∀ p H', Ret [] H H' → rep ms H' (.lst ((xs ++ ys).map e)) (.ref p) → Q (.ref p) H') : rCat x y H Q := by
  simp only [rep] at h1 h2
  obtain ⟨p, vs, rfl, np, hp, r1⟩ := h1
  obtain ⟨q, us, rfl, nq, hq, r2⟩ := h2
  have l1 := repL_len r1
  have l2 := repL_len r2
  rw [List.length_map] at l1 l2
  refine ⟨p, q, vs, us, rfl, rfl, hp, hq, by rw [← l1, ← l2]; exact hz, fun a na => ?_⟩
  have ee : Ret [] H (upd H a (.lst (vs ++ us))) := Ext.new na
  refine k a _ ee ?_
  simp only [rep]
  refine ⟨a, vs ++ us, rfl, fun z => w.tr a z na, upd_same, ?_⟩
  rw [List.map_append]
  exact repL_app (repL_ext ee r1) (repL_ext ee r2)
/-! isinstance(x, C), x of the class C -/
structure IsC (K : PySem.W.Frag) (C : Addr) : Prop where
  cl : Cls K C
  ha : PySem.W.findIn K (.ref C) "__class__" = some (some (.builtin "object.__class__"))
  hn : PySem.W.specialIn K (.builtin "object.__class__") "__get__" = some (some (.builtin "getset_descriptor.__get__"))
  tk : PySem.W.takesIn K (.builtin "object.__class__") = some true
  hm : PySem.W.mroIn K C (.type "object") = some true
theorem rep_isi {C : Addr} {ns : List Str} {ds : List D} {P : Bool → Prop} (h : rep ms H (.ins C ns ds) x) (c : IsC K C) (k : P true) :
    ∃ (x' c : V) (t u : Value) (b : Bool), [x, .ref C] = [x', c] ∧ ClsV c u ∧ TyX K H x' t ∧ PySem.W.kitOne K t u = some b ∧ P b := by
  obtain ⟨p, dx, fs, e, hp⟩ := rep_ins h
  subst e
  refine ⟨_, _, _, _, true, rfl, .own C, .base (.ins hp c.cl c.ha c.hn c.tk c.hm), ?_, k⟩
  simp [PySem.W.kitOne]
/-! list.count of texts -/
def rCntS (K : PySem.W.Frag) : V → List V → Hp → VK → Prop := fun x xs H Q => ∃ (p : Addr) (ns : List Str) (k : Str), x = .ref p ∧ xs = [.str k] ∧ SqL K H p (ns.map V.str) ∧ Q (.int (ns.count k : Nat)) H
def eqs (k : Str) (v : Value) : Bool := match v with
  | .str n _ => n == k
  | _ => false
theorem eqs_at {A : Around} {s : Shared} {k : Str} {t : Tok} : ∀ {ns : List Str} {us : List Value}, Vals (ns.map V.str) us → ∀ y ∈ us, SeqAt.EqAt A s y (.str k t) (eqs k y)
  | [], _, .nil => fun y hy => by cases hy
  | n :: ns, _, .cons r h => fun y hy => by
    rcases List.mem_cons.mp hy with e | e
    · subst e
      obtain ⟨t', rfl⟩ := r
      exact SeqAt.EqAt.str_str n t' k t
    · exact eqs_at h y e
theorem eqs_count {k : Str} : ∀ {ns : List Str} {us : List Value}, Vals (ns.map V.str) us → us.countP (eqs k) = ns.count k
  | [], _, .nil => rfl
  | n :: ns, _, .cons r h => by
    have ih := eqs_count (k := k) h
    obtain ⟨t', rfl⟩ := r
    rw [List.countP_cons, List.count_cons, ih] <;> rfl
theorem mt_lcountS {X : Cx} : MtR X "list.count" (rCntS X.K) := by
  intro pins s σ H x xs v us Q I rx rxs h
  obtain ⟨p, ns, k, rfl, rfl, hs, q⟩ := h
  cases rx
  obtain ⟨u, rfl, ru⟩ := rxs.one
  obtain ⟨t, rfl⟩ := ru
  obtain ⟨its, rv, ⟨⟨cls, dd, data, sl⟩, n, ho, hc, hdn, hd⟩, hlen⟩ := I.list hs
  simp only at hc hd
  subst hc hd
  refine call_meets PySem.F.slot_list_count ⟨_, ho, rfl⟩ PySem.F.entry_list_count (PySem.F.args_list_count_2 _ _)
    (SeqAt.list_countAt p its.toArray n dd sl (.str k t) (eqs k)) ⟨ho, fun y hy => eqs_at rv y (by simpa using hy), ?_⟩
  have ec : its.toArray.toList.countP (eqs k) = ns.count k := eqs_count rv
  refine ⟨.int (ns.count k : Nat), H, I.tok _, ⟨s.toks, ?_⟩, q⟩
  show Value.int ((its.toArray.toList.countP (eqs k) : Nat) : Int) s.toks = Value.int ((ns.count k : Nat) : Int) s.toks
  rw [ec]
theorem rep_lcountS {ns : List Str} {k : Str} {P : List Str → Str → Prop} (h : rep ms H (.lst (ns.map fun n => D.v (.str n))) x) (q : P ns k) :
    ∃ (p : Addr) (ns : List Str) (k' : Str), x = .ref p ∧ [V.str k] = [.str k'] ∧ SqL K H p (ns.map V.str) ∧ P ns k' := by
  simp only [rep] at h
  obtain ⟨p, vs, e, _, hp, hr⟩ := h
  have ev := repL_strs hr
  subst ev e
  exact ⟨p, ns, k, rfl, rfl, .inl (.inl hp), q⟩
/-! written dicts of texts -/
theorem kd_nil {w : World} {a : Addr} : ∀ z c : Str, ([] : List (Str × Str)).lookup z = some c → KDct K w a z (.str c) := fun _ _ h => by cases h
theorem kd_cons {w : World} {a : Addr} {k v : Str} {l : List (Str × Str)} (h : KDct K w a k (.str v)) (t : ∀ z c : Str, l.lookup z = some c → KDct K w a z (.str c)) : ∀ z c : Str, ((k, v) :: l).lookup z = some c → KDct K w a z (.str c) := by
  intro z c e
  rw [List.lookup_cons] at e
  by_cases q : (z == k) = true
  · rw [q] at e
    have e1 : v = c := Option.some.inj e
    subst e1
    rw [eq_of_beq q]
    exact h
  · have q' : (z == k) = false := by simpa using q
    rw [q'] at e
    exact t z c e
theorem rep_ixD {w : World} {a : Addr} {l : List (Str × Str)} {z c : Str} {Q : VK} (t : ∀ z c : Str, l.lookup z = some c → KDct K w a z (.str c)) (h : l.lookup z = some c) (q : Q (.str c) H) : rIxD K w (.ref a) (.str z) H Q :=
  ⟨a, z, .str c, rfl, rfl, t z c h, q⟩
theorem ix_kdictW {X : Cx} {w : World} (hK : X.K = K) (hw : X.w = w) : IxR X (rIxD K w) := by
  subst hK hw
  exact ix_kdict
theorem rep_tyL {ds : List D} (h : rep ms H (.lst ds) x) : tyV K "list" x H := by
  simp only [rep] at h
  obtain ⟨p, vs, e, _, hp, hr⟩ := h
  subst e
  exact .inl ⟨rfl, vs, .inl (.inl hp)⟩
end
/-! the signs of a text -/
def signs (x : Str) : List Str := x.cps.toList.map fun c => ⟨#[c]⟩
theorem signs_len {x : Str} : (signs x).length = x.cps.size := by simp [signs]
theorem signs_get {x : Str} {i : Nat} {c : Nat} (h : x.cps[i]? = some c) : (signs x)[i]? = some ⟨#[c]⟩ := by
  simp only [signs, List.getElem?_map, Array.getElem?_toList, h]
  rfl
section
variable {β : Type} {K : PySem.W.Frag} {ms : List Addr} {ps : List PEn} {cs : List (Addr × List V)} {H0 H1 : Hp} {g : TG} {tt : TT} {te : TE} {vl : List Nat} {σ : L2.St} {Qd : Hp → Prop}
/-- [e for x in text] -/
theorem lc_strC {z : Str} {L : Addr} {eb : β → D} {body : Str → (β → Prop) → Prop} {KM : List β → Prop} (w : Wd ms ps cs H0 H1) (nl : H1 L = none) (hM : (signs z).length < 100000 ∧ mapC body (signs z) [] KM)
    (hs : ∀ (x : Str) (n : Nat) (ys : List β) (vs : List V) (k : β → Prop) (H : Hp), n < 100000 → Trn ms ps cs H0 H1 L eb n ys vs H → body x k → ∀ Nx : Hp → Prop, (∀ y vs' H', k y → Trn ms ps cs H0 H1 L eb (n + 1) (ys ++ [y]) vs' H' → Nx H') →
      g (.str x) (wipe σ vl) H fun σ2 H2 => wipe σ2 vl = wipe σ vl ∧ tt σ2 H2 fun b H3 => if b = true then te σ2 H3 fun y H4 => ∃ acc, H4 L = some (.lst acc) ∧ acc.length < sizeLine ∧ Nx (upd H4 L (.lst (acc ++ [y]))) else Nx H3)
    (hd : ∀ ys H, KM ys → Wd ms ps cs H0 H → Keep ms H1 H → rep ms H (.lst (ys.map eb)) (.ref L) → Qd H) :
    ∃ W : Nat → Nat → Hp → Prop, (∃ m, W 0 m (upd H1 L (.lst []))) ∧ ∀ i m H, W i m H →
      ((Its z).stop i H ∧ Qd H) ∨ ((Its z).go i H ∧ ∃ Nx : Hp → Prop, (∀ H', Nx H' → ∃ m', m' < m ∧ W (i + 1) m' H') ∧ ∀ x H', (Its z).yld i H x H' → g x (wipe σ vl) H' fun σ2 H2 => wipe σ2 vl = wipe σ vl ∧ tt σ2 H2 fun b H3 =>
        if b = true then te σ2 H3 fun y H4 => ∃ acc, H4 L = some (.lst acc) ∧ acc.length < sizeLine ∧ Nx (upd H4 L (.lst (acc ++ [y]))) else Nx H3) := by
  obtain ⟨hn, hM⟩ := hM
  rw [signs_len] at hn
  refine ⟨fun i m H => m = z.cps.size - i ∧ i ≤ z.cps.size ∧ ∃ ys vs, Trn ms ps cs H0 H1 L eb i ys vs H ∧ mapC body ((signs z).drop i) ys KM, ⟨_, rfl, Nat.zero_le _, [], [], Trn.start w nl, hM⟩, ?_⟩
  rintro i m H ⟨rfl, hi', ys, vs, T, q⟩
  by_cases hlt : i < z.cps.size
  · refine .inr ⟨hlt, fun H' => i + 1 ≤ z.cps.size ∧ ∃ ys vs, Trn ms ps cs H0 H1 L eb (i + 1) ys vs H' ∧ mapC body ((signs z).drop (i + 1)) ys KM, fun H' p' => ⟨_, by omega, rfl, p'⟩, fun x H' y => ?_⟩
    obtain ⟨e, c, hc, y⟩ := y
    subst e y
    rw [drop_cons' (signs_get hc)] at q
    exact hs _ i ys vs _ H' (by omega) T q _ fun y vs' H' k T' => ⟨hlt, _, _, T', k⟩
  · have e : i = z.cps.size := by omega
    refine .inl ⟨by rw [e]; exact Nat.le_refl _, ?_⟩
    have q' : KM ys := by
      rw [List.drop_of_length_le (by rw [signs_len]; omega)] at q
      exact q
    obtain ⟨w', k', r'⟩ := T.done w nl
    exact hd ys H q' w' k' r'
end
/-! != by the text's own == -/
section
variable {M : Model} {prog : Program} {w : World} {A : Around} {E : Value → Shared → Prop} {s : Shared} {K : PySem.W.Frag} {x y C : Addr} {ox : Obj} {od : Option Obj}
theorem entry_objNe {Q : Fin → Shared → Prop} (hu : A.units < cLine) (hcall : wpAny M A (callSpecialIfBound? (.ref x) (Str.ofString "__eq__") [.ref y]) (fun r s' => ∃ b, r = some (.bool b) ∧ Q (.done (.ret (.bool (!b)))) s') E s) :
    wpAny M A (Builtin.«object.__ne__» ⟨[.ref x, .ref y], []⟩) Q E s := by
  unfold Builtin.«object.__ne__»
  repeat (first
    | with_reducible refine wpAny_cRoomFor hu ?_
    | (refine wpAny_bind (m := callSpecialIfBound? (.ref x) (Str.ofString "__eq__") [.ref y])
        (wpAny_mono hcall (fun r s' hr => by
          obtain ⟨b, rfl, hq⟩ := hr
          repeat (first | exact hq | exact wpAny_pure hq | exact wpAny_truthy_bool hq | (refine wpAny_bind (m := truthy (.bool _)) (wpAny_truthy_bool ?_)) | wp_step)) fun _ _ e => e))
    | wp_step)
theorem call_objNe {Q : Value → Shared → Prop} (X : K.In s.heap) (I : PySem.W.InstAt s.heap x ox C od) (hm : PySem.W.mroIn K C (.type "object") = some true) (hu : A.in1.units < cLine)
    (hcall : wpAny (model prog w) A.in1 (callSpecialIfBound? (.ref x) (Str.ofString "__eq__") [.ref y]) (fun r s' => ∃ b, r = some (.bool b) ∧ Q (.bool (!b)) s') E s) :
    wpAny (model prog w) A (call (.builtin "object.__ne__") [.ref x, .ref y]) Q E s := by
  refine wpAny_call (codeAny_call_builtin F.cmp_object.ne.plain F.cmpEntry_ne (PySem.W.check_slot F.cmpKind_ne F.cmpSplit_ne (I.type.andThen (PySem.W.looks_mroIn X hm)) (F.cmpArgs_ne _ _) (entry_objNe hu (wpAny_mono hcall (fun r s' hr => ?_) fun _ _ e => e))))
  obtain ⟨b, rfl, hq⟩ := hr
  first | exact ⟨b, rfl, hq⟩ | exact ⟨b, rfl, wpAny_pure hq⟩
theorem ifBound_objNe {args : List Value} {Q : Option Value → Shared → Prop} (X : K.In s.heap) (I : PySem.W.InstAt s.heap x ox C od) (hs : PySem.W.findIn K (.ref C) "__ne__" = some (some (.builtin "object.__ne__")))
    (h : wpAny M A (call (.builtin "object.__ne__") (.ref x :: args)) (fun v => Q (some v)) E s) : wpAny M A (callSpecialIfBound? (.ref x) "__ne__" args) Q E s := by
  simp only [callSpecialIfBound?, bindSpecialIfBound?]
  refine wpAny_holding (wpAny_bind (wpAny_bind (wpAny_bind (I.type.here ((PySem.W.looks_findIn X hs).here ?_)))))
  refine wpAny_bind (wpAny_askSetting (wpAny_ite ?_))
  have fin : wpAny M A (call (.builtin "object.__ne__") ([.ref x] ++ args) >>= fun v => pure (some v)) Q E s := wpAny_bind (wpAny_mono h (fun v s' h' => wpAny_pure h') fun _ _ h' => h')
  split
  · exact wpAny_bind (wpAny_of_eq (F.cmp_object.ne.bind _) (wpAny_pure (by exact fin)))
  · exact wpAny_tryCatch (wpAny_bind (wpAny_of_eq (F.cmp_object.ne.bind _) (wpAny_pure (by exact fin))))
end
structure OwnNe (K : PySem.W.Frag) (C : Addr) : Prop where
  hne : PySem.W.findIn K (.ref C) "__ne__" = some (some (.builtin "object.__ne__"))
  hm : PySem.W.mroIn K C (.type "object") = some true
def rOwnNe (C : Addr) (sp : Sp) (E : XK) : R2 := fun x y H Q => ∃ a b dx dy fs gs, x = .ref a ∧ y = .ref b ∧ H a = some (.ins C dx fs) ∧ H b = some (.ins C dy gs) ∧ sp [x, y] H (fun v H' => ∃ r : Bool, v = .bl r ∧ Q (.bl (!r)) H') E
theorem op_neOwn {X : Cx} {n : Nat} {CX : CXT} {C f : Addr} {fd : FuncData} {ps : List Str} {sp : Sp} {E : XK} (F : FnOk X.prog X.w X.K X.mg X.base CX n f fd ps sp) (hr : Room (n + 1) X.A)
    (o : OwnEq X.K C f) (o' : OwnNe X.K C) (hb : Binds X.K fd ps []) (hx : Passes CX X E) : OpR X (compareOp .NotEq) (rOwnNe C sp E) := by
  intro pins s σ H x y v u Q I rx ry d
  show wpAny (model X.prog X.w) X.A (richCompare .NotEq v u) (EP X pins σ Q) X.xe s
  obtain ⟨a, b, dx, dy, fs, gs, rfl, rfl, ha, hb', hsp⟩ := d
  cases rx
  cases ry
  obtain ⟨mA, J, _⟩ := ins_get I.hok ha
  obtain ⟨mB, J', _⟩ := ins_get I.hok hb'
  obtain ⟨od, J, _⟩ := J.look
  obtain ⟨od', J', _⟩ := J'.look
  have hl := F.len _ _ _ _ hsp
  have r2 : Vals [V.ref a, V.ref b] [Value.ref a, Value.ref b] := .cons rfl (.cons rfl .nil)
  have one : wpAny (model X.prog X.w) X.A (tryCompare (.ref a) (cmpInfo .NotEq).2.1 (.ref b)) (fun r s' => ∃ v, r = some v ∧ EP X pins σ Q v s') X.xe s := by
    unfold tryCompare
    refine wpAny_bind (ifBound_objNe I.kIn J o'.hne (call_objNe I.kIn J o'.hm hr.in1.units0 (PySem.W.ifBound_K I.kIn J o.hs o.hf ?_)))
    refine wpAny_call (codeAny_mono (F.run X.A.in1 X.stack s H ⟨[.ref a, .ref b], []⟩ [.ref a, .ref b] [.ref a, .ref b] _ E hr.in1 I.env0.in1 (by
      have := hb s [.ref a, .ref b] I.kIn (by simpa using hl)
      simpa using this) r2 hsp) fun r s' hq => ?_)
    cases r with
    | error e => exact hx pins σ H s e s' I hq
    | ok fl =>
      cases fl with
      | ret w =>
        obtain ⟨z, H', I', rz, ⟨r, ez, q⟩⟩ := I.after hq
        subst ez
        cases (show w = Value.bool r from rz)
        exact ⟨r, rfl, wpAny_pure ⟨_, rfl, .bl (!r), H', I', rfl, q⟩⟩
      | next => exact False.elim hq
      | brk => exact False.elim hq
      | cont => exact False.elim hq
  unfold richCompare
  simp only [oneThing_ref]
  refine wpAny_holding (wpAny_bind (wpAny_cRoomFor hr.units0 ?_))
  refine wpAny_bind (J.type.here (wpAny_bind (J'.type.here ?_)))
  rw [show (Value.ref C != Value.ref C) = false from by simp]
  refine wpAny_bind (wpAny_pure ?_)
  simp only [Bool.false_eq_true, if_false]
  refine wpAny_bind (wpAny_mono one (fun r s' z => ?_) fun _ _ e => e)
  obtain ⟨v, rfl, hq⟩ := z
  exact wpAny_pure hq
theorem rep_neOwn {ms : List Addr} {H : Hp} {x y : V} {C : Addr} {ns ns' : List Str} {ds ds' : List D} {sp : Sp} {E : XK} {Q : VK} (h1 : rep ms H (.ins C ns ds) x) (h2 : rep ms H (.ins C ns' ds') y) (k : sp [x, y] H (fun v H' => ∃ r : Bool, v = .bl r ∧ Q (.bl (!r)) H') E) : rOwnNe C sp E x y H Q := by
  obtain ⟨p, dx, fs, e, hp⟩ := rep_ins h1
  obtain ⟨q, dy, gs, e', hq⟩ := rep_ins h2
  subst e e'
  exact ⟨p, q, dx, dy, fs, gs, rfl, rfl, hp, hq, k⟩
/-! a local list that grows -/
mutual
def noL : D → Bool
  | .v _ => true
  | .lst _ => false
  | .tup ds => noLs ds
  | .ins _ _ ds => noLs ds
  | .dct _ ds => noLs ds
  | .dcT _ ds => noLs ds
def noLs : List D → Bool
  | [] => true
  | d :: ds => noL d && noLs ds
end
section
variable {ms : List Addr} {ps : List PEn} {cs : List (Addr × List V)} {H0 H H' : Hp} {L : Addr} {vs : List V}
mutual
theorem rep_lift0 (hL : H L = some (.lst vs)) : ∀ (d : D) (u : V), noL d = true → rep ms H d u → rep (L :: ms) H d u
  | .v x, u, _, h => by
    simp only [rep] at h ⊢
    exact h
  | .lst ds, u, n, h => by
    simp only [noL] at n
    cases n
  | .tup ds, u, n, h => by
    simp only [noL] at n
    simp only [rep] at h ⊢
    obtain ⟨p, us, e, np, hp, hl⟩ := h
    refine ⟨p, us, e, fun z => ?_, hp, repL_lift0 hL ds us n hl⟩
    rcases List.mem_cons.mp z with z | z
    · rw [z, hL] at hp
      cases hp
    · exact np z
  | .ins C ns ds, u, n, h => by
    simp only [noL] at n
    simp only [rep] at h ⊢
    obtain ⟨p, dx, us, e, np, hp, hn, hl⟩ := h
    refine ⟨p, dx, us, e, fun z => ?_, hp, hn, repL_lift0 hL ds us n hl⟩
    rcases List.mem_cons.mp z with z | z
    · rw [z, hL] at hp
      cases hp
    · exact np z
  | .dct ks ds, u, n, h => by
    simp only [noL] at n
    simp only [rep] at h ⊢
    obtain ⟨p, us, e, np, hp, hn, hl⟩ := h
    refine ⟨p, us, e, fun z => ?_, hp, hn, repL_lift0 hL ds us n hl⟩
    rcases List.mem_cons.mp z with z | z
    · rw [z, hL] at hp
      cases hp
    · exact np z
  | .dcT ks ds, u, n, h => by
    simp only [noL] at n
    simp only [rep] at h ⊢
    obtain ⟨p, us, e, np, hp, hn, hl⟩ := h
    refine ⟨p, us, e, fun z => ?_, hp, hn, repL_lift0 hL ds us n hl⟩
    rcases List.mem_cons.mp z with z | z
    · rw [z, hL] at hp
      cases hp
    · exact np z
theorem repL_lift0 (hL : H L = some (.lst vs)) : ∀ (ds : List D) (us : List V), noLs ds = true → repL ms H ds us → repL (L :: ms) H ds us
  | [], us, _, h => by
    simp only [repL] at h ⊢
    exact h
  | d :: ds, us, n, h => by
    simp only [noLs, Bool.and_eq_true] at n
    simp only [repL] at h ⊢
    obtain ⟨u, ws, e, h1, h2⟩ := h
    exact ⟨u, ws, e, rep_lift0 hL d u n.1 h1, repL_lift0 hL ds ws n.2 h2⟩
end
structure Mut (ms : List Addr) (ps : List PEn) (cs : List (Addr × List V)) (H0 H : Hp) (L : Addr) (ds : List D) : Prop where
  hp : L ∉ ad ps
  h0 : H0 L = none
  hc : ∀ c ∈ cs, c.1 ≠ L
  nm : L ∉ ms
  val : ∃ vs, H L = some (.lst vs) ∧ repL (L :: ms) H ds vs
variable {ds : List D} {d : D} {u : V}
theorem mut_new (w : Wd ms ps cs H0 H) (nl : H L = none) (r : repL ms H ds vs) : Wd (L :: ms) ps cs H0 (upd H L (.lst vs)) ∧ Mut ms ps cs H0 (upd H L (.lst vs)) L ds := by
  have wc := Wd.cell (xs := vs) w nl
  have nL : L ∉ ms := fun z => w.tr L z nl
  refine ⟨⟨wc.kp, wc.grow, wc.tr, wc.pot, wc.pm, fun c h => wc.cel c (List.mem_cons_of_mem _ h)⟩, (wc.cel _ List.mem_cons_self).2.2.1, (wc.cel _ List.mem_cons_self).2.2.2, new_ne w nl, nL, vs, upd_same, ?_⟩
  exact repL_map (fun p o n hp => ⟨fun z => by
    rcases List.mem_cons.mp z with z | z
    · exact ne_of_none hp nl z
    · exact n z, by rw [upd_ne (ne_of_none hp nl)]; exact hp⟩) _ _ r
theorem mut_ret (w : Wd (L :: ms) ps cs H0 H) (e : Ret ps H H') (m : Mut ms ps cs H0 H L ds) : Mut ms ps cs H0 H' L ds := by
  obtain ⟨vs, h1, h2⟩ := m.val
  exact ⟨m.hp, m.h0, m.hc, m.nm, vs, e.kp L _ m.hp h1, repL_ret w e h2⟩
theorem mut_ext (e : Ret [] H H') (m : Mut ms ps cs H0 H L ds) : Mut ms ps cs H0 H' L ds := by
  obtain ⟨vs, h1, h2⟩ := m.val
  exact ⟨m.hp, m.h0, m.hc, m.nm, vs, e.kp L _ (by simp) h1, repL_ext e h2⟩
theorem mut_drop (m : Mut ms ps cs H0 H L ds) (w : Wd (L :: ms) ps cs H0 H) : Wd ms ps cs H0 H := by
  refine ⟨w.kp, w.grow, fun a h => w.tr a (List.mem_cons_of_mem _ h), w.pot, fun a h => ?_, fun c h => ?_⟩
  · rcases List.mem_cons.mp (w.pm a h) with z | z
    · rw [z] at h
      exact absurd h m.hp
    · exact z
  · obtain ⟨h1, h2, h3, h4⟩ := w.cel c h
    refine ⟨h1, ?_, h3, h4⟩
    rcases List.mem_cons.mp h2 with z | z
    · exact absurd z (m.hc c h)
    · exact z
theorem mut_rep (m : Mut ms ps cs H0 H L ds) : rep ms H (.lst ds) (.ref L) := by
  obtain ⟨vs, h1, h2⟩ := m.val
  simp only [rep]
  exact ⟨L, vs, rfl, m.nm, h1, repL_weak h2⟩
theorem rep_lift (m : Mut ms ps cs H0 H L ds) (n : noL d = true) (h : rep ms H d u) : rep (L :: ms) H d u := by
  obtain ⟨vs, h1, _⟩ := m.val
  exact rep_lift0 h1 d u n h
theorem mut_app {P : Addr → List V → V → Prop} (m : Mut ms ps cs H0 H L ds) (hl : ds.length < 16777216) (k : ∀ vs, H L = some (.lst vs) → repL (L :: ms) H ds vs → P L vs u) :
    ∃ (l : Addr) (xs : List V) (y : V), V.ref L = .ref l ∧ [u] = [y] ∧ H l = some (.lst xs) ∧ xs.length < sizeLine ∧ P l xs y := by
  obtain ⟨vs, h1, h2⟩ := m.val
  refine ⟨L, vs, u, rfl, rfl, h1, ?_, k vs h1 h2⟩
  rw [← repL_len h2, sizeLine_eq]
  exact hl
theorem mut_upd (w : Wd (L :: ms) ps cs H0 H) (m : Mut ms ps cs H0 H L ds) (hv : H L = some (.lst vs)) (h2 : repL (L :: ms) H ds vs) (r : rep (L :: ms) H d u) :
    Wd (L :: ms) ps cs H0 (upd H L (.lst (vs ++ [u]))) ∧ Mut ms ps cs H0 (upd H L (.lst (vs ++ [u]))) L (ds ++ [d]) ∧ (∀ d' u', rep (L :: ms) H d' u' → rep (L :: ms) (upd H L (.lst (vs ++ [u]))) d' u') ∧ True := by
  refine ⟨⟨fun a o n h => ?_, fun a h => ?_, fun a h => ?_, fun a h => ?_, w.pm, fun c h => ?_⟩, ⟨m.hp, m.h0, m.hc, m.nm, _, upd_same, ?_⟩, fun d u' h => ?_, trivial⟩
  · rw [upd_ne (ne_of_none h m.h0)]
    exact w.kp a o n h
  · by_cases e : a = L
    · rw [e, upd_same]
      exact fun z => nomatch z
    · rw [upd_ne e]
      exact w.grow a h
  · by_cases e : a = L
    · rw [e, upd_same]
      exact fun z => nomatch z
    · rw [upd_ne e]
      exact w.tr a h
  · refine ent_stay (w.pot a h) (fun o ho => by rw [upd_ne (fun z => m.hp (by rw [← z]; exact mem_ad h))]; exact ho) fun c q hc => ?_
    rw [upd_ne (fun z => by rw [z, hv] at hc; cases hc)]
    exact hc
  · obtain ⟨h1, h3, h4, h5⟩ := w.cel c h
    exact ⟨by rw [upd_ne (m.hc c h)]; exact h1, h3, h4, h5⟩
  · exact repL_put List.mem_cons_self (repL_app h2 (repL_one r))
  · exact rep_put List.mem_cons_self h
end
section
variable {ms : List Addr} {ps : List PEn} {cs : List (Addr × List V)} {H0 H H1 H' : Hp} {L : Addr} {K : PySem.W.Frag} {x : V}
theorem keep_none {w : Wd ms ps cs H0 H} (nl : H L = none) (k : Keep ms H1 H) : H1 L = none := by
  have nL : L ∉ ms := fun z => w.tr L z nl
  cases q : H1 L with
  | none => rfl
  | some o =>
    have := k L o nL q
    rw [nl] at this
    cases this
theorem keep_frz (n : H1 L = none) (k : Keep (L :: ms) H1 H) : Keep ms H1 H := fun a o na h => k a o (fun z => by
  rcases List.mem_cons.mp z with z | z
  · rw [z, n] at h
    cases h
  · exact na z) h
theorem rep_ixN {α : Type} {e : α → D} {xs : List α} {i : Int} {y : α} {Q : VK} (h : rep ms H (.lst (xs.map e)) x) (hi : atI xs i = some y) (k : ∀ v, rep ms H (e y) v → Q v H) : rIxL K x (.int i) H Q := by
  simp only [rep] at h
  obtain ⟨p, vs, e', _, hp, hr⟩ := h
  have hl := repL_len hr
  rw [List.length_map] at hl
  unfold atI at hi
  cases hx : ixN xs.length i with
  | none =>
    rw [hx] at hi
    cases hi
  | some j =>
    rw [hx] at hi
    have hj : xs[j]? = some y := hi
    obtain ⟨v, hv, rv⟩ := repL_get (d := e y) (j := j) hr (by rw [List.getElem?_map, hj]; rfl)
    refine ⟨p, vs, i, v, e', rfl, .inl (.inl hp), ?_, k v rv⟩
    unfold atI
    rw [← hl, hx]
    exact hv
theorem rep_rg_mk {p : Addr} {a b : Int} (w : Wd ms ps cs H0 H) (np : H p = none) (e : Ret [] H H') (hp : H' p = some (.lst (rgV a b))) : rep ms H' (.lst ((rangeI a b).map fun n => D.v (.int n))) (.ref p) := by
  simp only [rep]
  refine ⟨p, rgV a b, rfl, fun z => w.tr p z np, hp, ?_⟩
  have e1 : (rangeI a b).map (fun n => D.v (.int n)) = (rgV a b).map D.v := by
    unfold rangeI rgV
    rw [List.map_map, List.map_map]
    rfl
  rw [e1]
  exact repL_flat.mpr rfl
end
/-! ranges of any size -/
theorem turn_long {P : Program} {w : World} {K : PySem.W.Frag} {tg : Expr} (it : Addr) (lo : Int) (n : Nat) : Turn P w K tg (Itr lo n) [it] it (fun i h => IsLongIter h it (lo + (i : Nat) * 1) ((n : Int) - (i : Nat)) 1) where
  mem := by simp
  obj := fun i h st b hb => by
    have e : b = it := by simpa using hb
    subst e
    exact ⟨_, st, fun v z => by
      have z' : Data.fields _ = Data.cell v := z
      cases z'⟩
  keep := fun i h h' st k => k it (by simp) _ st
  item := by
    intro X hP hw hK hc i pins s σ H E I hf st hg
    subst hP hw hK
    obtain ⟨f0, f1, f2, f3, f4, f5⟩ := hf it (by simp)
    have W := Walks.longrange (prog := X.prog) (w := X.w) (I.ok.hd hc) it lo 1 n
    refine W.item i s _ _ hg st fun v h' tk hv st' kk => ?_
    obtain ⟨t, rfl⟩ := hv
    have I1 : Inv X pins σ H { s with heap := h', toks := tk } := I.turned (fun b o hb e => kk b o (by simpa using hb) e) f0 f1 f3 f4 f5
    refine ⟨_, rfl, go_of (s := { s with heap := h', toks := tk }) (n := "longrange_iterator") st' rfl rfl (by decide) ⟨.int (lo + i), H, I1, ⟨t, ?_⟩, ⟨rfl, rfl⟩, st', fun b hb => (hf b hb).1⟩⟩
    rw [Int.mul_one]
  done := by
    intro X hP hw hK hc i pins s σ H E I hf st hg
    subst hP hw hK
    obtain ⟨f0, f1, f2, f3, f4, f5⟩ := hf it (by simp)
    exact wpAny_pyNext_long_end (I.ok.hd hc) st (by have : n ≤ i := hg; omega) fun h' eb => ⟨rfl, I.turned (t' := s.toks) (fun b o hb e => eb b o hb e) f0 f1 f3 f4 f5⟩
  self := fun _ _ _ _ _ st h => wpAny_pyIter_longiter st h
section
variable {X : Cx} {tg : Expr}
theorem range_itW {pins : List (Addr × Obj)} {σ : L2.St} {H : Hp} {s : Shared} {R : It → Hp → Prop} {E : Value → Shared → Prop} {lo hi : Int} {t u v : Tok} {tk : Nat} (I : Inv X pins σ H s)
    (q : R (Itr lo (hi - lo).toNat) H) : wpAny (model X.prog X.w) X.A (pyIter (.ref s.heap.objs.size)) (PIE X pins σ tg R) E { s with heap := s.heap.push { cls := .type "range", data := .fields #[.int lo t, .int hi u, .int 1 v] }, toks := tk } := by
  have I1 : Inv X pins σ H { s with heap := s.heap.push { cls := .type "range", data := .fields #[.int lo t, .int hi u, .int 1 v] }, toks := tk } := I.kept fun b o e => Heap.get?_push_of_some _ e
  have e1 : lo + ((0 : Nat) : Int) * 1 = lo := by simp
  have e2 : (((hi - lo).toNat : Nat) : Int) - ((0 : Nat) : Int) = Builtin.Range.rangeSize lo hi 1 := by rw [rangeSize_one]; split <;> omega
  cases hs : Builtin.Range.small lo hi 1 with
  | true =>
    refine wpAny_pyIter_range (IsRange.new ..) hs ?_
    refine ⟨(s.heap.push { cls := .type "range", data := .fields #[.int lo t, .int hi u, .int 1 v] }).objs.size, [(s.heap.push { cls := .type "range", data := .fields #[.int lo t, .int hi u, .int 1 v] }).objs.size], _, _, H, rfl,
      I1.kept (t' := tk) fun b o e => Heap.get?_push_of_some _ e, turn_range _ lo (hi - lo).toNat, ?_, fun b hb => ?_, q⟩
    · show IsRangeIter _ _ (lo + ((0 : Nat) : Int) * 1) ((((hi - lo).toNat : Nat) : Int) - ((0 : Nat) : Int)) 1
      rw [e1, e2]
      exact Heap.get?_push_size _ rfl
    · have e : b = (s.heap.push { cls := .type "range", data := .fields #[.int lo t, .int hi u, .int 1 v] }).objs.size := by simpa using hb
      subst e
      exact I1.fpOk (Nat.le_refl _) (I1.hok.fresh (Nat.le_refl _))
  | false =>
    refine wpAny_pyIter_longrange (IsRange.new ..) hs ?_
    refine ⟨(s.heap.push { cls := .type "range", data := .fields #[.int lo t, .int hi u, .int 1 v] }).objs.size, [(s.heap.push { cls := .type "range", data := .fields #[.int lo t, .int hi u, .int 1 v] }).objs.size], _, _, H, rfl,
      I1.kept (t' := tk) fun b o e => Heap.get?_push_of_some _ e, turn_long _ lo (hi - lo).toNat, ?_, fun b hb => ?_, q⟩
    · show IsLongIter _ _ (lo + ((0 : Nat) : Int) * 1) ((((hi - lo).toNat : Nat) : Int) - ((0 : Nat) : Int)) 1
      rw [e1, e2]
      exact Heap.get?_push_size _ rfl
    · have e : b = (s.heap.push { cls := .type "range", data := .fields #[.int lo t, .int hi u, .int 1 v] }).objs.size := by simpa using hb
      subst e
      exact I1.fpOk (Nat.le_refl _) (I1.hok.fresh (Nat.le_refl _))
def iRngW1 (ta : TA) : TI := fun σ H R => ta σ H fun vs H1 => ∃ j : Int, vs = [.int j] ∧ R (Itr 0 j.toNat) H1
def iRngW2 (ta : TA) : TI := fun σ H R => ta σ H fun vs H1 => ∃ i j : Int, vs = [.int i, .int j] ∧ R (Itr i (j - i).toNat) H1
theorem pi_rangeW1 {a : Expr} {ta : TA} {p pos : Pos} (hg : Gl X "range") (hm : X.mg "range" = none) (ha : PA X [a] ta) (hs : starEach [a] X.env = [(false, eval a X.env)] := by rfl) : PI X tg (.Call (.Name "range" p) [a] [] pos) (iRngW1 ta) := by
  refine ⟨fun pins s σ H R I h => ?_⟩
  refine Call_ (ld_blt I hg hm boot_range (PyProof.Rows.callWith_type1 (thn (ha.run pos pins s σ H _ I h) fun us s1 ⟨vs, H1, I1, r1, q1⟩ => ?_) hs rfl))
  obtain ⟨j, e, q⟩ := q1
  subst e
  cases r1 with
  | cons r rr =>
    cases rr
    obtain ⟨t, rfl⟩ := r
    exact call_range_1 (range_itW I1 (by simpa using q))
theorem pi_rangeW2 {a b : Expr} {ta : TA} {p pos : Pos} (hg : Gl X "range") (hm : X.mg "range" = none) (ha : PA X [a, b] ta) (hs : starEach [a, b] X.env = [(false, eval a X.env), (false, eval b X.env)] := by rfl) (hs2 : starEach [b] X.env = [(false, eval b X.env)] := by rfl) :
    PI X tg (.Call (.Name "range" p) [a, b] [] pos) (iRngW2 ta) := by
  refine ⟨fun pins s σ H R I h => ?_⟩
  refine Call_ (ld_blt I hg hm boot_range (PyProof.Rows.callWith_type1 (thn (ha.run pos pins s σ H _ I h) fun us s1 ⟨vs, H1, I1, r1, q1⟩ => ?_) (by rw [hs, hs2]) (by rw [hs2]; rfl)))
  obtain ⟨i, j, e, q⟩ := q1
  subst e
  cases r1 with
  | cons r rr =>
    cases rr with
    | cons r' rr =>
      cases rr
      obtain ⟨t, rfl⟩ := r
      obtain ⟨t', rfl⟩ := r'
      exact call_range_2 (range_itW I1 q)
end
end Rx
namespace Rx
open PySem PySem.Spec PyProof.Rows L2
/-- a def's promise, asked only where no text is under way -/
structure FnG (P : Program) (w : World) (K : PySem.W.Frag) (mg : Str → Option Value) (base : Heap) (k : Nat) (f : Addr) (fd : FuncData) (ps : List Str) (sp : Sp) : Prop where
  len : ∀ vs H Q E, sp vs H Q E → vs.length = ps.length
  run : ∀ (A : Around), A.guards = some [] → Room k A → ∀ (outer : List Env) (s : Shared) (H : Hp) (args : Args) (us : List Value) (vs : List V) (Q : VK) (E : XK), Env0 P w K mg base A outer s H → BindsTo s fd args (ps.zip us) → Vals vs us → sp vs H Q E →
    codeAny (model P w) A (.call (.ref f) args) (CR CX0 outer P w H s Q E) s
theorem FnG.of {P : Program} {w : World} {K : PySem.W.Frag} {mg : Str → Option Value} {base : Heap} {k : Nat} {f : Addr} {fd : FuncData} {ps : List Str} {sp : Sp} (F : FnOk P w K mg base CX0 k f fd ps sp) : FnG P w K mg base k f fd ps sp :=
  ⟨F.len, fun A _ hr outer s H args us vs Q E => F.run A outer s H args us vs Q E hr⟩
section
variable {X : Cx} {k : Nat} {f : Addr} {fd : FuncData} {ps : List Str} {sp : Sp} {x : Str} {e : Expr} {es : List Expr} {p pos : Pos} {t : TA}
theorem runG {pins : List (Addr × Obj)} {σ : L2.St} {H : Hp} {s : Shared} {Q : VK} {us : List Value} {vs : List V} (F : FnG X.prog X.w X.K X.mg X.base k f fd ps sp) (hg : X.A.guards = some []) (hr : Room k X.A) (hb : Binds X.K fd ps [])
    (I : Inv X pins σ H s) (r : Vals vs us) (h : sp vs H Q E0) : wpAny (model X.prog X.w) X.A (call (.ref f) us) (EP X pins σ Q) X.xe s := by
  have hl : us.length = ps.length := r.length.symm.trans (F.len _ _ _ _ h)
  have bt := hb s us I.kIn (by rw [List.append_nil]; exact hl)
  rw [List.append_nil] at bt
  refine wpAny_call (codeAny_mono (F.run X.A hg hr X.stack s H ⟨us, []⟩ us vs Q E0 I.env0 bt r h) fun out s' hq => ?_)
  rcases out with err | fl
  · exact pass0 pins σ H s err s' I hq
  · rcases fl with _ | _ | _ | u
    all_goals first | exact I.after hq | exact hq.elim
/-- f(e, ..) -/
theorem pe_callG (F : FnG X.prog X.w X.K X.mg X.base k f fd ps sp) (gu : X.A.guards = some []) (hr : Room k X.A) (hg : Gl X x) (hm : X.mg x = some (.ref f)) (hk : PySem.W.keepIn X.K (.ref f) = true) (hb : Binds X.K fd ps []) (ha : PA X (e :: es) t)
    (hdb : (x == ("__debug__" : Str)) = false := by decide) (he : starEach (e :: es) X.env = (false, eval e X.env) :: starEach es X.env := by rfl) (hpl : (backTo pos (starEach es X.env)).any (·.1) = false := by rfl) :
    PE X (.Call (.Name x p) (e :: es) [] pos) (tCall sp [] E0 t) :=
  ⟨fun pins s σ H Q I h => wpAny_Call_Name_kw (ld_glob I hg hm (PySem.W.callWith_K (h₀ := X.base) I.ok.mod.kin hk (thn (ha.run pos pins s σ H _ I h) fun us s1 ⟨vs, H1, I1, r, q⟩ => ⟨I1.kIn, runG F gu hr hb I1 r (by have q' : sp (vs ++ []) H1 Q E0 := q; rwa [List.append_nil] at q')⟩) he hpl) hdb)⟩
end
section
variable {P : Program} {w : World} {K : PySem.W.Frag} {mg : Str → Option Value} {base : Heap}
/-- a def whose body is read where no text is under way -/
theorem okG {x qual : Str} {st : Stmt} {f : Addr} {fd : FuncData} {N ps : List Str} {k : Nat} {sp : Sp} (F : Fun K x qual st f fd) (S : FnScope N ps (defScope st)) (len : ∀ vs H Q E, sp vs H Q E → vs.length = ps.length)
    (hbody : ∀ (cdv : Value) (A : Around) (outer : List Env) (s : Shared) (H : Hp) (vs : List V) (Q : VK) (E : XK), A.guards = some [] → Room k (A.deeper (envOfC qual (defScope st) s.heap.objs.size f cdv)) → sp vs H Q E →
      ∃ t, PSs (cxOf CX0 P w K mg base N qual (defScope st) f cdv A outer s H E).nox (defBody st) t ∧ t { nx := fun _ H' => Q .non H', rt := Q } (start N vs) H) : FnG P w K mg base (k + 1) f fd ps sp := by
  obtain ⟨oc, od, kV, doc, pm, an, cdv, ct, osl, rfl, lk, hcd⟩ := F.ex
  refine ⟨len, fun A gu hr outer s H args us vs Q E en bt rv hs => ?_⟩
  have inK : K.In s.heap := en.mod.kin.keeps fun b o h => (en.bs b o h).1
  have names : ∀ y ∈ ps.zip us, (defScope st).names.lookup y.1 = some .local ∨ ((defScope st).names.lookup y.1 = some .cell ∧ ((cellsFrom (s.heap.objs.size + 1) (defScope st).names []).lookup y.1).isSome = true) := by
    rintro ⟨n, v⟩ hy
    exact (S.par n (List.of_mem_zip hy).1).imp id fun q => ⟨q, PySem.W.cellsFrom_some _ _ _ (.inl q)⟩
  refine codeAny_call_function hr.depth (inK _ _ lk) rfl S.co S.gen rfl (PySem.W.codeRec_of inK hcd) (bt _ _ _ _ (wpAny_newFunctionEnv_cells S.kind names fun env he s1 inner => ?_))
  subst he
  refine ⟨(en.mod.nolimit.keeps fun b o h => (en.bs b o h).1).keeps inner.toInCall.keep, codeAny_func ?_⟩
  obtain ⟨t, ht, hq⟩ := hbody cdv A outer s H vs Q E gu (hr.deeper _) hs
  have start0 : Inv (cxOf CX0 P w K mg base N qual (defScope st) f cdv A outer s H E) [] (start N vs) H s1 := inv_start S hr.hd en (len _ _ _ _ hs) rv inner
  have leave : ∀ {σ' : L2.St} {H' : Hp} {v : V} {u : Value} {s' : Shared}, Inv (cxOf CX0 P w K mg base N qual (defScope st) f cdv A outer s H E) [] σ' H' s' → RelV v u → Q v H' → CE outer P w H s Q u s' :=
    fun {σ' H' v u s'} J r q => ⟨v, H', J.os, J.bare, J.base, J.hok, r, q⟩
  refine wpAny_mono (ht.nox.run [] s1 (start N vs) H _ start0 hq) (fun fl s' hs' => ?_) fun _ _ h => h
  rcases fl with _ | _ | _ | u
  · obtain ⟨σ', H', J, q⟩ := hs'
    exact leave (v := V.non) (u := Value.none) J rfl q
  · obtain ⟨_, _, _, q⟩ := hs'
    exact q.elim
  · obtain ⟨_, _, _, q⟩ := hs'
    exact q.elim
  · obtain ⟨v, σ', H', J, r, q⟩ := hs'
    exact leave J r q
end
/-! the law's own call, where nothing is under way -/
section
variable {P : Program} {w : World} {K : PySem.W.Frag} {mg mb : Str → Option Value} {k : Nat} {fa a : Addr} {fd : FuncData} {x : Str} {sp : Sp} {s1 : Shared} {vs : List Value} {ns : List Int}
abbrev EndG (h : Heap) (os : OsState) (r : Result) (s' : Shared) : Prop := r = .ok (.ret (.bool true)) ∧ OldK h s'.heap ∧ s'.os = os ∧ AllBare s'.gens
/-- from one abstract heap that tells the script alone, if at all -/
theorem callG_at (inK : K.In s1.heap) (top : s1.heap.Ns mainGlobals mg) (bl : s1.heap.Ns builtinsNs mb) (blb : ∀ x : Str, x ≠ "__name__" → mb x = bootBuiltins x) (nl : s1.heap.NoLimit) (ng : s1.gens = #[])
    (obj : s1.heap.get? a = some { cls := .type "list", data := .seq vs.toArray }) (hr : Room k callerA) (F : ∀ base : Heap, K.In base → base.Ns mainGlobals mg → FnG P w K mg base k fa fd [x] sp) (bind : ∀ (s : Shared) (u : Value), BindsTo s fd ⟨[u], []⟩ [(x, u)])
    {H : Hp} (only : Only H) (ok : HOk P w H s1.heap) (at_a : ∀ b, H b ≠ none → b = a) (own : H a ≠ none → K.lookup a = none) (q : sp [.ref a] H (fun v _ => v = .bl true) E0) :
    codeAny (model P w) callerA (.call (.ref fa) ⟨[.ref a], []⟩) (EndG s1.heap s1.os) s1 := by
  have told : ∀ b, H b = none ∨ b = a := fun b => (Classical.em (H b = none)).imp id (at_a b)
  have keepN : ∀ {b : Addr} {m : Str → Option Value}, s1.heap.Ns b m → (hidT s1.heap H).Ns b m := fun {b m} ⟨o, es, ep, e, d, r⟩ => ⟨o, es, ep, hidT_get e ((told b).elim id fun z => by
    subst z
    rw [obj] at e
    cases e
    cases (show Data.seq vs.toArray _ = Data.dict es ep from d)), d, r⟩
  have keepK : K.In (hidT s1.heap H) := fun b o e => hidT_get (inK b o e) ((told b).elim id fun z => by
    subst z
    exact Classical.byContradiction fun n => by
      rw [own n] at e
      cases e)
  have md : Mod K mg (hidT s1.heap H) := ⟨keepK, keepN top, ⟨mb, keepN bl, blb⟩, nl.imp fun _ h => ⟨keepN h.1, h.2⟩⟩
  have en : Env0 P w K mg (hidT s1.heap H) callerA [] s1 H := ⟨rfl, md, fun b o e => of_hidT e, Nat.le_of_eq (hidT_size _ _), trivial, fun b hb => (List.not_mem_nil hb).elim, ok, .of_eq ng⟩
  refine codeAny_mono ((F _ keepK (keepN top)).run callerA rfl hr [] s1 H ⟨[.ref a], []⟩ [.ref a] [.ref a] _ _ en (bind s1 (.ref a)) (.cons rfl .nil) q) fun r s' h => ?_
  rcases r with e | fl
  · exact (show False from h).elim
  · rcases fl with _ | _ | _ | u
    · exact (show False from h).elim
    · exact (show False from h).elim
    · exact (show False from h).elim
    · obtain ⟨v, H', os, bare, un, ok', rv, qv⟩ := h
      cases (show v = .bl true from qv)
      cases (show u = Value.bool true from rv)
      refine ⟨rfl, OldK.of_keep fun b o e => ?_, os, bare⟩
      rcases only b with z | ⟨ob, xs, z⟩
      · exact un.keep b o e z (List.not_mem_nil) (List.not_mem_nil)
      · have e1 := (ok b _ z).1
        have e2 := (ok' b _ (un.frzs b ob _ z)).1
        exact (Option.some.inj (e.symm.trans e1)) ▸ e2
theorem callG (inK : K.In s1.heap) (top : s1.heap.Ns mainGlobals mg) (bl : s1.heap.Ns builtinsNs mb) (blb : ∀ x : Str, x ≠ "__name__" → mb x = bootBuiltins x) (nl : s1.heap.NoLimit) (ng : s1.gens = #[])
    (obj : s1.heap.get? a = some { cls := .type "list", data := .seq vs.toArray }) (its0 : IntsAre vs ns) (small : ns.length ≤ sizeLine) (hr : Room k callerA) (F : ∀ base : Heap, K.In base → base.Ns mainGlobals mg → FnG P w K mg base k fa fd [x] sp)
    (bind : ∀ (s : Shared) (u : Value), BindsTo s fd ⟨[u], []⟩ [(x, u)]) (q : ∀ H : Hp, Only H → SqL K H a (ns.map V.int) → sp [.ref a] H (fun v _ => v = .bl true) E0) :
    codeAny (model P w) callerA (.call (.ref fa) ⟨[.ref a], []⟩) (EndG s1.heap s1.os) s1 := by
  have rv := vals_ints its0
  have lv := its0.length
  cases hk : K.lookup a with
  | some o =>
    have e := inK a o hk
    rw [obj] at e
    cases e
    have sq : SqL K (fun _ => none) a (ns.map V.int) := .inr ⟨_, vs.toArray, _, hk, rfl, rfl, rfl, by rw [List.size_toArray, lv]; exact small, by simpa using rv⟩
    exact callG_at inK top bl blb nl ng obj hr F bind (H := fun _ => none) (fun _ => .inl rfl) (fun b u z => nomatch (show (none : Option HO) = some u from z)) (fun b z => absurd rfl z) (fun z => absurd rfl z) (q _ (fun _ => .inl rfl) sq)
  | none =>
    generalize hH : (fun b => if b = a then some (HO.frz { cls := .type "list", data := .seq vs.toArray } (.lst (ns.map V.int))) else none : Hp) = H
    have here : H a = some (.frz { cls := .type "list", data := .seq vs.toArray } (.lst (ns.map V.int))) := by rw [← hH]; exact if_pos rfl
    have else_ : ∀ b, b ≠ a → H b = none := fun b n => by rw [← hH]; exact if_neg n
    have only : Only H := fun b => (Classical.em (b = a)).elim (fun e => .inr ⟨{ cls := .type "list", data := .seq vs.toArray }, ns.map V.int, by rw [e]; exact here⟩) fun n => .inl (else_ b n)
    refine callG_at inK top bl blb nl ng obj hr F bind only (fun b u z => ?_) (fun b z => Classical.byContradiction fun n => z (else_ b n)) (fun _ => hk) (q _ only (.inl (.inr ⟨_, here⟩)))
    by_cases e : b = a
    · subst e
      rw [here] at z
      cases z
      exact ⟨obj, by rw [List.length_map]; exact small, vs, _, rv, obj⟩
    · rw [else_ b e] at z
      cases z
end
/-- the goal behind the head of an open law, by a promise that may tell texts of lists -/
theorem walk_ofG {l : PySem.W.OpenLaw} {n k : Nat} {q : Program} {loose : List Str} {XP : (Str → Option Value) → Heap → Prop} {YP : World → Heap → Prop} {d : DefRec} {K : Params → PySem.W.Frag} {sp : World → Sp} {x : Str}
    (most : l.most = some n) (small : n ≤ sizeLine) (plain : d.params.defaults = []) (hr : Room k callerA) (inK : ∀ (w : World) (h : Heap), YP w h → (K w.params).In h)
    (F : ∀ (w : World) (mg : Str → Option Value) (fa : Addr) (h : Heap), (K w.params).In h → h.Ns mainGlobals mg → mg d.name = some (.ref fa) →
      ∃ fd : FuncData, (∀ (s : Shared) (u : Value), BindsTo s fd ⟨[u], []⟩ [(x, u)]) ∧ ∀ base : Heap, (K w.params).In base → base.Ns mainGlobals mg → FnG l.prog w (K w.params) mg base k fa fd [x] (sp w))
    (enter : ∀ (w : World) (H : Hp) (a : Addr) (ns : List Int), ns.length ≤ n → Only H → SqL (K w.params) H a (ns.map V.int) → sp w [.ref a] H (fun v _ => v = .bl true) E0) :
    PySem.W.WalkO q loose XP YP l.row.toRowW d [] (fun f vs => PySem.call f vs) := by
  refine Att.attach_call most plain fun w s₀ s₁ mg mb fa o pm cd doc a vs ns G Y ho hd hcd hmg obj its0 len ng => ?_
  obtain ⟨fd, bind, hF⟩ := F w mg fa _ (inK w _ Y) G.T.g hmg
  exact callG (inK w _ Y) G.T.g G.T.b G.T.builtins G.T.nolimit ng obj its0 (Nat.le_trans len small) hr hF bind fun H only sq => enter w H a ns len only sq
/-! repr of lists and tuples -/
def rReprD (K : PySem.W.Frag) : List V → Hp → VK → Prop := fun xs H Q => ∃ (a : Addr) (d : PyData), xs = [.ref a] ∧ Dp K H (.ref a) d ∧ d.showable = true ∧ d.hasDict = false ∧ d.depth ≤ 60 ∧ d.shown.length ≤ sizeLine ∧ Q (.str d.shown) H
theorem call_reprD {X : Cx} {k : Nat} (gu : X.A.guards = some []) (hr : Room k X.A) : CallR X (.builtin "repr") (rReprD X.K) := by
  intro pins s σ H xs us Q I r h
  obtain ⟨a, d, rfl, dp, sh, nd, dep, len, q⟩ := h
  obtain ⟨u, rfl, ru⟩ := r.one
  cases ru
  obtain ⟨as, rd⟩ := Dp.reads I d _ _ dp rfl
  have un := hr.un
  refine repr_of_reads' (h₀ := s.heap) rd sh (fun z => by rw [nd] at z; cases z) gu (by omega) (fun _ _ h => h) (fun h' u tk keep => ?_) len
  exact ⟨.str d.shown, H, I.kept keep, ⟨u, rfl⟩, q⟩
/-- repr of any plain data -/
def rReprA (K : PySem.W.Frag) : List V → Hp → VK → Prop := fun xs H Q => ∃ (x : V) (d : PyData), xs = [x] ∧ Dp K H x d ∧ d.showable = true ∧ d.hasDict = false ∧ d.depth ≤ 60 ∧ d.shown.length ≤ sizeLine ∧ Q (.str d.shown) H
theorem call_reprA {X : Cx} {k : Nat} (gu : X.A.guards = some []) (hr : Room k X.A) : CallR X (.builtin "repr") (rReprA X.K) := by
  intro pins s σ H xs us Q I r h
  obtain ⟨x, d, rfl, dp, sh, nd, dep, len, q⟩ := h
  have big : ∀ a, x = .ref a → wpAny (model X.prog X.w) X.A (call (.builtin "repr") us) (EP X pins σ Q) X.xe s := fun a e => by
    subst e
    exact call_reprD gu hr pins s σ H _ us Q I r ⟨a, d, rfl, dp, sh, nd, dep, len, q⟩
  cases dp with
  | non =>
    obtain ⟨u, rfl, ru⟩ := r.one
    cases (show u = Value.none from ru)
    exact P.repr_of_none ⟨.str PyData.none.shown, H, I.tok _, ⟨_, rfl⟩, q⟩
  | bl b =>
    obtain ⟨u, rfl, ru⟩ := r.one
    cases (show u = Value.bool b from ru)
    exact P.repr_of_bool ⟨.str (PyData.bool b).shown, H, I.tok _, ⟨_, rfl⟩, q⟩
  | int i =>
    obtain ⟨u, rfl, t, rfl⟩ := r.one
    exact P.repr_of_int (of_decide_eq_true sh) ⟨.str (PyData.int i).shown, H, I.tok _, ⟨_, rfl⟩, q⟩
  | str z =>
    obtain ⟨u, rfl, t, rfl⟩ := r.one
    exact P.repr_of_str ⟨.str (PyData.str z).shown, H, I.tok _, ⟨_, rfl⟩, q⟩ len
  | lst _ _ => exact big _ rfl
  | tup _ _ => exact big _ rfl
section
variable {K : PySem.W.Frag} {ms : List Addr} {H : Hp} {d : D} {x : V}
theorem rep_repr {P : PyData → Prop} (h : rep ms H d x) (p : plainD d = true) (sh : (pyOf d).showable = true) (nd : (pyOf d).hasDict = false) (dep : (pyOf d).depth ≤ 60) (len : (pyOf d).shown.length ≤ sizeLine) (q : P (pyOf d)) :
    ∃ (x' : V) (d : PyData), [x] = [x'] ∧ Dp K H x' d ∧ d.showable = true ∧ d.hasDict = false ∧ d.depth ≤ 60 ∧ d.shown.length ≤ sizeLine ∧ P d :=
  ⟨x, _, rfl, dp_of (K := K) d x p h, sh, nd, dep, len, q⟩
end
/-! [e for x in range(lo, hi) if test]; min and max of a list of ints -/
section
variable {β : Type} {K : PySem.W.Frag} {ms : List Addr} {ps : List PEn} {cs : List (Addr × List V)} {H0 H1 : Hp} {g : TG} {tt : TT} {te : TE} {vl : List Nat} {σ : L2.St} {Qd : Hp → Prop}
theorem lf_rangeC {lo hi : Int} {N : Nat} {L : Addr} {eb : β → D} {body : Int → (Option β → Prop) → Prop} {KM : List β → Prop} (hN : N = (hi - lo).toNat) (w : Wd ms ps cs H0 H1) (nl : H1 L = none) (hM : (rangeI lo hi).length < 100000 ∧ filC body (rangeI lo hi) [] KM)
    (hs : ∀ (x : Int) (n : Nat) (ys : List β) (vs : List V) (k : Option β → Prop) (H : Hp), n < 100000 → Trn ms ps cs H0 H1 L eb n ys vs H → body x k → ∀ Nx : Hp → Prop,
        (∀ y vs' H', k (some y) → Trn ms ps cs H0 H1 L eb (n + 1) (ys ++ [y]) vs' H' → Nx H') → (∀ vs' H', k none → Trn ms ps cs H0 H1 L eb (n + 1) ys vs' H' → Nx H') →
      g (.int x) (wipe σ vl) H fun σ2 H2 => wipe σ2 vl = wipe σ vl ∧ tt σ2 H2 fun b H3 => if b = true then te σ2 H3 fun y H4 => ∃ acc, H4 L = some (.lst acc) ∧ acc.length < sizeLine ∧ Nx (upd H4 L (.lst (acc ++ [y]))) else Nx H3)
    (hd : ∀ ys H, KM ys → Wd ms ps cs H0 H → Keep ms H1 H → rep ms H (.lst (ys.map eb)) (.ref L) → Qd H) :
    ∃ W : Nat → Nat → Hp → Prop, (∃ m, W 0 m (upd H1 L (.lst []))) ∧ ∀ i m H, W i m H →
      ((Itr lo N).stop i H ∧ Qd H) ∨ ((Itr lo N).go i H ∧ ∃ Nx : Hp → Prop, (∀ H', Nx H' → ∃ m', m' < m ∧ W (i + 1) m' H') ∧ ∀ x H', (Itr lo N).yld i H x H' → g x (wipe σ vl) H' fun σ2 H2 => wipe σ2 vl = wipe σ vl ∧ tt σ2 H2 fun b H3 =>
        if b = true then te σ2 H3 fun y H4 => ∃ acc, H4 L = some (.lst acc) ∧ acc.length < sizeLine ∧ Nx (upd H4 L (.lst (acc ++ [y]))) else Nx H3) := by
  obtain ⟨hn, hM⟩ := hM
  subst hN
  rw [rangeI_len] at hn
  refine ⟨fun i m H => m = (hi - lo).toNat - i ∧ i ≤ (hi - lo).toNat ∧ ∃ ys vs, Trn ms ps cs H0 H1 L eb i ys vs H ∧ filC body ((rangeI lo hi).drop i) ys KM, ⟨_, rfl, Nat.zero_le _, [], [], Trn.start w nl, hM⟩, ?_⟩
  rintro i m H ⟨rfl, hi', ys, vs, T, q⟩
  by_cases hlt : i < (hi - lo).toNat
  · refine .inr ⟨hlt, fun H' => i + 1 ≤ (hi - lo).toNat ∧ ∃ ys vs, Trn ms ps cs H0 H1 L eb (i + 1) ys vs H' ∧ filC body ((rangeI lo hi).drop (i + 1)) ys KM, fun H' p' => ⟨_, by omega, rfl, p'⟩, fun x H' y => ?_⟩
    obtain ⟨e, y⟩ := y
    subst e y
    rw [drop_cons' (rangeI_get hlt)] at q
    exact hs _ i ys vs _ H' (by omega) T q _ (fun y vs' H' k T' => ⟨hlt, _, _, T', k⟩) fun vs' H' k T' => ⟨hlt, _, _, T', k⟩
  · have e : i = (hi - lo).toNat := by omega
    refine .inl ⟨by rw [e]; exact Nat.le_refl _, ?_⟩
    have q' : KM ys := by
      rw [List.drop_of_length_le (by rw [rangeI_len]; omega)] at q
      exact q
    obtain ⟨w', k', r'⟩ := T.done w nl
    exact hd ys H q' w' k' r'
variable {x : V} {H : Hp}
theorem rep_minL {ns : List Int} {P : List Int → Prop} (h : rep ms H (.lst (ns.map fun n => D.v (.int n))) x) (ne : 0 < ns.length) (q : P ns) :
    ∃ (a : Addr) (ns : List Int), [x] = [V.ref a] ∧ SqL K H a (ns.map V.int) ∧ 0 < ns.length ∧ P ns := by
  simp only [rep] at h
  obtain ⟨p, vs, e, _, hp, hr⟩ := h
  have ev := repL_ints hr
  subst ev e
  exact ⟨p, ns, rfl, .inl (.inl hp), ne, q⟩
end
/-! repr and str of own instances, by the class's own def -/
def rOwnText (C : Addr) (sp : Sp) (E : XK) : List V → Hp → VK → Prop := fun xs H Q => ∃ (x : V) (a dx : Addr) (fs : List (Str × V)), xs = [x] ∧ x = .ref a ∧ H a = some (.ins C dx fs) ∧ sp [x] H (fun v H' => ∃ z : Str, v = .str z ∧ Q v H') E
structure OwnText (K : PySem.W.Frag) (C : Addr) (name : Str) (f : Addr) : Prop where
  hs : PySem.W.findIn K (.ref C) name = some (some (.ref f))
  hf : PySem.W.isFn K (.ref f) = true
section
variable {X : Cx} {n : Nat} {CX : CXT} {C f : Addr} {fd : FuncData} {ps : List Str} {sp : Sp} {E : XK}
theorem ownText_run (F : FnOk X.prog X.w X.K X.mg X.base CX n f fd ps sp) {A : Around} (hr : Room n A) (hb : Binds X.K fd ps []) (hx : Passes CX X E) {pins : List (Addr × Obj)} {σ : L2.St} {H : Hp} {s : Shared} {a : Addr} {Q : VK} (I : Inv X pins σ H s)
    (en : Env0 X.prog X.w X.K X.mg X.base A X.stack s H) (h : sp [.ref a] H (fun v H' => ∃ z : Str, v = .str z ∧ Q v H') E) : wpAny (model X.prog X.w) A (call (.ref f) [.ref a]) (PySem.W.StrBack (EP X pins σ Q)) X.xe s := by
  have hl := F.len _ _ _ _ h
  have bt := hb s [.ref a] I.kIn (by rw [List.append_nil]; exact hl)
  rw [List.append_nil] at bt
  refine wpAny_call (codeAny_mono (F.run A X.stack s H ⟨[.ref a], []⟩ [.ref a] [.ref a] _ E hr en bt (.cons rfl .nil) h) fun out s' hq => ?_)
  rcases out with err | fl
  · exact hx pins σ H s err s' I hq
  · rcases fl with _ | _ | _ | u
    · exact hq.elim
    · exact hq.elim
    · exact hq.elim
    · obtain ⟨v, H', I', rv, z, ez, q⟩ := I.after hq
      subst ez
      obtain ⟨t, rfl⟩ := rv
      exact ⟨.str z, H', I', ⟨t, rfl⟩, q⟩
theorem call_reprOwn (F : FnOk X.prog X.w X.K X.mg X.base CX n f fd ps sp) (hr : Room (n + 1) X.A) (o : OwnText X.K C "__repr__" f) (hb : Binds X.K fd ps []) (hx : Passes CX X E) : CallR X (.builtin "repr") (rOwnText C sp E) := by
  intro pins s σ H xs us Q I r h
  obtain ⟨x, a, dx, fs, rfl, rfl, ha, hsp⟩ := h
  obtain ⟨u, rfl, ru⟩ := r.one
  cases ru
  obtain ⟨mA, J, _⟩ := ins_get I.hok ha
  obtain ⟨od, J, _⟩ := J.look
  obtain ⟨m, hF⟩ := I.fr
  exact PySem.W.repr_K hr.in1.units0 hF I.ok.mod.kin J o.hs o.hf (ownText_run F hr.in1 hb hx I I.env0.in1 hsp)
theorem call_strOwn (F : FnOk X.prog X.w X.K X.mg X.base CX n f fd ps sp) (hr : Room (n + 2) X.A) (o : OwnText X.K C "__str__" f) (hb : Binds X.K fd ps []) (hx : Passes CX X E) : CallR X (.type "str") (rOwnText C sp E) := by
  intro pins s σ H xs us Q I r h
  obtain ⟨x, a, dx, fs, rfl, rfl, ha, hsp⟩ := h
  obtain ⟨u, rfl, ru⟩ := r.one
  cases ru
  obtain ⟨mA, J, _⟩ := ins_get I.hok ha
  obtain ⟨od, J, _⟩ := J.look
  exact PySem.W.kso_call hr.in1.in1.units0 I.kIn J o.hs o.hf (ownText_run F hr.in1.in1 hb hx I I.env0.in1.in1 hsp)
end
theorem rep_ownText {ms : List Addr} {H : Hp} {C : Addr} {ns : List Str} {ds : List D} {u : V} {P : V → Prop} (h : rep ms H (.ins C ns ds) u) (k : P u) :
    ∃ (x : V) (a dx : Addr) (fs : List (Str × V)), [u] = [x] ∧ x = .ref a ∧ H a = some (.ins C dx fs) ∧ P x := by
  obtain ⟨p, dx, fs, e, hp⟩ := rep_ins h
  exact ⟨u, p, dx, fs, rfl, e, hp, k⟩
/-! results that may be None -/
def encO {α : Type} (e : α → D) : Option α → D
  | none => .v .non
  | some y => e y
theorem rep_isN {α : Type} {e : α → D} {ms : List Addr} {H : Hp} {m : Option α} {u : V} (he : ∀ y, ∃ ds, e y = .tup ds) (h : rep ms H (encO e m) u) : decide (u = .non) = m.isNone := by
  cases m with
  | none =>
    rw [of_v h]
    rfl
  | some y =>
    obtain ⟨ds, ed⟩ := he y
    have h' : rep ms H (e y) u := h
    rw [ed] at h'
    simp only [rep] at h'
    obtain ⟨p, _, e1, _⟩ := h'
    rw [e1]
    rfl
theorem rep_isSome {α : Type} {e : α → D} {ms : List Addr} {H : Hp} {m : Option α} {u : V} (he : ∀ y, ∃ ds, e y = .tup ds) (h : rep ms H (encO e m) u) : (!decide (u = .non)) = m.isSome := by
  rw [rep_isN he h]
  cases m <;> rfl
theorem rep_some {α : Type} {e : α → D} {ms : List Addr} {H : Hp} {m : Option α} {u : V} {y : α} (hy : m = some y) (h : rep ms H (encO e m) u) : rep ms H (e y) u := by
  subst hy
  exact h
/-! a def called by keywords alone -/
def tCallKw (n : Nat) (gV : List V → List V → List V) (sp : Sp) (E : XK) (tk : TA) : TE := fun σ H Q => tk σ H fun zs H1 => zs.length = n ∧ sp (gV [] zs) H1 Q E
theorem pe_callKw {X : Cx} {CX : CXT} {k : Nat} {f : Addr} {fd : FuncData} {ps ks : List Str} {sp : Sp} {E : XK} {x : Str} {p pos : Pos} {kws : List Keyword} {tk : TA} {g : List Value → List Value → List Value} {gV : List V → List V → List V}
    (F : FnOk X.prog X.w X.K X.mg X.base CX k f fd ps sp) (hr : Room k X.A) (hg : Gl X x) (hm : X.mg x = some (.ref f)) (hk : PySem.W.keepIn X.K (.ref f) = true) (hb : KBn X.K fd ps 0 ks g gV) (hx : Passes CX X E) (hkw : PK X kws tk)
    (hall : (backToKw pos (keywordEach kws X.env)).all (·.1.isSome) = true := by rfl) (hks : (backToKw pos (keywordEach kws X.env)).filterMap (·.1) = ks := by rfl) (hdb : (x == ("__debug__" : Str)) = false := by decide)
    (hpl : ((backTo pos (starEach [] X.env)).any (·.1) || (backToKw pos (keywordEach kws X.env)).any (·.1.isNone)) = false := by rfl) : PE X (.Call (.Name x p) [] kws pos) (tCallKw ks.length gV sp E tk) :=
  ⟨fun pins s σ H Q I h => wpAny_Call_Name_kw (ld_glob I hg hm (PySem.W.callWith_KW0 (first := []) (h₀ := X.base) I.ok.mod.kin hk hall (thn (hkw.run pos pins s σ H _ I h) fun ws s2 ⟨zs, H2, I2, rz, l2, q2⟩ => ⟨I2.kIn, by
    rw [hks]
    exact run_fnN (us := []) (vs := []) F hr hb hx I2 .nil rz rfl l2 q2⟩) hpl) hdb)⟩
end Rx
namespace Rx
open PySem PySem.Spec PyProof.Rows L2
section
variable {K : PySem.W.Frag} {ms : List Addr} {ps : List PEn} {cs : List (Addr × List V)} {H0 H H1 H' : Hp} {x : V} {ds : List D}
theorem wd_none {p : Addr} (w : Wd ms ps cs H0 H) (np : H p = none) : H0 p = none := by
  cases q : H0 p with
  | none => rfl
  | some o => exact absurd np (w.grow p (by rw [q]; exact fun z => nomatch z))
def rLstOf (K : PySem.W.Frag) : List V → Hp → VK → Prop := fun xs H Q => ∃ p ys, xs = [.ref p] ∧ (SqL K H p ys ∨ SqT K H p ys) ∧ ∀ l, H l = none → Q (.ref l) (upd H l (.lst ys))
theorem rep_listT {P : List V → Prop} (h : rep ms H (.tup ds) x) (k : ∀ ys, repL ms H ds ys → P ys) :
    ∃ p ys, [x] = [.ref p] ∧ (SqL K H p ys ∨ SqT K H p ys) ∧ P ys := by
  simp only [rep] at h
  obtain ⟨p, vs, rfl, _, hp, hr⟩ := h
  exact ⟨p, vs, rfl, .inr (.inl (.inl hp)), k vs hr⟩
theorem rep_listL {P : List V → Prop} (h : rep ms H (.lst ds) x) (k : ∀ ys, repL ms H ds ys → P ys) :
    ∃ p ys, [x] = [.ref p] ∧ (SqL K H p ys ∨ SqT K H p ys) ∧ P ys := by
  simp only [rep] at h
  obtain ⟨p, vs, rfl, _, hp, hr⟩ := h
  exact ⟨p, vs, rfl, .inl (.inl (.inl hp)), k vs hr⟩
mutual
theorem rep_noL {L : Addr} {vs vs' : List V} (hL : H L = some (.lst vs)) : ∀ (d : D) (u : V), noL d = true → rep ms H d u → rep ms (upd H L (.lst vs')) d u
  | .v x, u, _, h => by
    simp only [rep] at h ⊢
    exact h
  | .lst ds, u, n, h => by
    simp only [noL] at n
    cases n
  | .tup ds, u, n, h => by
    simp only [noL] at n
    simp only [rep] at h ⊢
    obtain ⟨p, us, e, np, hp, hl⟩ := h
    refine ⟨p, us, e, np, ?_, repL_noL hL ds us n hl⟩
    rw [upd_ne (fun z => by rw [z, hL] at hp; cases hp)]
    exact hp
  | .ins C ns ds, u, n, h => by
    simp only [noL] at n
    simp only [rep] at h ⊢
    obtain ⟨p, dx, us, e, np, hp, hn, hl⟩ := h
    refine ⟨p, dx, us, e, np, ?_, hn, repL_noL hL ds us n hl⟩
    rw [upd_ne (fun z => by rw [z, hL] at hp; cases hp)]
    exact hp
  | .dct ks ds, u, n, h => by
    simp only [noL] at n
    simp only [rep] at h ⊢
    obtain ⟨p, us, e, np, hp, hn, hl⟩ := h
    refine ⟨p, us, e, np, ?_, hn, repL_noL hL ds us n hl⟩
    rw [upd_ne (fun z => by rw [z, hL] at hp; cases hp)]
    exact hp
  | .dcT ks ds, u, n, h => by
    simp only [noL] at n
    simp only [rep] at h ⊢
    obtain ⟨p, us, e, np, hp, hn, hl⟩ := h
    refine ⟨p, us, e, np, ?_, hn, repL_noL hL ds us n hl⟩
    rw [upd_ne (fun z => by rw [z, hL] at hp; cases hp)]
    exact hp
theorem repL_noL {L : Addr} {vs vs' : List V} (hL : H L = some (.lst vs)) : ∀ (ds : List D) (us : List V), noLs ds = true → repL ms H ds us → repL ms (upd H L (.lst vs')) ds us
  | [], us, _, h => by
    simp only [repL] at h ⊢
    exact h
  | d :: ds, us, n, h => by
    simp only [noLs, Bool.and_eq_true] at n
    simp only [repL] at h ⊢
    obtain ⟨u, ws, e, h1, h2⟩ := h
    exact ⟨u, ws, e, rep_noL hL d u n.1 h1, repL_noL hL ds ws n.2 h2⟩
end
theorem noLs_map {α : Type} {e : α → D} (hn : ∀ x, noL (e x) = true) : ∀ xs : List α, noLs (xs.map e) = true
  | [] => rfl
  | x :: xs => by
    show (noL (e x) && noLs (xs.map e)) = true
    rw [hn x, noLs_map hn xs]
    rfl
theorem repL_set {α : Type} {e : α → D} {y : α} {v : V} : ∀ {xs : List α} {vs : List V} (j : Nat), repL ms H (xs.map e) vs → rep ms H (e y) v → repL ms H ((xs.set j y).map e) (vs.set j v)
  | [], vs, j, h, r => by
    have ev : vs = [] := by
      simp only [List.map_nil, repL] at h
      exact h
    subst ev
    simpa using h
  | x :: xs, vs, 0, h, r => by
    simp only [List.map_cons, repL] at h
    obtain ⟨u, us, rfl, h1, h2⟩ := h
    exact repL_cons r h2
  | x :: xs, vs, j + 1, h, r => by
    simp only [List.map_cons, repL] at h
    obtain ⟨u, us, rfl, h1, h2⟩ := h
    exact repL_cons h1 (repL_set j h2 r)
/-- L, a list of this def's own, may be told anew -/
theorem wd_own {L : Addr} {vs vs' : List V} (w : Wd ms ps cs H0 H) (nm : L ∉ ms) (hL : H L = some (.lst vs)) (o : H0 L = none) : Wd ms ps cs H0 (upd H L (.lst vs')) := by
  refine ⟨fun a o' n h => ?_, fun a h => ?_, fun m h => ?_, fun a h => ?_, w.pm, fun c h => ?_⟩
  · rw [upd_ne (ne_of_none h o)]
    exact w.kp a o' n h
  · by_cases e : a = L
    · rw [e, upd_same]
      exact fun z => nomatch z
    · rw [upd_ne e]
      exact w.grow a h
  · rw [upd_ne (fun z => nm (by rw [← z]; exact h))]
    exact w.tr m h
  · refine ent_stay (w.pot a h) (fun o ho => by rw [upd_ne (fun z => nm (by rw [← z]; exact w.pm _ (mem_ad h)))]; exact ho) fun c q hc => ?_
    rw [upd_ne (fun z => by rw [z, hL] at hc; cases hc)]
    exact hc
  · obtain ⟨h1, h3, h4, h5⟩ := w.cel c h
    exact ⟨by rw [upd_ne (fun z => nm (by rw [← z]; exact h3))]; exact h1, h3, h4, h5⟩
theorem rep_setL {α : Type} {e : α → D} {xs : List α} {y : α} {k : Int} {v : V} {L : Addr} {Q : Hp → Prop} (w : Wd ms ps cs H0 H) (h : rep ms H (.lst (xs.map e)) (.ref L)) (o : H0 L = none) (hn : ∀ x, noL (e x) = true)
    (h0 : 0 ≤ k) (hj : k.toNat < xs.length) (r : rep ms H (e y) v)
    (kk : ∀ H', Wd ms ps cs H0 H' → rep ms H' (.lst ((xs.set k.toNat y).map e)) (.ref L) → (∀ d u, noL d = true → rep ms H d u → rep ms H' d u) → Q H') : rSetL (.ref L) (.int k) v H Q := by
  simp only [rep] at h
  obtain ⟨p, vs, e1, np, hp, hr⟩ := h
  cases e1
  have hl := repL_len hr
  rw [List.length_map] at hl
  refine ⟨L, vs, k, k.toNat, rfl, rfl, hp, ?_, kk _ (wd_own w np hp o) ?_ fun d u n h => rep_noL hp d u n h⟩
  · unfold ixN
    rw [if_pos h0, if_pos (by omega)]
  · simp only [rep]
    exact ⟨L, _, rfl, np, upd_same, repL_set _ (repL_noL hp _ _ (noLs_map hn xs) hr) (rep_noL hp _ _ (hn y) r)⟩
end

/-! rules whose reading names the frame itself (within a comprehension its context is not known to the reading) -/
section
variable {X : Cx} {K : PySem.W.Frag}
theorem ix_listK (hK : X.K = K) : IxR X (rIxL K) := by
  subst hK
  exact ix_list
theorem ix_tupK (hK : X.K = K) : IxR X (rIxT K) := by
  subst hK
  exact ix_tup
end
end Rx
namespace Rx
open PySem PySem.Spec PyProof.Rows L2
section
variable {K : PySem.W.Frag} {ms ms' : List Addr} {ps : List PEn} {H0 H H' H1 : Hp} {L L' : Addr} {d d' : D} {ds : List D} {u x : V} {vs : List V}
/-- what stands at L -/
def valO (ms : List Addr) (H : Hp) (L : Addr) : D → Prop
  | .lst ds => ∃ vs, H L = some (.lst vs) ∧ repL ms H ds vs
  | .dct ks ds => ∃ vs, H L = some (.dK (ks.zip vs)) ∧ ks.length = vs.length ∧ repL ms H ds vs
  | .dcT ks ds => ∃ vs, H L = some (.dT (ks.zip vs)) ∧ ks.length = vs.length ∧ repL ms H ds vs
  | _ => False
theorem valO_map (f : ∀ p o, p ∉ ms → H p = some o → p ∉ ms' ∧ H' p = some o) (g : ∀ o, H L = some o → H' L = some o) : ∀ d : D, valO ms H L d → valO ms' H' L d
  | .lst ds, ⟨vs, h1, h2⟩ => ⟨vs, g _ h1, repL_map f ds vs h2⟩
  | .dct ks ds, ⟨vs, h1, h2, h3⟩ => ⟨vs, g _ h1, h2, repL_map f ds vs h3⟩
  | .dcT ks ds, ⟨vs, h1, h2, h3⟩ => ⟨vs, g _ h1, h2, repL_map f ds vs h3⟩
  | .v _, h => h
  | .tup _, h => h
  | .ins _ _ _, h => h
structure MutO (ms : List Addr) (ps : List PEn) (H0 H : Hp) (L : Addr) (d : D) : Prop where
  im : L ∈ ms
  hp : L ∉ ad ps
  h0 : H0 L = none
  val : valO ms H L d
theorem MutO.some (m : MutO ms ps H0 H L d) : ∃ o, H L = some o := by
  have h := m.val
  cases d with
  | lst ds => exact ⟨_, h.choose_spec.1⟩
  | dct ks ds => exact ⟨_, h.choose_spec.1⟩
  | dcT ks ds => exact ⟨_, h.choose_spec.1⟩
  | v _ => exact h.elim
  | tup _ => exact h.elim
  | ins _ _ _ => exact h.elim
theorem mo_ret (w : Wd ms ps [] H0 H) (e : Ret ps H H') (m : MutO ms ps H0 H L d) : MutO ms ps H0 H' L d :=
  ⟨m.im, m.hp, m.h0, valO_map (fun p o n hp => ⟨n, e.kp p o (fun z => n (w.pm p z)) hp⟩) (fun o h => e.kp L o m.hp h) d m.val⟩
theorem mo_ext (e : Ret [] H H') (m : MutO ms ps H0 H L d) : MutO ms ps H0 H' L d :=
  ⟨m.im, m.hp, m.h0, valO_map (fun p o n hp => ⟨n, e.kp p o (by simp) hp⟩) (fun o h => e.kp L o (by simp) h) d m.val⟩
theorem mo_ne (nl : H L = none) (m : MutO ms ps H0 H L' d) : L' ≠ L := fun z => by
  obtain ⟨o, h⟩ := m.some
  rw [z, nl] at h
  cases h
theorem mo_cell {o : HO} (nl : H L = none) (m : MutO ms ps H0 H L' d) : MutO (L :: ms) ps H0 (upd H L o) L' d :=
  ⟨List.mem_cons_of_mem _ m.im, m.hp, m.h0, valO_map (fun p o n hp => ⟨fun z => by
    rcases List.mem_cons.mp z with z | z
    · exact ne_of_none hp nl z
    · exact n z, by rw [upd_ne (ne_of_none hp nl)]; exact hp⟩) (fun o h => by rw [upd_ne (mo_ne nl m)]; exact h) d m.val⟩
theorem mo_put {o : HO} (lm : L ∈ ms) (ne : L' ≠ L) (m : MutO ms ps H0 H L' d) : MutO ms ps H0 (upd H L o) L' d :=
  ⟨m.im, m.hp, m.h0, valO_map (fun p o n hp => ⟨n, by rw [upd_ne (fun z => n (by rw [z]; exact lm))]; exact hp⟩) (fun o h => by rw [upd_ne ne]; exact h) d m.val⟩
theorem mo_sub (s : ∀ a ∈ ms', a ∈ ms) (i : L ∈ ms') (m : MutO ms ps H0 H L d) : MutO ms' ps H0 H L d :=
  ⟨i, m.hp, m.h0, valO_map (fun p o n hp => ⟨fun z => n (s p z), hp⟩) (fun o h => h) d m.val⟩
theorem rep_sub (s : ∀ a ∈ ms', a ∈ ms) (h : rep ms H d u) : rep ms' H d u := rep_map (fun p o n hp => ⟨fun z => n (s p z), hp⟩) d u h
theorem wd_sub (s : ∀ a ∈ ms', a ∈ ms) (hp : ∀ a ∈ ad ps, a ∈ ms') (w : Wd ms ps [] H0 H) : Wd ms' ps [] H0 H :=
  ⟨w.kp, w.grow, fun m h => w.tr m (s m h), w.pot, hp, fun _ h => absurd h List.not_mem_nil⟩
theorem keep_sub (h : ∀ a ∈ ms, a ∈ ms' ∨ H1 a = none) (k : Keep ms H1 H) : Keep ms' H1 H := fun a o n e => k a o (fun z => by
  rcases h a z with z | z
  · exact n z
  · rw [z] at e
    cases e) e
theorem mo_rep (n : L ∉ ms') (s : ∀ a ∈ ms', a ∈ ms) (m : MutO ms ps H0 H L d) : rep ms' H d (.ref L) := by
  have h := m.val
  cases d with
  | lst ds =>
    obtain ⟨vs, h1, h2⟩ := h
    simp only [rep]
    exact ⟨L, vs, rfl, n, h1, repL_map (fun p o n hp => ⟨fun z => n (s p z), hp⟩) ds vs h2⟩
  | dct ks ds =>
    obtain ⟨vs, h1, h2, h3⟩ := h
    simp only [rep]
    exact ⟨L, vs, rfl, n, h1, h2, repL_map (fun p o n hp => ⟨fun z => n (s p z), hp⟩) ds vs h3⟩
  | dcT ks ds =>
    obtain ⟨vs, h1, h2, h3⟩ := h
    simp only [rep]
    exact ⟨L, vs, rfl, n, h1, h2, repL_map (fun p o n hp => ⟨fun z => n (s p z), hp⟩) ds vs h3⟩
  | v _ => exact h.elim
  | tup _ => exact h.elim
  | ins _ _ _ => exact h.elim
/-- a new thing of one's own -/
theorem wd_cell {o : HO} (w : Wd ms ps [] H0 H) (nl : H L = none) : Wd (L :: ms) ps [] H0 (upd H L o) := by
  have w1 := w.ret0 (Ext.new (o := o) nl)
  refine ⟨w1.kp, w1.grow, fun m h => ?_, w1.pot, fun a h => List.mem_cons_of_mem _ (w.pm a h), fun _ h => absurd h List.not_mem_nil⟩
  rcases List.mem_cons.mp h with rfl | h
  · rw [upd_same]
    exact fun z => nomatch z
  · exact w1.tr m h
theorem pot_new (w : Wd ms ps [] H0 H) (nl : H L = none) : L ∉ ad ps := fun z => by
  obtain ⟨p, hp, e2⟩ := List.mem_map.mp z
  exact ent_some (w.pot p hp) (by rw [e2]; exact nl)
theorem nm_new (w : Wd ms ps [] H0 H) (nl : H L = none) : L ∉ ms := fun z => w.tr L z nl
theorem mo_newL (w : Wd ms ps [] H0 H) (nl : H L = none) (r : repL ms H ds vs) : MutO (L :: ms) ps H0 (upd H L (.lst vs)) L (.lst ds) :=
  ⟨List.mem_cons_self, pot_new w nl, wd_none w nl, vs, upd_same, repL_map (fun p o n hp => ⟨fun z => by
    rcases List.mem_cons.mp z with z | z
    · exact ne_of_none hp nl z
    · exact n z, by rw [upd_ne (ne_of_none hp nl)]; exact hp⟩) _ _ r⟩
theorem mo_newD {ks : List Key} (w : Wd ms ps [] H0 H) (nl : H L = none) (hl : ks.length = vs.length) (r : repL ms H ds vs) : MutO (L :: ms) ps H0 (upd H L (.dK (ks.zip vs))) L (.dct ks ds) :=
  ⟨List.mem_cons_self, pot_new w nl, wd_none w nl, vs, upd_same, hl, repL_map (fun p o n hp => ⟨fun z => by
    rcases List.mem_cons.mp z with z | z
    · exact ne_of_none hp nl z
    · exact n z, by rw [upd_ne (ne_of_none hp nl)]; exact hp⟩) _ _ r⟩
theorem mo_nc {c : Addr} {q : Str} (m : MutO ms ps H0 H L d) (h : H L = some (LamX.CodeO c q)) : False := by
  have v := m.val
  cases d with
  | lst ds =>
    obtain ⟨vs, e, _⟩ := v
    rw [h] at e
    cases e
  | dct ks ds =>
    obtain ⟨vs, e, _⟩ := v
    rw [h] at e
    cases e
  | dcT ks ds =>
    obtain ⟨vs, e, _⟩ := v
    rw [h] at e
    cases e
  | v _ => exact v
  | tup _ => exact v
  | ins _ _ _ => exact v
/-- told anew -/
theorem wd_put {o : HO} (w : Wd ms ps [] H0 H) (m : MutO ms ps H0 H L d) : Wd ms ps [] H0 (upd H L o) := by
  refine ⟨fun a o' n h => ?_, fun a h => ?_, fun a h => ?_, fun a h => ?_, w.pm, fun _ h => absurd h List.not_mem_nil⟩
  · rw [upd_ne (ne_of_none h m.h0)]
    exact w.kp a o' n h
  · by_cases e : a = L
    · rw [e, upd_same]
      exact fun z => nomatch z
    · rw [upd_ne e]
      exact w.grow a h
  · by_cases e : a = L
    · rw [e, upd_same]
      exact fun z => nomatch z
    · rw [upd_ne e]
      exact w.tr a h
  · refine ent_stay (w.pot a h) (fun o ho => by rw [upd_ne (fun z => m.hp (by rw [← z]; exact mem_ad h))]; exact ho) fun c q hc => ?_
    rw [upd_ne (fun z => mo_nc m (by rw [← z]; exact hc))]
    exact hc
theorem mo_setL (m : MutO ms ps H0 H L d) (r : repL ms H ds vs) : MutO ms ps H0 (upd H L (.lst vs)) L (.lst ds) :=
  ⟨m.im, m.hp, m.h0, vs, upd_same, repL_put m.im r⟩
theorem mo_appU {P : Addr → List V → V → Prop} (m : MutO ms ps H0 H L (.lst ds)) (hl : ds.length < 16777216) (k : ∀ vs, repL ms H ds vs → P L vs u) :
    ∃ (l : Addr) (xs : List V) (y : V), V.ref L = .ref l ∧ [u] = [y] ∧ H l = some (.lst xs) ∧ xs.length < sizeLine ∧ P l xs y := by
  obtain ⟨vs, h1, h2⟩ := m.val
  refine ⟨L, vs, u, rfl, rfl, h1, ?_, k vs h2⟩
  rw [← repL_len h2, sizeLine_eq]
  exact hl
theorem mo_tyL (m : MutO ms ps H0 H L (.lst ds)) : tyV K "list" (.ref L) H := by
  obtain ⟨vs, h1, h2⟩ := m.val
  exact .inl ⟨rfl, vs, .inl (.inl h1)⟩
theorem mo_setU {α : Type} {e : α → D} {xs : List α} {k : Int} {v : V} {Q : Hp → Prop} (m : MutO ms ps H0 H L (.lst (xs.map e))) (h0 : 0 ≤ k) (hj : k.toNat < xs.length)
    (kk : ∀ vs, repL ms H (xs.map e) vs → Q (upd H L (.lst (vs.set k.toNat v)))) : rSetL (.ref L) (.int k) v H Q := by
  obtain ⟨vs, h1, h2⟩ := m.val
  have hl := repL_len h2
  rw [List.length_map] at hl
  refine ⟨L, vs, k, k.toNat, rfl, rfl, h1, ?_, kk vs h2⟩
  unfold ixN
  rw [if_pos h0, if_pos (by omega)]
/-- a list of one's own, as the comprehension's end wants it -/
theorem mo_end {n : Nat} {Nx : Hp → Prop} (m : MutO ms ps H0 H L (.lst ds)) (hn : n < 100000) (hy : ds.length ≤ n) (h : ∀ vs, repL ms H ds vs → Nx (upd H L (.lst (vs ++ [u])))) :
    ∃ acc, H L = some (.lst acc) ∧ acc.length < sizeLine ∧ Nx (upd H L (.lst (acc ++ [u]))) := by
  obtain ⟨vs, h1, h2⟩ := m.val
  refine ⟨vs, h1, ?_, h vs h2⟩
  have q := repL_len h2
  have e : sizeLine = 16777216 := sizeLine_eq
  omega
theorem repL_snoc {α : Type} {e : α → D} {xs : List α} {y : α} (r : repL ms H (xs.map e) vs) (h : rep ms H (e y) u) : repL ms H ((xs ++ [y]).map e) (vs ++ [u]) := by
  rw [List.map_append]
  exact repL_app r (repL_one h)
theorem repL_cat {α : Type} {e : α → D} {xs ys : List α} {us : List V} (r : repL ms H (xs.map e) vs) (h : repL ms H (ys.map e) us) : repL ms H ((xs ++ ys).map e) (vs ++ us) := by
  rw [List.map_append]
  exact repL_app r h
end

/-! loops by any invariant -/
section
variable {α S : Type} {K : PySem.W.Frag} {H1 : Hp} {g : TG} {tb : TS} {D' : Ends} {σ : L2.St}
theorem for_rangeG {lo hi : Int} {N : Nat} {body : Int → S → (S → Prop) → Prop} {KM : S → Prop} (SI : S → L2.St → Hp → Prop) (s0 : S) (hN : N = (hi - lo).toNat) (hM : forC body (rangeI lo hi) s0 KM) (h0 : SI s0 σ H1)
    (hs : ∀ (x : Int) (s : S) (k : S → Prop) (σ : L2.St) (H : Hp), SI s σ H → body x s k → ∀ Nx : L2.St → Hp → Prop, (∀ s' σ' H', k s' → SI s' σ' H' → Nx σ' H') →
      g (.int x) σ H fun σ2 H2 => tb { D' with nx := Nx, ct := Nx, bk := D'.nx } σ2 H2)
    (hd : ∀ s σ H, KM s → SI s σ H → D'.nx σ H) :
    ∃ W : Nat → Nat → L2.St → Hp → Prop, (∃ m, W 0 m σ H1) ∧ ∀ i m σ H, W i m σ H →
      ((Itr lo N).stop i H ∧ D'.nx σ H) ∨ ((Itr lo N).go i H ∧ ∃ Nx : L2.St → Hp → Prop, (∀ σ' H', Nx σ' H' → ∃ m', m' < m ∧ W (i + 1) m' σ' H') ∧ ∀ x H', (Itr lo N).yld i H x H' → g x σ H' fun σ2 H2 => tb { D' with nx := Nx, ct := Nx, bk := D'.nx } σ2 H2) := by
  subst hN
  refine for_range (lo := lo) (n := (hi - lo).toNat) (D := D') (fun i σ H => ∃ s, SI s σ H ∧ forC body ((rangeI lo hi).drop i) s KM) ⟨s0, h0, hM⟩ (fun i σ H hi' ⟨s, si, q⟩ => ?_) (fun σ H ⟨s, si, q⟩ => ?_)
  · rw [drop_cons' (rangeI_get hi')] at q
    exact hs _ s _ σ H si q _ fun s' σ' H' hk si2 => ⟨s', si2, hk⟩
  · rw [List.drop_of_length_le (by rw [rangeI_len]; exact Nat.le_refl _)] at q
    exact hd s σ H q si
theorem for_listG {items : List α} {e : α → D} {ms : List Addr} {a : Addr} {xs : List V} {body : α → S → (S → Prop) → Prop} {KM : S → Prop} (SI : S → L2.St → Hp → Prop) (s0 : S) (an : a ∉ ms) (ha : H1 a = some (.lst xs)) (hx : repL ms H1 (items.map e) xs)
    (kp : ∀ s σ H, SI s σ H → Keep ms H1 H) (hM : forC body items s0 KM) (h0 : SI s0 σ H1)
    (hs : ∀ (x : α) (u : V) (s : S) (k : S → Prop) (σ : L2.St) (H : Hp), SI s σ H → rep ms H (e x) u → body x s k → ∀ Nx : L2.St → Hp → Prop, (∀ s' σ' H', k s' → SI s' σ' H' → Nx σ' H') →
      g u σ H fun σ2 H2 => tb { D' with nx := Nx, ct := Nx, bk := D'.nx } σ2 H2)
    (hd : ∀ s σ H, KM s → SI s σ H → D'.nx σ H) :
    ∃ W : Nat → Nat → L2.St → Hp → Prop, (∃ m, W 0 m σ H1) ∧ ∀ i m σ H, W i m σ H →
      ((Itl K a).stop i H ∧ D'.nx σ H) ∨ ((Itl K a).go i H ∧ ∃ Nx : L2.St → Hp → Prop, (∀ σ' H', Nx σ' H' → ∃ m', m' < m ∧ W (i + 1) m' σ' H') ∧ ∀ x H', (Itl K a).yld i H x H' → g x σ H' fun σ2 H2 => tb { D' with nx := Nx, ct := Nx, bk := D'.nx } σ2 H2) := by
  have hl : items.length = xs.length := by
    have := repL_len hx
    rwa [List.length_map] at this
  refine for_list (xs := xs) (D := D') (fun i σ H => ∃ s, SI s σ H ∧ forC body (items.drop i) s KM) ⟨s0, h0, hM⟩ (fun i σ H _ ⟨s, si, _⟩ => .inl (.inl (kp s σ H si a _ an ha))) (fun i x σ H hx' ⟨s, si, q⟩ => ?_) (fun σ H ⟨s, si, q⟩ => ?_)
  · have hi : i < xs.length := (List.getElem?_eq_some_iff.mp hx').1
    have hit : items[i]? = some (items[i]'(by omega)) := List.getElem?_eq_getElem (by omega)
    rw [drop_cons' hit] at q
    obtain ⟨v, hv, rv⟩ := repL_get (repL_keep (kp s σ H si) hx) (j := i) (d := e (items[i]'(by omega))) (by rw [List.getElem?_map, hit]; rfl)
    rw [hx'] at hv
    have ev : x = v := Option.some.inj hv
    subst ev
    exact hs _ x s _ σ H si rv q _ fun s' σ' H' hk si2 => ⟨s', si2, hk⟩
  · rw [List.drop_of_length_le (by omega)] at q
    exact hd s σ H q si
theorem while_G {c : TT} {fuel : Nat} {body : S → (S → Prop) → (S → Prop) → Prop} {KM : S → Prop} (SI : S → L2.St → Hp → Prop) (s0 : S) (hM : whileC body fuel s0 KM) (h0 : SI s0 σ H1)
    (hs : ∀ (s : S) (k1 k2 : S → Prop) (σ : L2.St) (H : Hp), SI s σ H → body s k1 k2 → ∀ (Nx : L2.St → Hp → Prop) (Ex : L2.St → Hp → Prop), (∀ s' σ' H', k1 s' → SI s' σ' H' → Nx σ' H') → (∀ s' σ' H', k2 s' → SI s' σ' H' → Ex σ' H') →
      c σ H fun b H1 => if b = true then tb { D' with nx := Nx, ct := Nx, bk := D'.nx } σ H1 else Ex σ H1)
    (hd : ∀ s σ H, KM s → SI s σ H → D'.nx σ H)
    (mono : ∀ σ H Q Q', (∀ b H1, Q b H1 → Q' b H1) → c σ H Q → c σ H Q') : tWhile c tb D' σ H1 := by
  refine ⟨fun m σ H => ∃ s, SI s σ H ∧ whileC body m s KM, ⟨fuel, s0, h0, hM⟩, ?_⟩
  rintro m σ H ⟨s, si, q⟩
  cases m with
  | zero => exact False.elim q
  | succ m =>
    refine mono _ _ _ _ (fun b H2 hb => ?_) (hs s _ _ σ H si q (fun σ' H' => ∃ s, SI s σ' H' ∧ whileC body m s KM) D'.nx (fun s' σ' H' hk si2 => ⟨s', si2, hk⟩) fun s' σ' H' hk si2 => hd s' σ' H' hk si2)
    cases b with
    | true => exact ⟨_, fun σ' H' p => ⟨m, Nat.lt_succ_self m, p⟩, hb⟩
    | false => exact hb
end

/-! comprehensions by any invariant -/
section
variable {α β : Type} {K : PySem.W.Frag} {H1 H2 : Hp} {g : TG} {tt : TT} {te : TE} {vl : List Nat} {σ : L2.St} {Qd : Hp → Prop} {L : Addr}
/-- one turn -/
abbrev Turn (g : TG) (tt : TT) (te : TE) (vl : List Nat) (σ : L2.St) (L : Addr) (u : V) (H : Hp) (Nx : Hp → Prop) : Prop :=
  g u (wipe σ vl) H fun σ2 H2 => wipe σ2 vl = wipe σ vl ∧ tt σ2 H2 fun b H3 => if b = true then te σ2 H3 fun y H4 => ∃ acc, H4 L = some (.lst acc) ∧ acc.length < sizeLine ∧ Nx (upd H4 L (.lst (acc ++ [y]))) else Nx H3
theorem lc_rangeG {lo hi : Int} {N : Nat} {body : Int → (β → Prop) → Prop} {KM : List β → Prop} (SI : Nat → List β → Hp → Prop) (hN : N = (hi - lo).toNat) (hM : (rangeI lo hi).length < 100000 ∧ mapC body (rangeI lo hi) [] KM) (h0 : SI 0 [] (upd H1 L (.lst [])))
    (hs : ∀ (x : Int) (n : Nat) (ys : List β) (k : β → Prop) (H : Hp), n < 100000 → SI n ys H → body x k → ∀ Nx : Hp → Prop, (∀ y H', k y → SI (n + 1) (ys ++ [y]) H' → Nx H') → Turn g tt te vl σ L (.int x) H Nx)
    (hd : ∀ n ys H, KM ys → SI n ys H → Qd H) :
    ∃ W : Nat → Nat → Hp → Prop, (∃ m, W 0 m (upd H1 L (.lst []))) ∧ ∀ i m H, W i m H →
      ((Itr lo N).stop i H ∧ Qd H) ∨ ((Itr lo N).go i H ∧ ∃ Nx : Hp → Prop, (∀ H', Nx H' → ∃ m', m' < m ∧ W (i + 1) m' H') ∧ ∀ x H', (Itr lo N).yld i H x H' → g x (wipe σ vl) H' fun σ2 H2 => wipe σ2 vl = wipe σ vl ∧ tt σ2 H2 fun b H3 =>
        if b = true then te σ2 H3 fun y H4 => ∃ acc, H4 L = some (.lst acc) ∧ acc.length < sizeLine ∧ Nx (upd H4 L (.lst (acc ++ [y]))) else Nx H3) := by
  obtain ⟨hn, hM⟩ := hM
  subst hN
  rw [rangeI_len] at hn
  refine ⟨fun i m H => m = (hi - lo).toNat - i ∧ i ≤ (hi - lo).toNat ∧ ∃ ys, SI i ys H ∧ mapC body ((rangeI lo hi).drop i) ys KM, ⟨_, rfl, Nat.zero_le _, [], h0, hM⟩, ?_⟩
  rintro i m H ⟨rfl, hi', ys, T, q⟩
  by_cases hlt : i < (hi - lo).toNat
  · refine .inr ⟨hlt, fun H' => i + 1 ≤ (hi - lo).toNat ∧ ∃ ys, SI (i + 1) ys H' ∧ mapC body ((rangeI lo hi).drop (i + 1)) ys KM, fun H' p' => ⟨_, by omega, rfl, p'⟩, fun x H' y => ?_⟩
    obtain ⟨e, y⟩ := y
    subst e y
    rw [drop_cons' (rangeI_get hlt)] at q
    exact hs _ i ys _ H' (by omega) T q _ fun y H' k T' => ⟨hlt, _, T', k⟩
  · have e : i = (hi - lo).toNat := by omega
    refine .inl ⟨by rw [e]; exact Nat.le_refl _, ?_⟩
    rw [List.drop_of_length_le (by rw [rangeI_len]; omega)] at q
    exact hd _ ys H q T
theorem lf_rangeG {lo hi : Int} {N : Nat} {body : Int → (Option β → Prop) → Prop} {KM : List β → Prop} (SI : Nat → List β → Hp → Prop) (hN : N = (hi - lo).toNat) (hM : (rangeI lo hi).length < 100000 ∧ filC body (rangeI lo hi) [] KM) (h0 : SI 0 [] (upd H1 L (.lst [])))
    (hs : ∀ (x : Int) (n : Nat) (ys : List β) (k : Option β → Prop) (H : Hp), n < 100000 → SI n ys H → body x k → ∀ Nx : Hp → Prop, (∀ y H', k (some y) → SI (n + 1) (ys ++ [y]) H' → Nx H') → (∀ H', k none → SI (n + 1) ys H' → Nx H') → Turn g tt te vl σ L (.int x) H Nx)
    (hd : ∀ n ys H, KM ys → SI n ys H → Qd H) :
    ∃ W : Nat → Nat → Hp → Prop, (∃ m, W 0 m (upd H1 L (.lst []))) ∧ ∀ i m H, W i m H →
      ((Itr lo N).stop i H ∧ Qd H) ∨ ((Itr lo N).go i H ∧ ∃ Nx : Hp → Prop, (∀ H', Nx H' → ∃ m', m' < m ∧ W (i + 1) m' H') ∧ ∀ x H', (Itr lo N).yld i H x H' → g x (wipe σ vl) H' fun σ2 H2 => wipe σ2 vl = wipe σ vl ∧ tt σ2 H2 fun b H3 =>
        if b = true then te σ2 H3 fun y H4 => ∃ acc, H4 L = some (.lst acc) ∧ acc.length < sizeLine ∧ Nx (upd H4 L (.lst (acc ++ [y]))) else Nx H3) := by
  obtain ⟨hn, hM⟩ := hM
  subst hN
  rw [rangeI_len] at hn
  refine ⟨fun i m H => m = (hi - lo).toNat - i ∧ i ≤ (hi - lo).toNat ∧ ∃ ys, SI i ys H ∧ filC body ((rangeI lo hi).drop i) ys KM, ⟨_, rfl, Nat.zero_le _, [], h0, hM⟩, ?_⟩
  rintro i m H ⟨rfl, hi', ys, T, q⟩
  by_cases hlt : i < (hi - lo).toNat
  · refine .inr ⟨hlt, fun H' => i + 1 ≤ (hi - lo).toNat ∧ ∃ ys, SI (i + 1) ys H' ∧ filC body ((rangeI lo hi).drop (i + 1)) ys KM, fun H' p' => ⟨_, by omega, rfl, p'⟩, fun x H' y => ?_⟩
    obtain ⟨e, y⟩ := y
    subst e y
    rw [drop_cons' (rangeI_get hlt)] at q
    exact hs _ i ys _ H' (by omega) T q _ (fun y H' k T' => ⟨hlt, _, T', k⟩) fun H' k T' => ⟨hlt, _, T', k⟩
  · have e : i = (hi - lo).toNat := by omega
    refine .inl ⟨by rw [e]; exact Nat.le_refl _, ?_⟩
    rw [List.drop_of_length_le (by rw [rangeI_len]; omega)] at q
    exact hd _ ys H q T
theorem lc_strG {z : Str} {body : Str → (β → Prop) → Prop} {KM : List β → Prop} (SI : Nat → List β → Hp → Prop) (hM : (signs z).length < 100000 ∧ mapC body (signs z) [] KM) (h0 : SI 0 [] (upd H1 L (.lst [])))
    (hs : ∀ (x : Str) (n : Nat) (ys : List β) (k : β → Prop) (H : Hp), n < 100000 → SI n ys H → body x k → ∀ Nx : Hp → Prop, (∀ y H', k y → SI (n + 1) (ys ++ [y]) H' → Nx H') → Turn g tt te vl σ L (.str x) H Nx)
    (hd : ∀ n ys H, KM ys → SI n ys H → Qd H) :
    ∃ W : Nat → Nat → Hp → Prop, (∃ m, W 0 m (upd H1 L (.lst []))) ∧ ∀ i m H, W i m H →
      ((Its z).stop i H ∧ Qd H) ∨ ((Its z).go i H ∧ ∃ Nx : Hp → Prop, (∀ H', Nx H' → ∃ m', m' < m ∧ W (i + 1) m' H') ∧ ∀ x H', (Its z).yld i H x H' → g x (wipe σ vl) H' fun σ2 H2 => wipe σ2 vl = wipe σ vl ∧ tt σ2 H2 fun b H3 =>
        if b = true then te σ2 H3 fun y H4 => ∃ acc, H4 L = some (.lst acc) ∧ acc.length < sizeLine ∧ Nx (upd H4 L (.lst (acc ++ [y]))) else Nx H3) := by
  obtain ⟨hn, hM⟩ := hM
  rw [signs_len] at hn
  refine ⟨fun i m H => m = z.cps.size - i ∧ i ≤ z.cps.size ∧ ∃ ys, SI i ys H ∧ mapC body ((signs z).drop i) ys KM, ⟨_, rfl, Nat.zero_le _, [], h0, hM⟩, ?_⟩
  rintro i m H ⟨rfl, hi', ys, T, q⟩
  by_cases hlt : i < z.cps.size
  · refine .inr ⟨hlt, fun H' => i + 1 ≤ z.cps.size ∧ ∃ ys, SI (i + 1) ys H' ∧ mapC body ((signs z).drop (i + 1)) ys KM, fun H' p' => ⟨_, by omega, rfl, p'⟩, fun x H' y => ?_⟩
    obtain ⟨e, c, hc, y⟩ := y
    subst e y
    rw [drop_cons' (signs_get hc)] at q
    exact hs _ i ys _ H' (by omega) T q _ fun y H' k T' => ⟨hlt, _, T', k⟩
  · have e : i = z.cps.size := by omega
    refine .inl ⟨by rw [e]; exact Nat.le_refl _, ?_⟩
    rw [List.drop_of_length_le (by rw [signs_len]; omega)] at q
    exact hd _ ys H q T
/-- over a list; the items stand outside what changes -/
theorem lc_listG {items : List α} {e : α → D} {ms : List Addr} {a : Addr} {xs : List V} {body : α → (β → Prop) → Prop} {KM : List β → Prop} (SI : Nat → List β → Hp → Prop) (an : a ∉ ms) (ha : H1 a = some (.lst xs)) (hx : repL ms H1 (items.map e) xs) (nl : H1 L = none)
    (kp : ∀ n ys H, SI n ys H → Keep (L :: ms) H1 H) (hM : items.length < 100000 ∧ mapC body items [] KM) (h0 : SI 0 [] (upd H1 L (.lst [])))
    (hs : ∀ (x : α) (u : V) (n : Nat) (ys : List β) (k : β → Prop) (H : Hp), n < 100000 → SI n ys H → rep (L :: ms) H (e x) u → body x k → ∀ Nx : Hp → Prop, (∀ y H', k y → SI (n + 1) (ys ++ [y]) H' → Nx H') → Turn g tt te vl σ L u H Nx)
    (hd : ∀ n ys H, KM ys → SI n ys H → Qd H) :
    ∃ W : Nat → Nat → Hp → Prop, (∃ m, W 0 m (upd H1 L (.lst []))) ∧ ∀ i m H, W i m H →
      ((Itl K a).stop i H ∧ Qd H) ∨ ((Itl K a).go i H ∧ ∃ Nx : Hp → Prop, (∀ H', Nx H' → ∃ m', m' < m ∧ W (i + 1) m' H') ∧ ∀ x H', (Itl K a).yld i H x H' → g x (wipe σ vl) H' fun σ2 H2 => wipe σ2 vl = wipe σ vl ∧ tt σ2 H2 fun b H3 =>
        if b = true then te σ2 H3 fun y H4 => ∃ acc, H4 L = some (.lst acc) ∧ acc.length < sizeLine ∧ Nx (upd H4 L (.lst (acc ++ [y]))) else Nx H3) := by
  obtain ⟨hn, hM⟩ := hM
  have hl : items.length = xs.length := by
    have := repL_len hx
    rwa [List.length_map] at this
  have aM : a ∉ L :: ms := fun z => by
    rcases List.mem_cons.mp z with z | z
    · exact ne_of_none ha nl z
    · exact an z
  have hx1 : repL (L :: ms) H1 (items.map e) xs := repL_new nl hx
  refine ⟨fun i m H => m = xs.length - i ∧ i ≤ xs.length ∧ ∃ ys, SI i ys H ∧ mapC body (items.drop i) ys KM, ⟨_, rfl, Nat.zero_le _, [], h0, hM⟩, ?_⟩
  rintro i m H ⟨rfl, hi', ys, T, q⟩
  have hA : H a = some (.lst xs) := kp i ys H T a _ aM ha
  by_cases hlt : i < xs.length
  · refine .inr ⟨⟨xs, xs[i], .inl (.inl hA), by simp [hlt]⟩, fun H' => i + 1 ≤ xs.length ∧ ∃ ys, SI (i + 1) ys H' ∧ mapC body (items.drop (i + 1)) ys KM, fun H' p' => ⟨_, by omega, rfl, p'⟩, fun x H' y => ?_⟩
    obtain ⟨e1, y⟩ := y
    subst e1
    have hxi := y xs (.inl (.inl hA))
    have hit : items[i]? = some (items[i]'(by omega)) := List.getElem?_eq_getElem (by omega)
    rw [drop_cons' hit] at q
    obtain ⟨v, hv, rv⟩ := repL_get (repL_keep (kp i ys H' T) hx1) (j := i) (d := e (items[i]'(by omega))) (by rw [List.getElem?_map, hit]; rfl)
    rw [hxi] at hv
    have ev : x = v := Option.some.inj hv
    subst ev
    exact hs _ x i ys _ H' (by omega) T rv q _ fun y H'' k T' => ⟨hlt, _, T', k⟩
  · refine .inl ⟨⟨xs, .inl (.inl hA), by omega⟩, ?_⟩
    rw [List.drop_of_length_le (by omega)] at q
    exact hd _ ys H q T
theorem lf_listG {items : List α} {e : α → D} {ms : List Addr} {a : Addr} {xs : List V} {body : α → (Option β → Prop) → Prop} {KM : List β → Prop} (SI : Nat → List β → Hp → Prop) (an : a ∉ ms) (ha : H1 a = some (.lst xs)) (hx : repL ms H1 (items.map e) xs) (nl : H1 L = none)
    (kp : ∀ n ys H, SI n ys H → Keep (L :: ms) H1 H) (hM : items.length < 100000 ∧ filC body items [] KM) (h0 : SI 0 [] (upd H1 L (.lst [])))
    (hs : ∀ (x : α) (u : V) (n : Nat) (ys : List β) (k : Option β → Prop) (H : Hp), n < 100000 → SI n ys H → rep (L :: ms) H (e x) u → body x k → ∀ Nx : Hp → Prop, (∀ y H', k (some y) → SI (n + 1) (ys ++ [y]) H' → Nx H') → (∀ H', k none → SI (n + 1) ys H' → Nx H') → Turn g tt te vl σ L u H Nx)
    (hd : ∀ n ys H, KM ys → SI n ys H → Qd H) :
    ∃ W : Nat → Nat → Hp → Prop, (∃ m, W 0 m (upd H1 L (.lst []))) ∧ ∀ i m H, W i m H →
      ((Itl K a).stop i H ∧ Qd H) ∨ ((Itl K a).go i H ∧ ∃ Nx : Hp → Prop, (∀ H', Nx H' → ∃ m', m' < m ∧ W (i + 1) m' H') ∧ ∀ x H', (Itl K a).yld i H x H' → g x (wipe σ vl) H' fun σ2 H2 => wipe σ2 vl = wipe σ vl ∧ tt σ2 H2 fun b H3 =>
        if b = true then te σ2 H3 fun y H4 => ∃ acc, H4 L = some (.lst acc) ∧ acc.length < sizeLine ∧ Nx (upd H4 L (.lst (acc ++ [y]))) else Nx H3) := by
  obtain ⟨hn, hM⟩ := hM
  have hl : items.length = xs.length := by
    have := repL_len hx
    rwa [List.length_map] at this
  have aM : a ∉ L :: ms := fun z => by
    rcases List.mem_cons.mp z with z | z
    · exact ne_of_none ha nl z
    · exact an z
  have hx1 : repL (L :: ms) H1 (items.map e) xs := repL_new nl hx
  refine ⟨fun i m H => m = xs.length - i ∧ i ≤ xs.length ∧ ∃ ys, SI i ys H ∧ filC body (items.drop i) ys KM, ⟨_, rfl, Nat.zero_le _, [], h0, hM⟩, ?_⟩
  rintro i m H ⟨rfl, hi', ys, T, q⟩
  have hA : H a = some (.lst xs) := kp i ys H T a _ aM ha
  by_cases hlt : i < xs.length
  · refine .inr ⟨⟨xs, xs[i], .inl (.inl hA), by simp [hlt]⟩, fun H' => i + 1 ≤ xs.length ∧ ∃ ys, SI (i + 1) ys H' ∧ filC body (items.drop (i + 1)) ys KM, fun H' p' => ⟨_, by omega, rfl, p'⟩, fun x H' y => ?_⟩
    obtain ⟨e1, y⟩ := y
    subst e1
    have hxi := y xs (.inl (.inl hA))
    have hit : items[i]? = some (items[i]'(by omega)) := List.getElem?_eq_getElem (by omega)
    rw [drop_cons' hit] at q
    obtain ⟨v, hv, rv⟩ := repL_get (repL_keep (kp i ys H' T) hx1) (j := i) (d := e (items[i]'(by omega))) (by rw [List.getElem?_map, hit]; rfl)
    rw [hxi] at hv
    have ev : x = v := Option.some.inj hv
    subst ev
    exact hs _ x i ys _ H' (by omega) T rv q _ (fun y H'' k T' => ⟨hlt, _, T', k⟩) fun H'' k T' => ⟨hlt, _, T', k⟩
  · refine .inl ⟨⟨xs, .inl (.inl hA), by omega⟩, ?_⟩
    rw [List.drop_of_length_le (by omega)] at q
    exact hd _ ys H q T
end
end Rx
namespace Rx
open PySem PySem.Spec PyProof.Rows L2
/-! a thing of one's own is let go -/
structure Drop (ms : List Addr) (L : Addr) (ms' : List Addr) : Prop where
  sub : ∀ a ∈ ms', a ∈ ms
  ex : ∀ a ∈ ms, a ∈ ms' ∨ a = L
theorem dr_here {L : Addr} {ms : List Addr} : Drop (L :: ms) L ms := ⟨fun _ h => List.mem_cons_of_mem _ h, fun a h => (List.mem_cons.mp h).elim .inr .inl⟩
theorem dr_cons {L x : Addr} {ms ms' : List Addr} (d : Drop ms L ms') : Drop (x :: ms) L (x :: ms') :=
  ⟨fun a h => (List.mem_cons.mp h).elim (fun e => by rw [e]; exact List.mem_cons_self) fun h => List.mem_cons_of_mem _ (d.sub a h), fun a h => (List.mem_cons.mp h).elim (fun e => .inl (by rw [e]; exact List.mem_cons_self)) fun h => (d.ex a h).imp (List.mem_cons_of_mem _) id⟩
theorem nm_cons {L x : Addr} {ms : List Addr} (ne : L ≠ x) (n : L ∉ ms) : L ∉ x :: ms := fun z => (List.mem_cons.mp z).elim ne n
section
variable {K : PySem.W.Frag} {ms ms' : List Addr} {ps : List PEn} {H0 H H' H1 : Hp} {L L' : Addr} {d d' : D} {ds : List D} {u x : V} {vs : List V}
theorem nm_dr (dr : Drop ms L ms') (n : L' ∉ ms) : L' ∉ ms' := fun z => n (dr.sub _ z)
theorem keep_dr (dr : Drop ms L ms') (n : H1 L = none) (k : Keep ms H1 H) : Keep ms' H1 H := fun a o na e => k a o (fun z => by
  rcases dr.ex a z with z | z
  · exact na z
  · rw [z, n] at e
    cases e) e
theorem wd_dr (dr : Drop ms L ms') (hp : L ∉ ad ps) (w : Wd ms ps [] H0 H) : Wd ms' ps [] H0 H := wd_sub dr.sub (fun a h => (dr.ex a (w.pm a h)).elim id fun e => absurd (by rw [← e]; exact h) hp) w
theorem rep_dr (dr : Drop ms L ms') (h : rep ms H d u) : rep ms' H d u := rep_sub dr.sub h
theorem repL_dr (dr : Drop ms L ms') (h : repL ms H ds vs) : repL ms' H ds vs := repL_map (fun p o n hp => ⟨fun z => n (dr.sub p z), hp⟩) ds vs h
theorem mo_dr (dr : Drop ms L ms') (ne : L' ≠ L) (m : MutO ms ps H0 H L' d) : MutO ms' ps H0 H L' d := mo_sub dr.sub ((dr.ex _ m.im).elim id fun e => absurd e ne) m
theorem mo_rep_dr (dr : Drop ms L ms') (n : L ∉ ms') (m : MutO ms ps H0 H L d) : rep ms' H d (.ref L) := mo_rep n dr.sub m
mutual
def noM : D → Bool
  | .v _ => true
  | .lst _ => false
  | .tup ds => noMs ds
  | .ins _ _ ds => noMs ds
  | .dct _ _ => false
  | .dcT _ _ => false
def noMs : List D → Bool
  | [] => true
  | d :: ds => noM d && noMs ds
end
def isMo : Option HO → Prop
  | some (.lst _) => True
  | some (.dK _) => True
  | some (.dT _) => True
  | _ => False
theorem MutO.isMo (m : MutO ms ps H0 H L d) : isMo (H L) := by
  have h := m.val
  cases d with
  | lst ds =>
    rw [h.choose_spec.1]
    trivial
  | dct ks ds =>
    rw [h.choose_spec.1]
    trivial
  | dcT ks ds =>
    rw [h.choose_spec.1]
    trivial
  | v _ => exact h.elim
  | tup _ => exact h.elim
  | ins _ _ _ => exact h.elim
mutual
theorem rep_liftO (dr : Drop ms L ms') (hL : Rx.isMo (H L)) : ∀ (d : D) (u : V), noM d = true → rep ms' H d u → rep ms H d u
  | .v x, u, _, h => by
    simp only [rep] at h ⊢
    exact h
  | .lst ds, u, n, h => by
    simp only [noM] at n
    cases n
  | .dct _ ds, u, n, h => by
    simp only [noM] at n
    cases n
  | .dcT _ ds, u, n, h => by
    simp only [noM] at n
    cases n
  | .tup ds, u, n, h => by
    simp only [noM] at n
    simp only [rep] at h ⊢
    obtain ⟨p, us, e, np, hp, hl⟩ := h
    refine ⟨p, us, e, fun z => ?_, hp, repL_liftO dr hL ds us n hl⟩
    rcases dr.ex p z with z | z
    · exact np z
    · rw [← z, hp] at hL
      exact hL
  | .ins C ns ds, u, n, h => by
    simp only [noM] at n
    simp only [rep] at h ⊢
    obtain ⟨p, dx, us, e, np, hp, hn, hl⟩ := h
    refine ⟨p, dx, us, e, fun z => ?_, hp, hn, repL_liftO dr hL ds us n hl⟩
    rcases dr.ex p z with z | z
    · exact np z
    · rw [← z, hp] at hL
      exact hL
theorem repL_liftO (dr : Drop ms L ms') (hL : Rx.isMo (H L)) : ∀ (ds : List D) (us : List V), noMs ds = true → repL ms' H ds us → repL ms H ds us
  | [], us, _, h => by
    simp only [repL] at h ⊢
    exact h
  | d :: ds, us, n, h => by
    simp only [noMs, Bool.and_eq_true] at n
    simp only [repL] at h ⊢
    obtain ⟨u, ws, e, h1, h2⟩ := h
    exact ⟨u, ws, e, rep_liftO dr hL d u n.1 h1, repL_liftO dr hL ds ws n.2 h2⟩
end
theorem mo_ixN {α : Type} {e : α → D} {xs : List α} {i : Int} {y : α} {Q : VK} (m : MutO ms ps H0 H L (.lst (xs.map e))) (hi : atI xs i = some y) (k : ∀ v, rep ms H (e y) v → Q v H) : rIxL K (.ref L) (.int i) H Q := by
  obtain ⟨vs, hp, hr⟩ := m.val
  have hl := repL_len hr
  rw [List.length_map] at hl
  unfold atI at hi
  cases hx : ixN xs.length i with
  | none =>
    rw [hx] at hi
    cases hi
  | some j =>
    rw [hx] at hi
    have hi' : xs[j]? = some y := hi
    obtain ⟨v, hv, rv⟩ := repL_get (d := e y) hr (by rw [List.getElem?_map, hi']; rfl)
    refine ⟨L, vs, i, v, rfl, rfl, .inl (.inl hp), ?_, k v rv⟩
    unfold atI
    rw [← hl, hx]
    exact hv
theorem mo_len {α : Type} {e : α → D} {xs : List α} {P : Nat → Prop} (m : MutO ms ps H0 H L (.lst (xs.map e))) (k : P xs.length) : ∃ y n, [V.ref L] = [y] ∧ LenV K y H n ∧ P n := by
  obtain ⟨vs, hp, hr⟩ := m.val
  have hl := repL_len hr
  rw [List.length_map] at hl
  exact ⟨_, xs.length, rfl, .inl ⟨vs, .inl (.inl hp), hl⟩, k⟩
end
end Rx
namespace Rx
open PySem PySem.Spec PyProof.Rows L2
section
variable {K : PySem.W.Frag} {ms ms' : List Addr} {ps : List PEn} {H0 H H' H1 : Hp} {L L' : Addr} {d d' : D} {ds : List D} {u x : V} {vs : List V}
theorem mo_extU {α : Type} {e : α → D} {ys : List α} {P : Addr → List V → List V → Prop} (m : MutO ms ps H0 H L (.lst ds)) (h : rep ms H (.lst (ys.map e)) x) (hl : ds.length + ys.length ≤ 16777216) (k : ∀ vs us, repL ms H ds vs → repL ms H (ys.map e) us → P L vs us) :
    ∃ (l b : Addr) (xs zs : List V), V.ref L = .ref l ∧ [x] = [.ref b] ∧ H l = some (.lst xs) ∧ H b = some (.lst zs) ∧ xs.length + zs.length ≤ sizeLine ∧ P l xs zs := by
  obtain ⟨vs, h1, h2⟩ := m.val
  simp only [rep] at h
  obtain ⟨p, us, rfl, _, hp, hr⟩ := h
  have a := repL_len h2
  have b := repL_len hr
  rw [List.length_map] at b
  refine ⟨L, p, vs, us, rfl, rfl, h1, hp, ?_, k vs us h2 hr⟩
  rw [sizeLine_eq]
  omega
theorem repL_erase {α : Type} {e : α → D} : ∀ {xs : List α} {vs : List V} (k : Nat), repL ms H (xs.map e) vs → repL ms H ((xs.eraseIdx k).map e) (vs.eraseIdx k)
  | [], vs, k, h => by
    have ev : vs = [] := by
      simp only [List.map_nil, repL] at h
      exact h
    subst ev
    simpa using h
  | x :: xs, vs, 0, h => by
    simp only [List.map_cons, repL] at h
    obtain ⟨u, us, rfl, _, h2⟩ := h
    exact h2
  | x :: xs, vs, k + 1, h => by
    simp only [List.map_cons, repL] at h
    obtain ⟨u, us, rfl, h1, h2⟩ := h
    exact repL_cons h1 (repL_erase k h2)
theorem mo_popU {α : Type} {e : α → D} {xs : List α} {i : Int} {y : α} {P : Addr → List V → Nat → V → Prop} (m : MutO ms ps H0 H L (.lst (xs.map e))) (h0 : 0 ≤ i) (hi : xs[i.toNat]? = some y) (hb : i < 2 ^ 63) (k : ∀ vs v, repL ms H (xs.map e) vs → rep ms H (e y) v → P L vs i.toNat v) :
    ∃ (l : Addr) (xs : List V) (i' : Int) (k : Nat) (y : V), V.ref L = .ref l ∧ [V.int i] = [.int i'] ∧ H l = some (.lst xs) ∧ -(2 ^ 63) ≤ i' ∧ i' < 2 ^ 63 ∧ seqIndex? i' xs.length = some k ∧ xs[k]? = some y ∧ P l xs k y := by
  obtain ⟨vs, h1, h2⟩ := m.val
  have hl := repL_len h2
  rw [List.length_map] at hl
  obtain ⟨v, hv, rv⟩ := repL_get (d := e y) h2 (by rw [List.getElem?_map, hi]; rfl)
  have lt := (List.getElem?_eq_some_iff.mp hi).1
  refine ⟨L, vs, i, i.toNat, v, rfl, rfl, h1, by omega, hb, ?_, hv, k vs v h2 rv⟩
  unfold seqIndex?
  first
    | (simp only []; split <;> first | rfl | (exfalso; omega))
    | (rw [if_neg (by omega), if_pos (by omega)])
    | (simp; omega)
end
/-! a comprehension that changes things: its state is carried -/
def mapS {α β S : Type} (body : α → S → (β → S → Prop) → Prop) : List α → List β → S → (List β → S → Prop) → Prop
  | [], acc, s, k => k acc s
  | x :: xs, acc, s, k => body x s fun y s' => mapS body xs (acc ++ [y]) s' k
section
variable {α β S : Type} {K : PySem.W.Frag} {H1 H2 : Hp} {g : TG} {tt : TT} {te : TE} {vl : List Nat} {σ : L2.St} {Qd : Hp → Prop} {L : Addr}
theorem lc_rangeS {lo hi : Int} {N : Nat} {body : Int → S → (β → S → Prop) → Prop} {KM : List β → S → Prop} (SI : Nat → List β → S → Hp → Prop) (s0 : S) (hN : N = (hi - lo).toNat) (hM : (rangeI lo hi).length < 100000 ∧ mapS body (rangeI lo hi) [] s0 KM) (h0 : SI 0 [] s0 (upd H1 L (.lst [])))
    (hs : ∀ (x : Int) (n : Nat) (ys : List β) (s : S) (k : β → S → Prop) (H : Hp), n < 100000 → SI n ys s H → body x s k → ∀ Nx : Hp → Prop, (∀ y s' H', k y s' → SI (n + 1) (ys ++ [y]) s' H' → Nx H') → Turn g tt te vl σ L (.int x) H Nx)
    (hd : ∀ n ys s H, KM ys s → SI n ys s H → Qd H) :
    ∃ W : Nat → Nat → Hp → Prop, (∃ m, W 0 m (upd H1 L (.lst []))) ∧ ∀ i m H, W i m H →
      ((Itr lo N).stop i H ∧ Qd H) ∨ ((Itr lo N).go i H ∧ ∃ Nx : Hp → Prop, (∀ H', Nx H' → ∃ m', m' < m ∧ W (i + 1) m' H') ∧ ∀ x H', (Itr lo N).yld i H x H' → g x (wipe σ vl) H' fun σ2 H2 => wipe σ2 vl = wipe σ vl ∧ tt σ2 H2 fun b H3 =>
        if b = true then te σ2 H3 fun y H4 => ∃ acc, H4 L = some (.lst acc) ∧ acc.length < sizeLine ∧ Nx (upd H4 L (.lst (acc ++ [y]))) else Nx H3) := by
  obtain ⟨hn, hM⟩ := hM
  subst hN
  rw [rangeI_len] at hn
  refine ⟨fun i m H => m = (hi - lo).toNat - i ∧ i ≤ (hi - lo).toNat ∧ ∃ ys s, SI i ys s H ∧ mapS body ((rangeI lo hi).drop i) ys s KM, ⟨_, rfl, Nat.zero_le _, [], s0, h0, hM⟩, ?_⟩
  rintro i m H ⟨rfl, hi', ys, s, T, q⟩
  by_cases hlt : i < (hi - lo).toNat
  · refine .inr ⟨hlt, fun H' => i + 1 ≤ (hi - lo).toNat ∧ ∃ ys s, SI (i + 1) ys s H' ∧ mapS body ((rangeI lo hi).drop (i + 1)) ys s KM, fun H' p' => ⟨_, by omega, rfl, p'⟩, fun x H' y => ?_⟩
    obtain ⟨e, y⟩ := y
    subst e y
    rw [drop_cons' (rangeI_get hlt)] at q
    exact hs _ i ys s _ H' (by omega) T q _ fun y s' H' k T' => ⟨hlt, _, _, T', k⟩
  · have e : i = (hi - lo).toNat := by omega
    refine .inl ⟨by rw [e]; exact Nat.le_refl _, ?_⟩
    rw [List.drop_of_length_le (by rw [rangeI_len]; omega)] at q
    exact hd _ ys s H q T
end
end Rx
namespace Rx
open PySem PySem.Spec PyProof.Rows L2
section
variable {ms : List Addr} {H : Hp} {x y : V}
theorem rep_catU {α : Type} {xs ys : List α} {e : α → D} {P : List V → List V → Prop} (h1 : rep ms H (.lst (xs.map e)) x) (h2 : rep ms H (.lst (ys.map e)) y) (hz : xs.length + ys.length ≤ sizeLine)
    (k : ∀ vs us, repL ms H (xs.map e) vs → repL ms H (ys.map e) us → P vs us) : ∃ p q vs us, x = .ref p ∧ y = .ref q ∧ H p = some (.lst vs) ∧ H q = some (.lst us) ∧ vs.length + us.length ≤ sizeLine ∧ P vs us := by
  simp only [rep] at h1 h2
  obtain ⟨p, vs, rfl, np, hp, r1⟩ := h1
  obtain ⟨q, us, rfl, nq, hq, r2⟩ := h2
  have l1 := repL_len r1
  have l2 := repL_len r2
  rw [List.length_map] at l1 l2
  exact ⟨p, q, vs, us, rfl, rfl, hp, hq, by rw [← l1, ← l2]; exact hz, k vs us r1 r2⟩
end
end Rx
namespace Rx
open PySem PySem.Spec PyProof.Rows L2
section
variable {K : PySem.W.Frag} {ms : List Addr} {H : Hp} {x y : V} {ds : List D} {vs : List V}
/-- what a list holds -/
theorem rep_lsU {P : List V → Prop} (h : rep ms H (.lst ds) x) (k : ∀ vs, repL ms H ds vs → P vs) : ∃ a xs, x = .ref a ∧ SqL K H a xs ∧ P xs := by
  simp only [rep] at h
  obtain ⟨p, vs, rfl, np, hp, hr⟩ := h
  exact ⟨p, vs, rfl, .inl (.inl hp), k vs hr⟩
theorem rep_tpU {P : List V → Prop} (h : rep ms H (.tup ds) x) (k : ∀ vs, repL ms H ds vs → P vs) : ∃ a xs, x = .ref a ∧ SqT K H a xs ∧ P xs := by
  simp only [rep] at h
  obtain ⟨p, vs, rfl, np, hp, hr⟩ := h
  exact ⟨p, vs, rfl, .inl (.inl hp), k vs hr⟩
theorem rep_iterT {ds : List D} {P : Addr → Prop} (h : rep ms H (.tup ds) x) (k : ∀ a xs, x = .ref a → a ∉ ms → H a = some (.tup xs) → repL ms H ds xs → P a) : ∃ a, x = .ref a ∧ (∃ xs, SqT K H a xs) ∧ P a := by
  simp only [rep] at h
  obtain ⟨p, vs, e, n, hp, hr⟩ := h
  exact ⟨p, e, ⟨vs, .inl (.inl hp)⟩, k p vs e n hp hr⟩
theorem repL_rev : ∀ {ds : List D} {vs : List V}, repL ms H ds vs → repL ms H ds.reverse vs.reverse
  | [], vs, h => by
    have e := repL_empty h
    subst e
    exact repL_nil
  | d :: ds, vs, h => by
    obtain ⟨u, us, rfl, h1, h2⟩ := repL_uncons h
    rw [List.reverse_cons, List.reverse_cons]
    exact repL_app (repL_rev h2) (repL_one h1)
theorem repL_revM {α : Type} {e : α → D} {xs : List α} (h : repL ms H (xs.map e) vs) : repL ms H (xs.reverse.map e) vs.reverse := by
  rw [List.map_reverse]
  exact repL_rev h
theorem repL_take : ∀ (n : Nat) {ds : List D} {vs : List V}, repL ms H ds vs → repL ms H (ds.take n) (vs.take n)
  | 0, _, _, _ => by
    rw [List.take_zero, List.take_zero]
    exact repL_nil
  | n + 1, [], vs, h => by
    have e := repL_empty h
    subst e
    exact repL_nil
  | n + 1, d :: ds, vs, h => by
    obtain ⟨u, us, rfl, h1, h2⟩ := repL_uncons h
    exact repL_cons h1 (repL_take n h2)
theorem repL_drop : ∀ (n : Nat) {ds : List D} {vs : List V}, repL ms H ds vs → repL ms H (ds.drop n) (vs.drop n)
  | 0, _, _, h => h
  | n + 1, [], vs, h => by
    have e := repL_empty h
    subst e
    exact repL_nil
  | n + 1, d :: ds, vs, h => by
    obtain ⟨u, us, rfl, h1, h2⟩ := repL_uncons h
    exact repL_drop n h2
/-- a slice -/
def cutM {α : Type} (xs : List α) (lo hi : Option Int) : List α := (xs.drop (HT.sIx xs.length 0 lo)).take (HT.sIx xs.length xs.length hi - HT.sIx xs.length 0 lo)
theorem repL_cut {α : Type} {e : α → D} {xs : List α} {lo hi : Option Int} (h : repL ms H (xs.map e) vs) : repL ms H ((cutM xs lo hi).map e) (cutV vs lo hi) := by
  have hl := repL_len h
  rw [List.length_map] at hl
  unfold cutM cutV
  rw [List.map_take, List.map_drop, hl]
  exact repL_take _ (repL_drop _ h)
end
/-! walks over tuples -/
section
variable {α β S : Type} {K : PySem.W.Frag} {H1 : Hp} {g : TG} {tt : TT} {te : TE} {vl : List Nat} {σ : L2.St} {Qd : Hp → Prop} {L : Addr}
theorem lc_tupG {items : List α} {e : α → D} {ms : List Addr} {a : Addr} {xs : List V} {body : α → (β → Prop) → Prop} {KM : List β → Prop} (SI : Nat → List β → Hp → Prop) (an : a ∉ ms) (ha : H1 a = some (.tup xs)) (hx : repL ms H1 (items.map e) xs) (nl : H1 L = none)
    (kp : ∀ n ys H, SI n ys H → Keep (L :: ms) H1 H) (hM : items.length < 100000 ∧ mapC body items [] KM) (h0 : SI 0 [] (upd H1 L (.lst [])))
    (hs : ∀ (x : α) (u : V) (n : Nat) (ys : List β) (k : β → Prop) (H : Hp), n < 100000 → SI n ys H → rep (L :: ms) H (e x) u → body x k → ∀ Nx : Hp → Prop, (∀ y H', k y → SI (n + 1) (ys ++ [y]) H' → Nx H') → Turn g tt te vl σ L u H Nx)
    (hd : ∀ n ys H, KM ys → SI n ys H → Qd H) :
    ∃ W : Nat → Nat → Hp → Prop, (∃ m, W 0 m (upd H1 L (.lst []))) ∧ ∀ i m H, W i m H →
      ((Itt K a).stop i H ∧ Qd H) ∨ ((Itt K a).go i H ∧ ∃ Nx : Hp → Prop, (∀ H', Nx H' → ∃ m', m' < m ∧ W (i + 1) m' H') ∧ ∀ x H', (Itt K a).yld i H x H' → g x (wipe σ vl) H' fun σ2 H2 => wipe σ2 vl = wipe σ vl ∧ tt σ2 H2 fun b H3 =>
        if b = true then te σ2 H3 fun y H4 => ∃ acc, H4 L = some (.lst acc) ∧ acc.length < sizeLine ∧ Nx (upd H4 L (.lst (acc ++ [y]))) else Nx H3) := by
  obtain ⟨hn, hM⟩ := hM
  have hl : items.length = xs.length := by
    have := repL_len hx
    rwa [List.length_map] at this
  have aM : a ∉ L :: ms := fun z => by
    rcases List.mem_cons.mp z with z | z
    · exact ne_of_none ha nl z
    · exact an z
  have hx1 : repL (L :: ms) H1 (items.map e) xs := repL_new nl hx
  refine ⟨fun i m H => m = xs.length - i ∧ i ≤ xs.length ∧ ∃ ys, SI i ys H ∧ mapC body (items.drop i) ys KM, ⟨_, rfl, Nat.zero_le _, [], h0, hM⟩, ?_⟩
  rintro i m H ⟨rfl, hi', ys, T, q⟩
  have hA : H a = some (.tup xs) := kp i ys H T a _ aM ha
  by_cases hlt : i < xs.length
  · refine .inr ⟨⟨xs, xs[i], .inl (.inl hA), by simp [hlt]⟩, fun H' => i + 1 ≤ xs.length ∧ ∃ ys, SI (i + 1) ys H' ∧ mapC body (items.drop (i + 1)) ys KM, fun H' p' => ⟨_, by omega, rfl, p'⟩, fun x H' y => ?_⟩
    obtain ⟨e1, y⟩ := y
    subst e1
    have hxi := y xs (.inl (.inl hA))
    have hit : items[i]? = some (items[i]'(by omega)) := List.getElem?_eq_getElem (by omega)
    rw [drop_cons' hit] at q
    obtain ⟨v, hv, rv⟩ := repL_get (repL_keep (kp i ys H' T) hx1) (j := i) (d := e (items[i]'(by omega))) (by rw [List.getElem?_map, hit]; rfl)
    rw [hxi] at hv
    have ev : x = v := Option.some.inj hv
    subst ev
    exact hs _ x i ys _ H' (by omega) T rv q _ fun y H'' k T' => ⟨hlt, _, T', k⟩
  · refine .inl ⟨⟨xs, .inl (.inl hA), by omega⟩, ?_⟩
    rw [List.drop_of_length_le (by omega)] at q
    exact hd _ ys H q T
end
end Rx
namespace Rx
open PySem PySem.Spec PyProof.Rows L2
/-! the same rules, their readings without the context -/
section
variable {X : Cx} {K : PySem.W.Frag}
theorem call_lenK (hK : X.K = K) : CallR X (.builtin "len") (fun xs H Q => ∃ x n, xs = [x] ∧ LenV K x H n ∧ Q (.int n) H) := by
  subst hK
  exact call_len
theorem call_isiK (hK : X.K = K) : CallR X (.builtin "isinstance") (rIsi K) := by
  subst hK
  exact call_isi
theorem sl_listK (hK : X.K = K) : SlR X (rSlL K) := by
  subst hK
  exact sl_list
theorem call_list_ofK (hK : X.K = K) : CallR X (.type "list") (fun xs H Q => ∃ p ys, xs = [.ref p] ∧ (SqL K H p ys ∨ SqT K H p ys) ∧ ∀ l, H l = none → Q (.ref l) (upd H l (.lst ys))) := by
  subst hK
  exact call_list_of
theorem cr_maxK (hK : X.K = K) (hc : X.calm = true) : CallR X (.builtin "max") (rMax K) := by
  subst hK
  exact cr_max hc
theorem cr_minK (hK : X.K = K) (hc : X.calm = true) : CallR X (.builtin "min") (rMin K) := by
  subst hK
  exact cr_min hc
theorem cr_anyK (hK : X.K = K) (hc : X.calm = true) : CallR X (.builtin "any") (rAny K) := by
  subst hK
  exact cr_any hc
theorem cr_allK (hK : X.K = K) (hc : X.calm = true) : CallR X (.builtin "all") (rAll K) := by
  subst hK
  exact cr_all hc
theorem op_eqDK (hK : X.K = K) (hu : X.A.units + 64 < cLine) : OpR X (compareOp .Eq) (rEqD K) := by
  subst hK
  exact op_eqD hu
theorem op_neDK (hK : X.K = K) (hu : X.A.units + 64 < cLine) : OpR X (compareOp .NotEq) (rNeD K) := by
  subst hK
  exact op_neD hu
theorem call_reprAK {k : Nat} (hK : X.K = K) (gu : X.A.guards = some []) (hr : Room k X.A) : CallR X (.builtin "repr") (rReprA K) := by
  subst hK
  exact call_reprA gu hr
theorem mt_lcountSK (hK : X.K = K) : MtR X "list.count" (rCntS K) := by
  subst hK
  exact mt_lcountS
end
end Rx
namespace Rx
open PySem PySem.Spec PyProof.Rows L2
section
variable {X : Cx} {K : PySem.W.Frag} {T name id : String} {o e : Expr} {es : List Expr} {r : V → List V → Hp → VK → Prop} {to : TE} {t : TA} {apos cpos : Pos}
theorem pe_bmK (hK : X.K = K) (pa : PlainAttrs T) (slot : Slot T name id) (hty : typeOf (.builtin id) = pure (.type "method_descriptor")) (hm : MtR X id r) (ho : PE X o to) (ha : PA X (e :: es) t)
    (hbase : attributeBase o name X.env (eval o X.env) = eval o X.env := by rfl)
    (hfew : ((backTo cpos (starEach (e :: es) X.env)).all (fun x => !x.1) && (backToKw cpos (keywordEach [] X.env)).all (fun x => x.1.isSome)
      && decide ((e :: es).length + ([] : List Keyword).length + (if ([] : List Keyword).isEmpty then 0 else 1) < 30)) = true := by rfl)
    (hline : (apos.endLine == cpos.line) = true := by rfl) (hs : starEach (e :: es) X.env = (false, eval e X.env) :: starEach es X.env := by rfl) (hplain : (backTo cpos (starEach es X.env)).any (·.1) = false := by rfl) :
    PE X (.Call (.Attribute o name apos) (e :: es) [] cpos) (tBM K T r to t) := by
  subst hK
  exact pe_bm pa slot hty hm ho ha hbase hfew hline hs hplain
end
end Rx
namespace Rx
open PySem PySem.Spec PyProof.Rows L2
section
variable {M : Model} {s : Shared} {K : PySem.W.Frag} {C : Addr}
theorem looksT {v : Value} {T : String} (h : s.TypeIs v T) : PySem.W.Looks M s.heap (typeOf v) (.type T) := fun A Q E s' k q => wpAny_typeOf (by
  cases v with
  | ref a =>
    obtain ⟨o, e, c⟩ := h
    exact ⟨o, k _ _ e, c⟩
  | _ => exact h) q
theorem sub_non : PySem.W.subIn K (.type "NoneType") (.ref C) = some false := by
  show ((fastBuiltinMro "NoneType").map _) = _
  rw [show fastBuiltinMro "NoneType" = some [.type "NoneType", .type "object"] by decide +kernel]
  simp
theorem sub_bool : PySem.W.subIn K (.type "bool") (.ref C) = some false := by
  show ((fastBuiltinMro "bool").map _) = _
  rw [show fastBuiltinMro "bool" = some [.type "bool", .type "int", .type "object"] by decide +kernel]
  simp
theorem sub_int : PySem.W.subIn K (.type "int") (.ref C) = some false := by
  show ((fastBuiltinMro "int").map _) = _
  rw [show fastBuiltinMro "int" = some [.type "int", .type "object"] by decide +kernel]
  simp
theorem sub_str : PySem.W.subIn K (.type "str") (.ref C) = some false := by
  show ((fastBuiltinMro "str").map _) = _
  rw [show fastBuiltinMro "str" = some [.type "str", .type "object"] by decide +kernel]
  simp
theorem sub_list : PySem.W.subIn K (.type "list") (.ref C) = some false := by
  show ((fastBuiltinMro "list").map _) = _
  rw [show fastBuiltinMro "list" = some [.type "list", .type "object"] by decide +kernel]
  simp
theorem sub_tuple : PySem.W.subIn K (.type "tuple") (.ref C) = some false := by
  show ((fastBuiltinMro "tuple").map _) = _
  rw [show fastBuiltinMro "tuple" = some [.type "tuple", .type "object"] by decide +kernel]
  simp
theorem sub_dict : PySem.W.subIn K (.type "dict") (.ref C) = some false := by
  show ((fastBuiltinMro "dict").map _) = _
  rw [show fastBuiltinMro "dict" = some [.type "dict", .type "object"] by decide +kernel]
  simp
theorem sub_ty {H : Hp} {x : V} {T : String} (t : TyB K H x T) (nb : ∀ b, x ≠ .byt b) : PySem.W.subIn K (.type T) (.ref C) = some false := by
  cases t with
  | non => exact sub_non
  | bl b => exact sub_bool
  | int i => exact sub_int
  | str z => exact sub_str
  | byt b => exact absurd rfl (nb b)
  | lst h => exact sub_list
  | tup h => exact sub_tuple
  | dK h => exact sub_dict
end
section
variable {M : Model} {prog : Program} {w : World} {A : Around} {E : Value → Shared → Prop} {s : Shared} {K : PySem.W.Frag} {x C : Addr} {uy : Value} {ox : Obj} {od : Option Obj}
theorem entry_objNeA {Q : Fin → Shared → Prop} (hu : A.units < cLine) (hcall : wpAny M A (callSpecialIfBound? (.ref x) (Str.ofString "__eq__") [uy]) (fun r s' => ∃ b, r = some (.bool b) ∧ Q (.done (.ret (.bool (!b)))) s') E s) :
    wpAny M A (Builtin.«object.__ne__» ⟨[.ref x, uy], []⟩) Q E s := by
  unfold Builtin.«object.__ne__»
  repeat (first
    | with_reducible refine wpAny_cRoomFor hu ?_
    | (refine wpAny_bind (m := callSpecialIfBound? (.ref x) (Str.ofString "__eq__") [uy])
        (wpAny_mono hcall (fun r s' hr => by
          obtain ⟨b, rfl, hq⟩ := hr
          repeat (first | exact hq | exact wpAny_pure hq | exact wpAny_truthy_bool hq | (refine wpAny_bind (m := truthy (.bool _)) (wpAny_truthy_bool ?_)) | wp_step)) fun _ _ e => e))
    | wp_step)
theorem call_objNeA {Q : Value → Shared → Prop} (X : K.In s.heap) (I : PySem.W.InstAt s.heap x ox C od) (hm : PySem.W.mroIn K C (.type "object") = some true) (hu : A.in1.units < cLine)
    (hcall : wpAny (model prog w) A.in1 (callSpecialIfBound? (.ref x) (Str.ofString "__eq__") [uy]) (fun r s' => ∃ b, r = some (.bool b) ∧ Q (.bool (!b)) s') E s) :
    wpAny (model prog w) A (call (.builtin "object.__ne__") [.ref x, uy]) Q E s := by
  refine wpAny_call (codeAny_call_builtin F.cmp_object.ne.plain F.cmpEntry_ne (PySem.W.check_slot F.cmpKind_ne F.cmpSplit_ne (I.type.andThen (PySem.W.looks_mroIn X hm)) (F.cmpArgs_ne _ _) (entry_objNeA hu (wpAny_mono hcall (fun r s' hr => ?_) fun _ _ e => e))))
  obtain ⟨b, rfl, hq⟩ := hr
  first | exact ⟨b, rfl, hq⟩ | exact ⟨b, rfl, wpAny_pure hq⟩
end
/-- not an instance -/
def noI : D → Bool
  | .v .non => true
  | .v (.bl _) => true
  | .v (.int _) => true
  | .v (.str _) => true
  | .v _ => false
  | .ins _ _ _ => false
  | .dcT _ _ => false
  | _ => true
theorem rep_TyB {K : PySem.W.Frag} {ms : List Addr} {H : Hp} {d : D} {u : V} (h : rep ms H d u) (n : noI d = true) : ∃ T, TyB K H u T ∧ (∀ b, u ≠ .byt b) ∧ TyX K H u (.type T) := by
  cases d with
  | v x =>
    obtain rfl := of_v h
    cases u <;> simp only [noI] at n
    · exact ⟨_, .non, (fun _ z => nomatch z), .base .non⟩
    · exact ⟨_, .bl _, (fun _ z => nomatch z), .base (.bl _)⟩
    · exact ⟨_, .int _, (fun _ z => nomatch z), .base (.int _)⟩
    · exact ⟨_, .str _, (fun _ z => nomatch z), .base (.str _)⟩
    all_goals cases n
  | lst ds =>
    simp only [rep] at h
    obtain ⟨p, vs, rfl, _, hp, _⟩ := h
    exact ⟨_, .lst (.inl (.inl hp)), (fun _ z => nomatch z), .base (.lst hp)⟩
  | tup ds =>
    simp only [rep] at h
    obtain ⟨p, vs, rfl, _, hp, _⟩ := h
    exact ⟨_, .tup (.inl (.inl hp)), (fun _ z => nomatch z), .base (.tup hp)⟩
  | dct ks ds =>
    simp only [rep] at h
    obtain ⟨p, vs, rfl, _, hp, _⟩ := h
    exact ⟨_, .dK hp, (fun _ z => nomatch z), .base (.dK hp)⟩
  | dcT _ _ => cases n
  | ins _ _ _ => cases n
/-- own == with any value that is no instance -/
def rOwnEqA (K : PySem.W.Frag) (C : Addr) (sp : Sp) (E : XK) : R2 := fun x y H Q => ∃ a dx fs T, x = .ref a ∧ H a = some (.ins C dx fs) ∧ TyB K H y T ∧ (∀ b, y ≠ .byt b) ∧ sp [x, y] H (fun v H' => ∃ r : Bool, v = .bl r ∧ Q v H') E
def rOwnNeA (K : PySem.W.Frag) (C : Addr) (sp : Sp) (E : XK) : R2 := fun x y H Q => ∃ a dx fs T, x = .ref a ∧ H a = some (.ins C dx fs) ∧ TyB K H y T ∧ (∀ b, y ≠ .byt b) ∧ sp [x, y] H (fun v H' => ∃ r : Bool, v = .bl r ∧ Q (.bl (!r)) H') E
theorem op_eqOwnA {X : Cx} {K : PySem.W.Frag} (hK : X.K = K) {n : Nat} {CX : CXT} {C f : Addr} {fd : FuncData} {ps : List Str} {sp : Sp} {E : XK} (F : FnOk X.prog X.w X.K X.mg X.base CX n f fd ps sp) (hr : Room n X.A)
    (o : OwnEq X.K C f) (hb : Binds X.K fd ps []) (hx : Passes CX X E) : OpR X (compareOp .Eq) (rOwnEqA K C sp E) := by
  subst hK
  intro pins s σ H x y v u Q I rx ry d
  show wpAny (model X.prog X.w) X.A (richCompare .Eq v u) (EP X pins σ Q) X.xe s
  obtain ⟨a, dx, fs, T, rfl, ha, ty, nb, hsp⟩ := d
  cases rx
  obtain ⟨mA, J, _⟩ := ins_get I.hok ha
  obtain ⟨od, J, _⟩ := J.look
  obtain ⟨m, hF⟩ := I.fr
  refine PySem.W.cmp_K (op := .Eq) (tb := .type T) hr.units0 hF I.ok.mod.kin J (looksT (ty.is I ry)) (by simp [PySem.W.notFirst, sub_ty ty nb]) o.hs o.hf ?_
  have hl := F.len _ _ _ _ hsp
  have r2 : Vals [V.ref a, y] [Value.ref a, u] := .cons rfl (.cons ry .nil)
  refine wpAny_call (codeAny_mono (F.run X.A X.stack s H ⟨[.ref a, u], []⟩ [.ref a, u] [.ref a, y] _ E hr I.env0 (by
    have := hb s [.ref a, u] I.kIn (by simpa using hl)
    simpa using this) r2 hsp) fun r s' hq => ?_)
  cases r with
  | error e => exact hx pins σ H s e s' I hq
  | ok fl =>
    cases fl with
    | ret w =>
      obtain ⟨z, H', I', rz, ⟨r, ez, q⟩⟩ := I.after hq
      subst ez
      cases (show w = Value.bool r from rz)
      exact ⟨.bl r, H', I', rfl, q⟩
    | next => exact False.elim hq
    | brk => exact False.elim hq
    | cont => exact False.elim hq
theorem op_neOwnA {X : Cx} {K : PySem.W.Frag} (hK : X.K = K) {n : Nat} {CX : CXT} {C f : Addr} {fd : FuncData} {ps : List Str} {sp : Sp} {E : XK} (F : FnOk X.prog X.w X.K X.mg X.base CX n f fd ps sp) (hr : Room (n + 1) X.A)
    (o : OwnEq X.K C f) (o' : OwnNe X.K C) (hb : Binds X.K fd ps []) (hx : Passes CX X E) : OpR X (compareOp .NotEq) (rOwnNeA K C sp E) := by
  subst hK
  intro pins s σ H x y v u Q I rx ry d
  show wpAny (model X.prog X.w) X.A (richCompare .NotEq v u) (EP X pins σ Q) X.xe s
  obtain ⟨a, dx, fs, T, rfl, ha, ty, nb, hsp⟩ := d
  cases rx
  obtain ⟨mA, J, _⟩ := ins_get I.hok ha
  obtain ⟨od, J, _⟩ := J.look
  have J' := looksT (M := model X.prog X.w) (ty.is I ry)
  have hl := F.len _ _ _ _ hsp
  have r2 : Vals [V.ref a, y] [Value.ref a, u] := .cons rfl (.cons ry .nil)
  have one : wpAny (model X.prog X.w) X.A (tryCompare (.ref a) (cmpInfo .NotEq).2.1 u) (fun r s' => ∃ v, r = some v ∧ EP X pins σ Q v s') X.xe s := by
    unfold tryCompare
    refine wpAny_bind (ifBound_objNe I.kIn J o'.hne (call_objNeA I.kIn J o'.hm hr.in1.units0 (PySem.W.ifBound_K I.kIn J o.hs o.hf ?_)))
    refine wpAny_call (codeAny_mono (F.run X.A.in1 X.stack s H ⟨[.ref a, u], []⟩ [.ref a, u] [.ref a, y] _ E hr.in1 I.env0.in1 (by
      have := hb s [.ref a, u] I.kIn (by simpa using hl)
      simpa using this) r2 hsp) fun r s' hq => ?_)
    cases r with
    | error e => exact hx pins σ H s e s' I hq
    | ok fl =>
      cases fl with
      | ret w =>
        obtain ⟨z, H', I', rz, ⟨r, ez, q⟩⟩ := I.after hq
        subst ez
        cases (show w = Value.bool r from rz)
        exact ⟨r, rfl, wpAny_pure ⟨_, rfl, .bl (!r), H', I', rfl, q⟩⟩
      | next => exact False.elim hq
      | brk => exact False.elim hq
      | cont => exact False.elim hq
  unfold richCompare
  simp only [oneThing_ref]
  refine wpAny_holding (wpAny_bind (wpAny_cRoomFor hr.units0 ?_))
  refine wpAny_bind (J.type.here (wpAny_bind (J'.here ?_)))
  rw [show (Value.ref C != Value.type T) = true from by simp]
  refine wpAny_bind ((PySem.W.looks_subIn I.kIn (sub_ty ty nb)).here ?_)
  simp only [Bool.false_eq_true, if_false]
  refine wpAny_bind (wpAny_mono one (fun r s' z => ?_) fun _ _ e => e)
  obtain ⟨v, rfl, hq⟩ := z
  exact wpAny_pure hq
section
variable {K : PySem.W.Frag} {ms : List Addr} {H : Hp} {x y : V} {d : D}
theorem rep_eqOwnA {C : Addr} {ns : List Str} {ds : List D} {sp : Sp} {E : XK} {Q : VK} (h1 : rep ms H (.ins C ns ds) x) (h2 : rep ms H d y) (n : noI d = true) (k : sp [x, y] H (fun v H' => ∃ r : Bool, v = .bl r ∧ Q v H') E) : rOwnEqA K C sp E x y H Q := by
  obtain ⟨p, dx, fs, e, hp⟩ := rep_ins h1
  obtain ⟨T, ty, nb, _⟩ := rep_TyB (K := K) h2 n
  subst e
  exact ⟨p, dx, fs, T, rfl, hp, ty, nb, k⟩
theorem rep_neOwnA {C : Addr} {ns : List Str} {ds : List D} {sp : Sp} {E : XK} {Q : VK} (h1 : rep ms H (.ins C ns ds) x) (h2 : rep ms H d y) (n : noI d = true) (k : sp [x, y] H (fun v H' => ∃ r : Bool, v = .bl r ∧ Q (.bl (!r)) H') E) : rOwnNeA K C sp E x y H Q := by
  obtain ⟨p, dx, fs, e, hp⟩ := rep_ins h1
  obtain ⟨T, ty, nb, _⟩ := rep_TyB (K := K) h2 n
  subst e
  exact ⟨p, dx, fs, T, rfl, hp, ty, nb, k⟩
/-- a class of the text's own, for isinstance that says no -/
structure IsN (K : PySem.W.Frag) (C : Addr) : Prop where
  ic : PySem.W.isClsIn K C = true
  ty : PySem.W.typeIn K (.ref C) = some (.type "type")
theorem rep_isN2 {C : Addr} {P : Bool → Prop} (h : rep ms H d x) (n : noI d = true) (c : IsN K C) (k : P false) :
    ∃ (x' c : V) (t u : Value) (b : Bool), [x, .ref C] = [x', c] ∧ ClsV c u ∧ TyX K H x' t ∧ PySem.W.kitOne K t u = some b ∧ P b := by
  obtain ⟨T, ty, nb, tx⟩ := rep_TyB (K := K) h n
  refine ⟨x, _, .type T, .ref C, false, rfl, .own C, tx, ?_, k⟩
  · unfold PySem.W.kitOne
    rw [if_neg (by simp)]
    show (if ((PySem.W.clsIn K C).isSome && PySem.W.typeIn K (.ref C) == some (.type "type")) = true then PySem.W.subIn K (.type T) (.ref C) else none) = some false
    rw [sub_ty ty nb]
    have h1 := c.ic
    unfold PySem.W.isClsIn at h1
    rw [h1, c.ty]
    simp
end
end Rx
namespace Rx
open PySem PySem.Spec PyProof.Rows L2
theorem pe_never {X : Cx} {e : Expr} : PE X e (fun _ _ _ => False) := ⟨fun _ _ _ _ _ _ h => h.elim⟩
section
variable {ms : List Addr} {ps : List PEn} {cs : List (Addr × List V)} {H0 H H' : Hp} {u : V}
theorem rep_dynL {α : Type} {e : α → D} {xs : List α} (h : rep ms H (.lst (xs.map e)) u) : rep ms H (.lst ((xs.map e).map fun y : D => y)) u := by
  rw [List.map_id']
  exact h
theorem rep_dct0 {p : Addr} (w : Wd ms ps cs H0 H) (np : H p = none) (hp : H' p = some (.dK [])) : rep ms H' (.dct [] []) (.ref p) := by
  simp only [rep]
  exact ⟨p, [], rfl, fun z => w.tr p z np, hp, rfl, repL_nil⟩
end
end Rx
namespace Rx
open PySem PySem.Spec PyProof.Rows L2
section
variable {κ : Type} [DecidableEq κ]
theorem any_zip {k : κ} : ∀ {ks : List κ} {vs : List V}, ks.length = vs.length → ((ks.zip vs).any fun kv => decide (kv.1 = k)) = decide (k ∈ ks)
  | [], [], _ => by simp
  | k0 :: ks, v :: vs, h => by
    have ih := any_zip (k := k) (ks := ks) (vs := vs) (by simpa using h)
    rw [List.zip_cons_cons, List.any_cons, ih]
    by_cases e : k0 = k
    · subst e
      simp
    · have e' : k ≠ k0 := fun z => e z.symm
      simp [e, e']
  | [], _ :: _, h => by simp at h
  | _ :: _, [], h => by simp at h
theorem putK_new {k : κ} {v : V} {ks : List κ} {vs : List V} (h : ks.length = vs.length) (n : k ∉ ks) : putK (ks.zip vs) k v = (ks ++ [k]).zip (vs ++ [v]) := by
  unfold putK
  rw [any_zip h, if_neg (by simpa using n), List.zip_append h]
  rfl
theorem putK_old {k : κ} {v : V} : ∀ {ks : List κ} {vs : List V} {j : Nat}, ks.length = vs.length → ks.Nodup → ks[j]? = some k → putK (ks.zip vs) k v = ks.zip (vs.set j v) := by
  intro ks vs j h nd hj
  have hk : k ∈ ks := List.mem_of_getElem? hj
  unfold putK
  rw [any_zip h, if_pos (by simpa using hk)]
  induction ks generalizing vs j with
  | nil => simp at hj
  | cons k0 ks ih =>
    cases vs with
    | nil => simp at h
    | cons v0 vs =>
      have nd' := List.nodup_cons.mp nd
      cases j with
      | zero =>
        have e : k0 = k := Option.some.inj hj
        subst e
        rw [List.zip_cons_cons, List.map_cons, if_pos rfl, List.set_cons_zero, List.zip_cons_cons]
        congr 1
        conv => rhs; rw [← List.map_id (ks.zip vs)]
        refine List.map_congr_left fun q hq => ?_
        rw [if_neg]
        · rfl
        · intro z
          exact nd'.1 (by rw [← z]; exact (List.of_mem_zip (show (q.1, q.2) ∈ ks.zip vs from hq)).1)
      | succ j =>
        have hj' : ks[j]? = some k := by simpa using hj
        have ne : ¬ k0 = k := fun z => nd'.1 (by rw [z]; exact List.mem_of_getElem? hj')
        rw [List.zip_cons_cons, List.map_cons, if_neg ne, List.set_cons_succ, List.zip_cons_cons]
        congr 1
        exact ih (by simpa using h) nd'.2 hj' (List.mem_of_getElem? hj')
theorem valV_zip {k : κ} : ∀ {ks : List κ} {vs : List V} {j : Nat}, ks.Nodup → ks[j]? = some k → ks.length = vs.length → valV (ks.zip vs) k = vs[j]?
  | [], _, _, _, hj, _ => by simp at hj
  | k0 :: ks, [], _, _, _, h => by simp at h
  | k0 :: ks, v :: vs, 0, _, hj, _ => by
    have e : k0 = k := Option.some.inj hj
    subst e
    simp [valV]
  | k0 :: ks, v :: vs, j + 1, nd, hj, h => by
    have nd' := List.nodup_cons.mp nd
    have hj' : ks[j]? = some k := by simpa using hj
    have ne : ¬ k0 = k := fun z => nd'.1 (by rw [z]; exact List.mem_of_getElem? hj')
    rw [List.zip_cons_cons, valV_neg (p := (k0, v)) ne, valV_zip nd'.2 hj' (by simpa using h)]
    rfl
end
theorem mergeK_nodup : ∀ {more : List (Key × V)} {acc : List (Key × V)}, ((acc ++ more).map (·.1)).Nodup → mergeK acc more = acc ++ more
  | [], acc, _ => by simp [mergeK]
  | q :: more, acc, h => by
    have n : q.1 ∉ acc.map (·.1) := by
      rw [List.map_append, List.nodup_append] at h
      exact fun z => h.2.2 q.1 z q.1 (by simp) rfl
    have e : putK acc q.1 q.2 = acc ++ [q] := by
      unfold putK
      rw [if_neg]
      intro z
      obtain ⟨w, hw, ew⟩ := List.any_eq_true.mp z
      exact n (List.mem_map.mpr ⟨w, hw, of_decide_eq_true ew⟩)
    show mergeK (putK acc q.1 q.2) more = _
    rw [e, mergeK_nodup (by rw [List.append_assoc]; exact h), List.append_assoc]
    rfl
section
variable {K : PySem.W.Frag} {ms : List Addr} {ps : List PEn} {H0 H H' H1 : Hp} {L : Addr} {d : D} {ds : List D} {u x y : V} {vs : List V} {ks : List Key} {k : Key}
theorem map_fst_zip' : ∀ {ks : List Key} {vs : List V}, ks.length = vs.length → (ks.zip vs).map (·.1) = ks
  | [], [], _ => rfl
  | k :: ks, v :: vs, h => by
    rw [List.zip_cons_cons, List.map_cons, map_fst_zip' (by simpa using h)]
  | [], _ :: _, h => by simp at h
  | _ :: _, [], h => by simp at h
theorem merge_zip (h : ks.length = vs.length) (nd : ks.Nodup) : mergeK [] (ks.zip vs) = ks.zip vs := by
  rw [mergeK_nodup (by rw [List.nil_append, map_fst_zip' h]; exact nd), List.nil_append]
/-- what a dict of one's own holds, as it is made -/
theorem mo_nilD (w : Wd ms ps [] H0 H) (nl : H L = none) : MutO (L :: ms) ps H0 (upd H L (.dK [])) L (.dct [] []) :=
  mo_newD (ks := []) (vs := []) (ds := []) w nl rfl repL_nil
theorem mo_dK0 (m : MutO ms ps H0 H L (.dct [] [])) : H L = some (.dK []) := by
  obtain ⟨vs, h1, h2, _⟩ := m.val
  rw [h1]
  simp
theorem mo_setD (m : MutO ms ps H0 H L d) (hl : ks.length = vs.length) (r : repL ms H ds vs) : MutO ms ps H0 (upd H L (.dK (ks.zip vs))) L (.dct ks ds) :=
  ⟨m.im, m.hp, m.h0, vs, upd_same, hl, repL_put m.im r⟩
/-- d[k] = v, a new key -/
theorem mo_putU {v : V} {Q : Hp → Prop} (m : MutO ms ps H0 H L (.dct ks ds)) (n : k ∉ ks) (hk : ks.length < 16777216)
    (q : ∀ vs, ks.length = vs.length → repL ms H ds vs → Q (upd H L (.dK ((ks ++ [k]).zip (vs ++ [v]))))) : rSetD (.ref L) (kV k) v H Q := by
  obtain ⟨vs, h1, h2, h3⟩ := m.val
  refine ⟨L, _, rfl, DPut.k h1 ?_, ?_⟩
  · rw [List.length_zip, ← h2, sizeLine_eq, Nat.min_self]
    exact hk
  · rw [putK_new h2 n]
    exact q vs h2 h3
/-- d[k] = v, a key that is there -/
theorem mo_putO {v : V} {Q : Hp → Prop} (j : Nat) (m : MutO ms ps H0 H L (.dct ks ds)) (nd : ks.Nodup) (hj : ks[j]? = some k) (hk : ks.length < 16777216)
    (q : ∀ vs, ks.length = (vs.set j v).length → repL ms H ds vs → Q (upd H L (.dK (ks.zip (vs.set j v))))) : rSetD (.ref L) (kV k) v H Q := by
  obtain ⟨vs, h1, h2, h3⟩ := m.val
  refine ⟨L, _, rfl, DPut.k h1 ?_, ?_⟩
  · rw [List.length_zip, ← h2, sizeLine_eq, Nat.min_self]
    exact hk
  · rw [putK_old h2 nd hj]
    exact q vs (by rw [List.length_set]; exact h2) h3
theorem repL_setD {v : V} {e : D} : ∀ {ds : List D} {vs : List V} (j : Nat), repL ms H ds vs → rep ms H e v → repL ms H (ds.set j e) (vs.set j v)
  | [], vs, j, h, r => by
    have ev := repL_empty h
    subst ev
    simpa using h
  | d :: ds, vs, 0, h, r => by
    obtain ⟨u, us, rfl, h1, h2⟩ := repL_uncons h
    exact repL_cons r h2
  | d :: ds, vs, j + 1, h, r => by
    obtain ⟨u, us, rfl, h1, h2⟩ := repL_uncons h
    exact repL_cons h1 (repL_setD j h2 r)
theorem dgetL (h1 : H L = some (.dK (ks.zip vs))) (nd : ks.Nodup) (hl : ks.length = vs.length) {j : Nat} (hj : ks[j]? = some k) {v : V} (hv : vs[j]? = some v) : DGet H L (kV k) (some v) := by
  have := DGet.k (k := k) h1
  rw [valV_zip nd hj hl, hv] at this
  exact this
/-- d[k], k a written key -/
theorem rep_dget {Q : VK} (j : Nat) (h : rep ms H (.dct ks ds) x) (nd : ks.Nodup) (hj : ks[j]? = some k) (hd : ds[j]? = some d) (q : ∀ v, rep ms H d v → Q v H) :
    ∃ a v, x = .ref a ∧ DGet H a (kV k) (some v) ∧ Q v H := by
  simp only [rep] at h
  obtain ⟨p, vs, rfl, _, hp, hl, hr⟩ := h
  obtain ⟨v, hv, rv⟩ := repL_get hr hd
  exact ⟨p, v, rfl, dgetL hp nd hl hj hv, q v rv⟩
theorem mo_dget {Q : VK} (j : Nat) (m : MutO ms ps H0 H L (.dct ks ds)) (nd : ks.Nodup) (hj : ks[j]? = some k) (hd : ds[j]? = some d) (q : ∀ v, rep ms H d v → Q v H) :
    ∃ a v, V.ref L = .ref a ∧ DGet H a (kV k) (some v) ∧ Q v H := by
  obtain ⟨vs, hp, hl, hr⟩ := m.val
  obtain ⟨v, hv, rv⟩ := repL_get hr hd
  exact ⟨L, v, rfl, dgetL hp nd hl hj hv, q v rv⟩
/-- d[k], any key: what is found -/
def getM {α : Type} (ks : List Key) (xs : List α) (k : Key) : Option α := ((ks.zip xs).find? fun q => decide (q.1 = k)).map (·.2)
theorem getM_at {α : Type} {y : α} : ∀ {ks : List Key} {xs : List α}, getM ks xs k = some y → ∃ j : Nat, ks[j]? = some k ∧ xs[j]? = some y
  | [], _, h => by simp [getM] at h
  | _ :: _, [], h => by simp [getM] at h
  | k0 :: ks, x :: xs, h => by
    by_cases e : k0 = k
    · subst e
      simp [getM] at h
      exact ⟨0, rfl, by rw [h]; rfl⟩
    · have h' : getM ks xs k = some y := by
        unfold getM at h ⊢
        rw [List.zip_cons_cons, List.find?_cons_of_neg (by simpa using e)] at h
        exact h
      obtain ⟨j, h1, h2⟩ := getM_at h'
      exact ⟨j + 1, by simpa using h1, by simpa using h2⟩
theorem rep_dgetM {α : Type} {e : α → D} {xs : List α} {y : α} {Q : VK} (h : rep ms H (.dct ks (xs.map e)) x) (nd : ks.Nodup) (hy : getM ks xs k = some y) (q : ∀ v, rep ms H (e y) v → Q v H) :
    ∃ a v, x = .ref a ∧ DGet H a (kV k) (some v) ∧ Q v H := by
  obtain ⟨j, h1, h2⟩ := getM_at hy
  exact rep_dget j h nd h1 (by rw [List.getElem?_map, h2]; rfl) q
/-- dict(list(d.items())) -/
theorem rep_items {Q : VK} (w : Wd ms ps [] H0 H) (h : rep ms H (.dct ks ds) x)
    (q : ∀ (H' : Hp) (p : Addr), Ret [] H H' → (∀ (r : List V → Hp → Prop), (∀ vs, ks.length = vs.length → repL ms H' ds vs → (∃ ps, SqL K H' p (ps.map V.ref) ∧ Paired (fun p kv => SqT K H' p [kV kv.1, kv.2]) ps (ks.zip vs)) → r vs H') → ∃ vs, ks.length = vs.length ∧ repL ms H' ds vs ∧ r vs H') → Q (.ref p) H') :
    ∃ (d : Addr) (kvs : List (Key × V)), x = .ref d ∧ H d = some (.dK kvs) ∧ ∀ (H' : Hp) (p : Addr) (ts : List Addr), (∀ b o, H b = some o → H' b = some o) → H p = none → (∀ t ∈ ts, H t = none) → p ∉ ts → H' p = some (.lst (ts.map V.ref)) → Paired (fun (t : Addr) (q : Key × V) => H' t = some (.tup [kV q.1, q.2])) ts kvs → Q (.ref p) H' := by
  simp only [rep] at h
  obtain ⟨d, vs, rfl, _, hp, hl, hr⟩ := h
  refine ⟨d, _, rfl, hp, fun H' p ts keep np nts pt hl' hpd => ?_⟩
  have e : Ret [] H H' := ⟨fun a o _ z => keep a o z, fun _ z => absurd z List.not_mem_nil, fun a z => by
    cases c : H a with
    | none => exact absurd c z
    | some o => rw [keep a o c]; exact fun z => nomatch z⟩
  refine q H' p e fun r hr' => ⟨vs, hl, repL_ext e hr, hr' vs hl (repL_ext e hr) ⟨ts, .inl (.inl hl'), ?_⟩⟩
  clear hr' hl' q hp
  generalize ks.zip vs = kvs at hpd
  induction hpd with
  | nil => exact .nil
  | cons a _ ih => exact .cons (.inl (.inl a)) (ih (fun t z => nts t (List.mem_cons_of_mem _ z)) fun z => pt (List.mem_cons_of_mem _ z))
end
end Rx
namespace Rx
open PySem PySem.Spec PyProof.Rows L2
section
variable {X : Cx} {K : PySem.W.Frag}
theorem call_dictPK (hK : X.K = K) (hcalm : X.calm = true) : CallR X (.type "dict") (fun xs H Q => ∃ (a : Addr) (ps : List Addr) (kvs : List (Key × V)), xs = [.ref a] ∧ SqL K H a (ps.map V.ref) ∧ Paired (fun p kv => SqT K H p [kV kv.1, kv.2]) ps kvs ∧
    ∀ p, H p = none → Q (.ref p) (upd H p (.dK (mergeK [] kvs)))) := by
  subst hK
  exact call_dictP hcalm
end
end Rx
namespace Rx
theorem nin_of {α : Type} {ks : List α} {k : α} (h : (ks ++ [k]).Nodup) : k ∉ ks := fun z => by
  rw [List.nodup_append] at h
  exact h.2.2 k z k (by simp) rfl
end Rx
namespace Rx
open PySem PySem.Spec PyProof.Rows L2
/-! a new instance, while its __init__ runs -/
section
variable {ms : List Addr} {ps : List PEn} {H0 H H' He : Hp} {p L C dx : Addr} {d : D} {u : V} {fs : List (Str × V)} {o : HO}
structure KpI (p : Addr) (He H : Hp) : Prop where
  kp : ∀ a o, a ≠ p → He a = some o → H a = some o
  gr : ∀ a, He a ≠ none → H a ≠ none
theorem ki_refl : KpI p H H := ⟨fun _ _ _ h => h, fun _ h => h⟩
theorem ki_wd (k : KpI p He H0) (w : Wd ms [] [] H0 H) : KpI p He H := ⟨fun a o n h => w.kp a o (by simp) (k.kp a o n h), fun a h => w.grow a (k.gr a h)⟩
theorem ki_put (k : KpI p He H0) (w : Wd ms [] [] H0 H) : KpI p He (upd H p o) := ⟨fun a o' n h => by
  rw [upd_ne n]
  exact (ki_wd k w).kp a o' n h, fun a h => by
  by_cases e : a = p
  · rw [e, upd_same]
    exact fun z => nomatch z
  · rw [upd_ne e]
    exact (ki_wd k w).gr a h⟩
theorem wd_at (w : Wd ms [] [] H0 H) : Wd ms [] [] (upd H p o) (upd H p o) := ⟨fun _ _ _ h => h, fun _ h => h, fun m h => by
  by_cases e : m = p
  · rw [e, upd_same]
    exact fun z => nomatch z
  · rw [upd_ne e]
    exact w.tr m h, fun _ h => absurd h List.not_mem_nil, fun _ h => absurd h List.not_mem_nil, fun _ h => absurd h List.not_mem_nil⟩
theorem at_put (hp : H p = some (.ins C dx fs)) (m : MutO ms ps H0 H L d) : upd H L o p = some (.ins C dx fs) := by
  rw [upd_ne (fun z => ?_)]
  · exact hp
  · have h := m.isMo
    rw [← z, hp] at h
    exact h
theorem putF_zip {f : Str} {v : V} : ∀ {ns : List Str} {us : List V}, ns.length = us.length → f ∉ ns → putF f v (ns.zip us) = (ns ++ [f]).zip (us ++ [v])
  | [], [], _, _ => by simp [putF]
  | [], _ :: _, h, _ => by simp at h
  | _ :: _, [], h, _ => by simp at h
  | n :: ns, u :: us, h, nn => by
    have e : ¬ n = f := fun z => nn (by rw [z]; exact List.mem_cons_self)
    have ih := putF_zip (f := f) (v := v) (ns := ns) (us := us) (by simpa using h) fun z => nn (List.mem_cons_of_mem _ z)
    simp only [List.zip_cons_cons, List.cons_append]
    unfold putF
    rw [if_neg e, ih]
theorem mem_new (nl : H p = none) (h : rep ms H d u) (ndx : H dx = none) {o1 o2 : HO} : rep (p :: ms) (upd (upd H dx o1) p o2) d u :=
  rep_map (fun a o n hp => ⟨fun z => by
    rcases List.mem_cons.mp z with z | z
    · exact ne_of_none hp nl z
    · exact n z, by rw [upd_ne (ne_of_none hp nl), upd_ne (ne_of_none hp ndx)]; exact hp⟩) d u h
theorem wd_new (w : Wd ms ps cs H0 H) (nl : H p = none) (ndx : H dx = none) {o1 o2 : HO} : Wd (p :: ms) [] [] (upd (upd H dx o1) p o2) (upd (upd H dx o1) p o2) := ⟨fun _ _ _ h => h, fun _ h => h, fun m h => by
  by_cases e : m = p
  · rw [e, upd_same]
    exact fun z => nomatch z
  · rw [upd_ne e]
    by_cases e2 : m = dx
    · rw [e2, upd_same]
      exact fun z => nomatch z
    · rw [upd_ne e2]
      exact w.tr m ((List.mem_cons.mp h).elim (fun z => absurd z e) id), fun _ h => absurd h List.not_mem_nil, fun _ h => absurd h List.not_mem_nil, fun _ h => absurd h List.not_mem_nil⟩
theorem ext_new (k : KpI p (upd (upd H dx o1) p o2) H') (nl : H p = none) (ndx : H dx = none) : Ret [] H H' := ⟨fun a o _ h => k.kp a o (ne_of_none h nl) (by rw [upd_ne (ne_of_none h nl), upd_ne (ne_of_none h ndx)]; exact h), fun _ z => absurd z List.not_mem_nil, fun a h => k.gr a (by
  by_cases e : a = p
  · rw [e, upd_same]
    exact fun z => nomatch z
  · rw [upd_ne e]
    by_cases e2 : a = dx
    · rw [e2, upd_same]
      exact fun z => nomatch z
    · rw [upd_ne e2]
      exact h)⟩
theorem rep_insW (w : Wd ms ps cs H0 H) (np : H p = none) {ns : List Str} {us : List V} {ds : List D} (hp : H' p = some (.ins C dx (ns.zip us))) (hl : ns.length = us.length) (hr : repL (p :: ms) H' ds us) : rep ms H' (.ins C ns ds) (.ref p) := by
  simp only [rep]
  exact ⟨p, dx, us, rfl, fun z => w.tr p z np, hp, hl, repL_weak hr⟩
end
end Rx
namespace Rx
open PySem PySem.Spec PyProof.Rows L2
section
variable {K : PySem.W.Frag} {x qual : Str} {params : Arguments} {body : List Stmt} {scope : Scope} {dvs : List V} {f : Addr} {fd : FuncData} {ps : List Str}
/-- a def with defaults, called with all its arguments -/
theorem FunD_b0 (F : FunD K x qual params body scope dvs [] f fd) (hd : dvs ≠ [])
    (h : ∀ (T : Addr) (kV doc pm : Value) (an : Option Addr) (cdv ct : Value) (us its : List Value), us.length = ps.length → its.length = dvs.length →
      ∃ k, bindArgs (PySem.W.fnOf x qual params body scope (.ref T) kV doc pm an cdv ct) ⟨us, []⟩ = seqItems? (.ref T) >>= k ∧ k (some its.toArray) = pure (ps.zip us)) : Binds K fd ps [] := by
  obtain ⟨ds, rd, hb⟩ := F.binds1 (ps := ps) ps.length dvs.length hd (by omega) fun T kV doc pm an cdv ct us its h1 h2 => by
    obtain ⟨k, e1, e2⟩ := h T kV doc pm an cdv ct us its h1 h2
    refine ⟨k, e1, ?_⟩
    rw [e2, List.drop_of_length_le (by omega), List.append_nil]
  rw [List.drop_length] at rd
  cases rd
  exact hb
end
end Rx
namespace Rx
open PySem PySem.Spec PyProof.Rows L2
/-! x in a written dict, x there -/
def rInW (K : PySem.W.Frag) (w : World) (d : Addr) (b : Bool) : R2 := fun x y H Q => ∃ (z c : Str), x = .str z ∧ y = .ref d ∧ KDct K w d z (.str c) ∧ Q (.bl b) H
section
variable {X : Cx} {K : PySem.W.Frag} {w : World} {d : Addr}
theorem op_inW (hK : X.K = K) (hw : X.w = w) (low : (d == sysModules) = false) : OpR X (compareOp .In) (rInW K w d true) := by
  subst hK hw
  intro pins s σ H x y v u Q I rx ry h
  obtain ⟨z, c, rfl, rfl, ⟨es, n, u0, at_, lit, ns, ru⟩, q⟩ := h
  exact op_in_kd ⟨at_, lit, low⟩ pins s σ H _ _ v u Q I rx ry ⟨z, some u0, rfl, rfl, ns, q⟩
theorem op_ninW (hK : X.K = K) (hw : X.w = w) (low : (d == sysModules) = false) : OpR X (compareOp .NotIn) (rInW K w d false) := by
  subst hK hw
  intro pins s σ H x y v u Q I rx ry h
  obtain ⟨z, c, rfl, rfl, ⟨es, n, u0, at_, lit, ns, ru⟩, q⟩ := h
  exact op_notIn_kd ⟨at_, lit, low⟩ pins s σ H _ _ v u Q I rx ry ⟨z, some u0, rfl, rfl, ns, q⟩
theorem rep_inW {l : List (Str × Str)} {z c : Str} {b : Bool} {H : Hp} {σ : L2.St} {Q : VK} (t : ∀ z c : Str, l.lookup z = some c → KDct K w d z (.str c)) (h : l.lookup z = some c) (q : Q (.bl b) H) : tC (V.ref d) σ H fun y H2 => rInW K w d b (.str z) y H2 Q := ⟨z, c, rfl, rfl, t z c h, q⟩
end
end Rx
namespace Rx
open PySem PySem.Spec PyProof.Rows L2
/-! ranges with a step -/
def rangeS (lo hi c : Int) : List Int := (List.range (if lo < hi then (hi - lo - 1) / c + 1 else 0).toNat).map fun i => lo + ((i : Nat) : Int) * c
def RgB (lo hi : Int) : Prop := -(2 ^ 60) ≤ lo ∧ lo < 2 ^ 60 ∧ -(2 ^ 60) ≤ hi ∧ hi < 2 ^ 60
theorem rangeS_len {lo hi c : Int} : (rangeS lo hi c).length = (if lo < hi then (hi - lo - 1) / c + 1 else 0).toNat := by simp [rangeS]
theorem rangeS_get {lo hi c : Int} {i : Nat} (h : i < (rangeS lo hi c).length) : (rangeS lo hi c)[i]? = some (lo + (i : Int) * c) := by
  rw [rangeS_len] at h
  simp [rangeS, List.getElem?_map, List.getElem?_range h]
theorem rgS_size {lo hi c : Int} (hc : 0 < c) : Builtin.Range.rangeSize lo hi c = ((rangeS lo hi c).length : Int) := by
  rw [rangeS_len]
  unfold Builtin.Range.rangeSize
  rw [if_pos hc]
  split
  · have := Int.ediv_nonneg (a := hi - lo - 1) (b := c) (by omega) (by omega)
    omega
  · rfl
theorem rgS_small {lo hi c : Int} (hc : 0 < c) (hc2 : c < 2 ^ 30) (hb : RgB lo hi) : Builtin.Range.small lo hi c = true := by
  obtain ⟨h1, h2, h3, h4⟩ := hb
  have e : Builtin.Range.rangeSize lo hi c ≤ 2 ^ 61 ∧ 0 ≤ Builtin.Range.rangeSize lo hi c := by
    unfold Builtin.Range.rangeSize
    rw [if_pos hc]
    split
    · have a := Int.ediv_nonneg (a := hi - lo - 1) (b := c) (by omega) (by omega)
      have b := Int.ediv_le_self (a := hi - lo - 1) c (by omega)
      omega
    · omega
  unfold Builtin.Range.small
  have f : ∀ z : Int, -(2 ^ 62) ≤ z → z < 2 ^ 62 → Builtin.Range.rangeFitsLong z = true := by
    intro z a b
    unfold Builtin.Range.rangeFitsLong
    simp only [Bool.and_eq_true, decide_eq_true_eq]
    omega
  rw [f lo (by omega) (by omega), f hi (by omega) (by omega), f c (by omega) (by omega), f _ (by omega) (by omega), if_pos hc, f (hi + (c - 1)) (by omega) (by omega)]
  simp
theorem rgC_of {lo hi c : Int} (hc : 0 < c) (hc2 : c < 2 ^ 30) (hb : RgB lo hi) : RgC lo hi c (rangeS lo hi c).length :=
  ⟨by omega, by omega, rgS_small hc hc2 hb, rgS_size hc⟩
section
variable {α β : Type} {K : PySem.W.Frag} {H1 H2 : Hp} {g : TG} {tt : TT} {te : TE} {vl : List Nat} {σ : L2.St} {Qd : Hp → Prop} {L : Addr}
theorem lc_rangeTG {lo hi c : Int} {body : Int → (β → Prop) → Prop} {KM : List β → Prop} (SI : Nat → List β → Hp → Prop) (hM : (rangeS lo hi c).length < 100000 ∧ mapC body (rangeS lo hi c) [] KM) (h0 : SI 0 [] (upd H1 L (.lst [])))
    (hs : ∀ (x : Int) (n : Nat) (ys : List β) (k : β → Prop) (H : Hp), n < 100000 → SI n ys H → body x k → ∀ Nx : Hp → Prop, (∀ y H', k y → SI (n + 1) (ys ++ [y]) H' → Nx H') → Turn g tt te vl σ L (.int x) H Nx)
    (hd : ∀ n ys H, KM ys → SI n ys H → Qd H) :
    ∃ W : Nat → Nat → Hp → Prop, (∃ m, W 0 m (upd H1 L (.lst []))) ∧ ∀ i m H, W i m H →
      ((Itc lo c (rangeS lo hi c).length).stop i H ∧ Qd H) ∨ ((Itc lo c (rangeS lo hi c).length).go i H ∧ ∃ Nx : Hp → Prop, (∀ H', Nx H' → ∃ m', m' < m ∧ W (i + 1) m' H') ∧ ∀ x H', (Itc lo c (rangeS lo hi c).length).yld i H x H' → g x (wipe σ vl) H' fun σ2 H2 => wipe σ2 vl = wipe σ vl ∧ tt σ2 H2 fun b H3 =>
        if b = true then te σ2 H3 fun y H4 => ∃ acc, H4 L = some (.lst acc) ∧ acc.length < sizeLine ∧ Nx (upd H4 L (.lst (acc ++ [y]))) else Nx H3) := by
  obtain ⟨hn, hM⟩ := hM
  refine ⟨fun i m H => m = (rangeS lo hi c).length - i ∧ i ≤ (rangeS lo hi c).length ∧ ∃ ys, SI i ys H ∧ mapC body ((rangeS lo hi c).drop i) ys KM, ⟨_, rfl, Nat.zero_le _, [], h0, hM⟩, ?_⟩
  rintro i m H ⟨rfl, hi', ys, T, q⟩
  by_cases hlt : i < (rangeS lo hi c).length
  · refine .inr ⟨hlt, fun H' => i + 1 ≤ (rangeS lo hi c).length ∧ ∃ ys, SI (i + 1) ys H' ∧ mapC body ((rangeS lo hi c).drop (i + 1)) ys KM, fun H' p' => ⟨_, by omega, rfl, p'⟩, fun x H' y => ?_⟩
    obtain ⟨e, y⟩ := y
    subst e y
    rw [drop_cons' (rangeS_get hlt)] at q
    exact hs _ i ys _ H' (by omega) T q _ fun y H' k T' => ⟨hlt, _, T', k⟩
  · have e : i = (rangeS lo hi c).length := by omega
    refine .inl ⟨by rw [e]; exact Nat.le_refl _, ?_⟩
    rw [List.drop_of_length_le (by omega)] at q
    exact hd _ ys H q T
theorem lf_rangeTG {lo hi c : Int} {body : Int → (Option β → Prop) → Prop} {KM : List β → Prop} (SI : Nat → List β → Hp → Prop) (hM : (rangeS lo hi c).length < 100000 ∧ filC body (rangeS lo hi c) [] KM) (h0 : SI 0 [] (upd H1 L (.lst [])))
    (hs : ∀ (x : Int) (n : Nat) (ys : List β) (k : Option β → Prop) (H : Hp), n < 100000 → SI n ys H → body x k → ∀ Nx : Hp → Prop, (∀ y H', k (some y) → SI (n + 1) (ys ++ [y]) H' → Nx H') → (∀ H', k none → SI (n + 1) ys H' → Nx H') → Turn g tt te vl σ L (.int x) H Nx)
    (hd : ∀ n ys H, KM ys → SI n ys H → Qd H) :
    ∃ W : Nat → Nat → Hp → Prop, (∃ m, W 0 m (upd H1 L (.lst []))) ∧ ∀ i m H, W i m H →
      ((Itc lo c (rangeS lo hi c).length).stop i H ∧ Qd H) ∨ ((Itc lo c (rangeS lo hi c).length).go i H ∧ ∃ Nx : Hp → Prop, (∀ H', Nx H' → ∃ m', m' < m ∧ W (i + 1) m' H') ∧ ∀ x H', (Itc lo c (rangeS lo hi c).length).yld i H x H' → g x (wipe σ vl) H' fun σ2 H2 => wipe σ2 vl = wipe σ vl ∧ tt σ2 H2 fun b H3 =>
        if b = true then te σ2 H3 fun y H4 => ∃ acc, H4 L = some (.lst acc) ∧ acc.length < sizeLine ∧ Nx (upd H4 L (.lst (acc ++ [y]))) else Nx H3) := by
  obtain ⟨hn, hM⟩ := hM
  refine ⟨fun i m H => m = (rangeS lo hi c).length - i ∧ i ≤ (rangeS lo hi c).length ∧ ∃ ys, SI i ys H ∧ filC body ((rangeS lo hi c).drop i) ys KM, ⟨_, rfl, Nat.zero_le _, [], h0, hM⟩, ?_⟩
  rintro i m H ⟨rfl, hi', ys, T, q⟩
  by_cases hlt : i < (rangeS lo hi c).length
  · refine .inr ⟨hlt, fun H' => i + 1 ≤ (rangeS lo hi c).length ∧ ∃ ys, SI (i + 1) ys H' ∧ filC body ((rangeS lo hi c).drop (i + 1)) ys KM, fun H' p' => ⟨_, by omega, rfl, p'⟩, fun x H' y => ?_⟩
    obtain ⟨e, y⟩ := y
    subst e y
    rw [drop_cons' (rangeS_get hlt)] at q
    exact hs _ i ys _ H' (by omega) T q _ (fun y H' k T' => ⟨hlt, _, T', k⟩) fun H' k T' => ⟨hlt, _, T', k⟩
  · have e : i = (rangeS lo hi c).length := by omega
    refine .inl ⟨by rw [e]; exact Nat.le_refl _, ?_⟩
    rw [List.drop_of_length_le (by omega)] at q
    exact hd _ ys H q T
theorem lc_rangeTS {lo hi c : Int} {body : Int → S → (β → S → Prop) → Prop} {KM : List β → S → Prop} (SI : Nat → List β → S → Hp → Prop) (s0 : S) (hM : (rangeS lo hi c).length < 100000 ∧ mapS body (rangeS lo hi c) [] s0 KM) (h0 : SI 0 [] s0 (upd H1 L (.lst [])))
    (hs : ∀ (x : Int) (n : Nat) (ys : List β) (s : S) (k : β → S → Prop) (H : Hp), n < 100000 → SI n ys s H → body x s k → ∀ Nx : Hp → Prop, (∀ y s' H', k y s' → SI (n + 1) (ys ++ [y]) s' H' → Nx H') → Turn g tt te vl σ L (.int x) H Nx)
    (hd : ∀ n ys s H, KM ys s → SI n ys s H → Qd H) :
    ∃ W : Nat → Nat → Hp → Prop, (∃ m, W 0 m (upd H1 L (.lst []))) ∧ ∀ i m H, W i m H →
      ((Itc lo c (rangeS lo hi c).length).stop i H ∧ Qd H) ∨ ((Itc lo c (rangeS lo hi c).length).go i H ∧ ∃ Nx : Hp → Prop, (∀ H', Nx H' → ∃ m', m' < m ∧ W (i + 1) m' H') ∧ ∀ x H', (Itc lo c (rangeS lo hi c).length).yld i H x H' → g x (wipe σ vl) H' fun σ2 H2 => wipe σ2 vl = wipe σ vl ∧ tt σ2 H2 fun b H3 =>
        if b = true then te σ2 H3 fun y H4 => ∃ acc, H4 L = some (.lst acc) ∧ acc.length < sizeLine ∧ Nx (upd H4 L (.lst (acc ++ [y]))) else Nx H3) := by
  obtain ⟨hn, hM⟩ := hM
  refine ⟨fun i m H => m = (rangeS lo hi c).length - i ∧ i ≤ (rangeS lo hi c).length ∧ ∃ ys s, SI i ys s H ∧ mapS body ((rangeS lo hi c).drop i) ys s KM, ⟨_, rfl, Nat.zero_le _, [], s0, h0, hM⟩, ?_⟩
  rintro i m H ⟨rfl, hi', ys, s, T, q⟩
  by_cases hlt : i < (rangeS lo hi c).length
  · refine .inr ⟨hlt, fun H' => i + 1 ≤ (rangeS lo hi c).length ∧ ∃ ys s, SI (i + 1) ys s H' ∧ mapS body ((rangeS lo hi c).drop (i + 1)) ys s KM, fun H' p' => ⟨_, by omega, rfl, p'⟩, fun x H' y => ?_⟩
    obtain ⟨e, y⟩ := y
    subst e y
    rw [drop_cons' (rangeS_get hlt)] at q
    exact hs _ i ys s _ H' (by omega) T q _ fun y s' H' k T' => ⟨hlt, _, _, T', k⟩
  · have e : i = (rangeS lo hi c).length := by omega
    refine .inl ⟨by rw [e]; exact Nat.le_refl _, ?_⟩
    rw [List.drop_of_length_le (by omega)] at q
    exact hd _ ys s H q T
end
section
variable {α S : Type} {K : PySem.W.Frag} {H1 : Hp} {g : TG} {tb : TS} {D' : Ends} {σ : L2.St}
theorem for_rangeTG {lo hi c : Int} {body : Int → S → (S → Prop) → Prop} {KM : S → Prop} (SI : S → L2.St → Hp → Prop) (s0 : S) (hM : forC body (rangeS lo hi c) s0 KM) (h0 : SI s0 σ H1)
    (hs : ∀ (x : Int) (s : S) (k : S → Prop) (σ : L2.St) (H : Hp), SI s σ H → body x s k → ∀ Nx : L2.St → Hp → Prop, (∀ s' σ' H', k s' → SI s' σ' H' → Nx σ' H') →
      g (.int x) σ H fun σ2 H2 => tb { D' with nx := Nx, ct := Nx, bk := D'.nx } σ2 H2)
    (hd : ∀ s σ H, KM s → SI s σ H → D'.nx σ H) :
    ∃ W : Nat → Nat → L2.St → Hp → Prop, (∃ m, W 0 m σ H1) ∧ ∀ i m σ H, W i m σ H →
      ((Itc lo c (rangeS lo hi c).length).stop i H ∧ D'.nx σ H) ∨ ((Itc lo c (rangeS lo hi c).length).go i H ∧ ∃ Nx : L2.St → Hp → Prop, (∀ σ' H', Nx σ' H' → ∃ m', m' < m ∧ W (i + 1) m' σ' H') ∧ ∀ x H', (Itc lo c (rangeS lo hi c).length).yld i H x H' → g x σ H' fun σ2 H2 => tb { D' with nx := Nx, ct := Nx, bk := D'.nx } σ2 H2) := by
  refine L2.for_rangeC (lo := lo) (c := c) (n := (rangeS lo hi c).length) (D := D') (fun i σ H => ∃ s, SI s σ H ∧ forC body ((rangeS lo hi c).drop i) s KM) ⟨s0, h0, hM⟩ (fun i σ H hi' ⟨s, si, q⟩ => ?_) (fun σ H ⟨s, si, q⟩ => ?_)
  · rw [drop_cons' (rangeS_get hi')] at q
    exact hs _ s _ σ H si q _ fun s' σ' H' hk si2 => ⟨s', si2, hk⟩
  · rw [List.drop_of_length_le (Nat.le_refl _)] at q
    exact hd s σ H q si
end
theorem paired_at {ys : List V} {l : List Value} (hl : ys.length = l.length) (h : ∀ (i : Nat) (v : V) (u : Value), ys[i]? = some v → l[i]? = some u → L2.RelV v u) : Vals ys l := by
  induction ys generalizing l with
  | nil =>
    cases l with
    | nil => exact .nil
    | cons _ _ => cases hl
  | cons y ys ih =>
    cases l with
    | nil => cases hl
    | cons u l => exact .cons (h 0 y u rfl rfl) (ih (Nat.succ.inj hl) fun i v u a b => h (i + 1) v u a b)
section
variable {X : L2.Cx} {a b c e : PySem.Expr} {ta : TA}
/-- list(range(a, b, c)) -/
def tLstRg3 (ta : TA) : TE := fun σ H Q => ta σ H fun vs H1 => ∃ i j c : Int, vs = [.int i, .int j, .int c] ∧ (0 < c ∧ c < 2 ^ 30) ∧ RgB i j ∧ (rangeS i j c).length ≤ 2 ^ 24 ∧ ∀ q, H1 q = none → Q (.ref q) (upd H1 q (.lst ((rangeS i j c).map V.int)))
theorem pe_listRg3 {p pos p' pos' : Pos} (hc : X.calm = true) (hl : Gl X "list") (hlm : X.mg "list" = none) (hg : Gl X "range") (hm : X.mg "range" = none) (ha : PA X [a, b, c] ta)
    (hs : starEach [a, b, c] X.env = [(false, eval a X.env), (false, eval b X.env), (false, eval c X.env)] := by rfl) (hs2 : starEach [b, c] X.env = [(false, eval b X.env), (false, eval c X.env)] := by rfl) :
    PE X (.Call (.Name "list" p) [.Call (.Name "range" p') [a, b, c] [] pos'] [] pos) (tLstRg3 ta) := by
  refine ⟨fun pins s σ H Q I h => ?_⟩
  refine Call_ (ld_blt I hl hlm boot_list (PyProof.Rows.callWith_type1 (e := .Call (.Name "range" p') [a, b, c] [] pos') (rest := []) (PyProof.Rows.args_cons (Call_ (ld_blt I hg hm boot_range (PyProof.Rows.callWith_type1 (thn (ha.run pos' pins s σ H _ I h) fun us s1 ⟨vs, H1, I1, r1, q1⟩ => ?_) (by rw [hs, hs2]) (by rw [hs2]; rfl)))) rfl) rfl rfl))
  obtain ⟨i, j, c, e, ⟨c0, c1⟩, hb, hn, q⟩ := q1
  subst e
  cases r1 with
  | cons r rr =>
  cases rr with
  | cons r' rr =>
  cases rr with
  | cons r'' rr =>
  cases rr
  obtain ⟨t, rfl⟩ := r
  obtain ⟨t', rfl⟩ := r'
  obtain ⟨t'', rfl⟩ := r''
  refine call_range_3 (by omega) (PyProof.Rows.args_nil ?_) (.inl ?_)
  · have I2 : L2.Inv X pins σ H1 { heap := s1.heap.push { cls := .type "range", data := .fields #[.int i t, .int j t', .int c t''] }, gens := s1.gens, drawn := s1.drawn, toks := s1.toks, os := s1.os } := I1.kept fun b o e => Heap.get?_push_of_some _ e
    refine call_list_range (I2.ok.hd hc) (IsRange.new _ i j c t t' t'') (rgS_small c0 c1 hb) (rgS_size c0) hn fun h' tk acc' c' hk hob hit => ?_
    obtain ⟨hi1, hi2⟩ := hit
    refine ⟨.ref _, _, I2.laid (a := _) (o := .lst ((rangeS i j c).map V.int)) (t' := tk) hk (Nat.le_refl _) ?_, rfl, q _ I2.fresh⟩
    refine ⟨by rw [List.length_map, sizeLine_eq]; omega, acc'.toList, c', paired_at (by rw [List.length_map]; exact hi1.symm) fun k v u hv hu => ?_, hob⟩
    rw [List.getElem?_map] at hv
    have lt : k < (rangeS i j c).length := by
      rcases Nat.lt_or_ge k (rangeS i j c).length with h | h
      · exact h
      · rw [List.getElem?_eq_none h] at hv
        cases hv
    rw [rangeS_get lt] at hv
    cases hv
    obtain ⟨tt, e⟩ := hi2 k u (by simpa using hu)
    exact ⟨tt, e⟩
  · unfold Builtin.divisionGoesByPylong
    have e : c.natAbs.log2 < 30 := (Nat.log2_lt (by omega)).mpr (by omega)
    have d : (if (c == 0) = true then 0 else c.natAbs.log2 / 30 + 1) ≤ 1 := by
      split
      · omega
      · omega
    simp only [Bool.and_eq_false_iff, decide_eq_false_iff_not]
    exact .inl (by omega)
end
/-! text[::-1] -/
def revS (z : Str) : Str := ⟨z.cps.reverse⟩
theorem revS_len (z : Str) : (revS z).length = z.length := by
  show (z.cps.reverse).size = z.cps.size
  exact Array.size_reverse
theorem revS_eq (z : Str) (u : Tok) : Txt.sliceBy z none none (-1, u) = revS z := by
  have h := step_rev_list z u
  have e : (Txt.sliceBy z none none (-1, u)).cps = (revS z).cps := by
    apply Array.toList_inj.mp
    rw [h]
    show _ = (z.cps.reverse).toList
    rw [Array.toList_reverse]
    apply List.ext_getElem?
    intro i
    rw [List.getElem?_map]
    by_cases c : i < z.length
    · rw [List.getElem?_range c, List.getElem?_reverse (by exact c)]
      show some (z.cps.getD (z.length - 1 - i) 0) = z.cps.toList[z.length - 1 - i]?
      rw [Array.getD_eq_getD_getElem?, ← Array.getElem?_toList, List.getElem?_eq_getElem (show z.length - 1 - i < z.cps.toList.length from (by have : z.cps.toList.length = z.length := rfl; omega))]
      rfl
    · rw [List.getElem?_eq_none (by simpa using c), List.getElem?_eq_none (by rw [List.length_reverse]; exact Nat.le_of_not_lt c)]
      rfl
  cases hx : Txt.sliceBy z none none (-1, u) with
  | mk c =>
    rw [hx] at e
    show Str.mk c = Str.mk _
    rw [show c = _ from e]
    rfl
section
variable {X : L2.Cx} {e : PySem.Expr} {te : TE}
def tRevS (te : TE) : TE := fun σ H Q => te σ H fun x H1 => ∃ z : Str, x = .str z ∧ z.length ≤ sizeLine ∧ Q (.str (revS z)) H1
theorem pe_revS {e : PySem.Expr} {k : Nat} {p1 p2 p3 pos : Pos} (h : PE X e te)  (hl : ∀ o r : Value, letTemporaryGo e o r = pure () := by intros; rfl) :
    PE X (.Subscript e (.Slice none none (some (.UnaryOp .USub (.Constant (.int 1) k p1) p2)) p3) pos) (tRevS te) := by
  refine ⟨fun pins s σ H Q I q => ?_⟩
  have hn : PE X (.UnaryOp .USub (.Constant (.int 1) k p1) p2) (tC (.int (-1))) := ⟨fun pins s σ H Q I q => (pe_un un_neg pe_int).run pins s σ H Q I ⟨1, rfl, q⟩⟩
  refine wpAny_Subscript_Slice_step (T := "str") (id := "str.__getitem__") (by rfl) (thn (h.run pins s σ H _ I q) fun v s1 ⟨x, H1, I1, r1, q1⟩ => ?_) hl
  obtain ⟨z, e, hz, q1⟩ := q1
  subst e
  obtain ⟨t, rfl⟩ := r1
  refine wpAny_Slice (evalPart_none_step (evalPart_none_step (wpAny_evalPart_some (thn (hn.run pins s1 σ H1 (fun y H2 => y = .int (-1) ∧ H2 = H1) I1 ⟨rfl, rfl⟩) fun v s2 ⟨y, H2, I2, r2, q2⟩ => ?_))))
  obtain ⟨e1, e2⟩ := q2
  subst e1 e2
  obtain ⟨t2, rfl⟩ := r2
  refine ⟨rfl, wpAny_getItem_str_slice (l := none) (u := none) (st := some (-1, t2)) ⟨_, Heap.get?_push_size _ rfl, rfl, rfl⟩ (by rfl) ?_⟩
  have e : sliceMade z t none none (some (-1, t2)) = .str (revS z) := by
    rw [← revS_eq z t2]
    rfl
  rw [e]
  unfold Made.post
  exact ⟨by rw [revS_len]; exact hz, .str (revS z), _, I2.kept fun b o e => Heap.get?_push_of_some _ e, ⟨_, rfl⟩, q1⟩
end
theorem repL_intsM {ms : List Addr} {H : Hp} {xs : List Int} : repL ms H (xs.map fun y_ : Int => D.v (V.int y_)) (xs.map V.int) := by
  have e1 : xs.map (fun y_ : Int => D.v (V.int y_)) = (xs.map V.int).map D.v := by
    rw [List.map_map]
    rfl
  rw [e1]
  exact repL_flat.mpr rfl
/-! results that may be None, of plain values -/
def optV {α : Type} (f : α → V) : Option α → V
  | none => .non
  | some y => f y
theorem rep_oV {α : Type} {f : α → V} {ms : List Addr} {H : Hp} {m : Option α} : rep ms H (encO (fun y_ : α => D.v (f y_)) m) (optV f m) := by
  cases m <;> exact rep_v
theorem rep_optV {α : Type} {f : α → V} {ms : List Addr} {H : Hp} {m : Option α} {u : V} (h : rep ms H (encO (fun y_ : α => D.v (f y_)) m) u) : u = optV f m := by
  cases m <;> exact of_v h
theorem optV_isN {α : Type} {f : α → V} {m : Option α} (he : ∀ y, f y ≠ .non) : decide (optV f m = .non) = m.isNone := by
  cases m with
  | none => rfl
  | some y => exact decide_eq_false (he y)
theorem optV_isSome {α : Type} {f : α → V} {m : Option α} (he : ∀ y, f y ≠ .non) : (!decide (optV f m = .non)) = m.isSome := by
  rw [optV_isN he]
  cases m <;> rfl
theorem optV_some {α : Type} {f : α → V} {m : Option α} {y : α} (h : m = some y) : optV f m = f y := by rw [h]; rfl
theorem scal_oo {a b : Option Int} : scal (optV V.int a) (optV V.int b) = true := by
  cases a <;> cases b <;> rfl
theorem scal_oi {a : Option Int} {b : Int} : scal (optV V.int a) (V.int b) = true := by
  cases a <;> rfl
theorem scal_io {a : Int} {b : Option Int} : scal (V.int a) (optV V.int b) = true := by
  cases b <;> rfl
theorem scal_on {a : Option Int} : scal (optV V.int a) V.non = true := by
  cases a <;> rfl
/-! x in a list or tuple of plain values -/
section
variable {X : L2.Cx} {K : PySem.W.Frag} {ms : List Addr} {H : Hp} {u x : V}
theorem op_inSK (hK : X.K = K) : OpR X (compareOp .In) (rIn K false) := by
  subst hK
  exact op_in_seq
theorem op_ninSK (hK : X.K = K) : OpR X (compareOp .NotIn) (rIn K true) := by
  subst hK
  exact op_notIn_seq
theorem inQ_all {α : Type} {f : α → V} {xs : List α} (fs : ∀ y, flatV (f y) = true) : (xs.map f).all flatV = true := by
  rw [List.all_map]
  exact List.all_eq_true.mpr fun y _ => fs y
theorem inQ_eq {α : Type} {f : α → V} {xs : List α} {vs : List V} (h : repL ms H (xs.map fun y_ : α => D.v (f y_)) vs) : vs = xs.map f := by
  have e1 : xs.map (fun y_ : α => D.v (f y_)) = (xs.map f).map D.v := by
    rw [List.map_map]
    rfl
  rw [e1] at h
  exact repL_flat.mp h
theorem rep_inL {α : Type} {f : α → V} {xs : List α} {Q : VK} (h : rep ms H (.lst (xs.map fun y_ : α => D.v (f y_))) u) (fx : flatV x = true) (fs : ∀ y, flatV (f y) = true) (k : Q (.bl (inV x (xs.map f))) H) : rIn K false x u H Q := by
  simp only [rep] at h
  obtain ⟨p, vs, e, _, hp, hr⟩ := h
  rw [inQ_eq hr] at hp
  exact ⟨p, _, e, .inl (.inl (.inl hp)), fx, inQ_all fs, k⟩
theorem rep_ninL {α : Type} {f : α → V} {xs : List α} {Q : VK} (h : rep ms H (.lst (xs.map fun y_ : α => D.v (f y_))) u) (fx : flatV x = true) (fs : ∀ y, flatV (f y) = true) (k : Q (.bl (!inV x (xs.map f))) H) : rIn K true x u H Q := by
  simp only [rep] at h
  obtain ⟨p, vs, e, _, hp, hr⟩ := h
  rw [inQ_eq hr] at hp
  exact ⟨p, _, e, .inl (.inl (.inl hp)), fx, inQ_all fs, k⟩
theorem rep_inT {α : Type} {f : α → V} {xs : List α} {Q : VK} (h : rep ms H (.tup (xs.map fun y_ : α => D.v (f y_))) u) (fx : flatV x = true) (fs : ∀ y, flatV (f y) = true) (k : Q (.bl (inV x (xs.map f))) H) : rIn K false x u H Q := by
  simp only [rep] at h
  obtain ⟨p, vs, e, _, hp, hr⟩ := h
  rw [inQ_eq hr] at hp
  exact ⟨p, _, e, .inr (.inl (.inl hp)), fx, inQ_all fs, k⟩
theorem rep_ninT {α : Type} {f : α → V} {xs : List α} {Q : VK} (h : rep ms H (.tup (xs.map fun y_ : α => D.v (f y_))) u) (fx : flatV x = true) (fs : ∀ y, flatV (f y) = true) (k : Q (.bl (!inV x (xs.map f))) H) : rIn K true x u H Q := by
  simp only [rep] at h
  obtain ⟨p, vs, e, _, hp, hr⟩ := h
  rw [inQ_eq hr] at hp
  exact ⟨p, _, e, .inr (.inl (.inl hp)), fx, inQ_all fs, k⟩
theorem inV_int {x : Int} {xs : List Int} : inV (.int x) (xs.map V.int) = true ↔ x ∈ xs := by
  unfold inV
  rw [List.any_map, List.any_eq_true]
  constructor
  · rintro ⟨y, hy, e⟩
    have e' : (y == x) = true := e
    rw [← eq_of_beq e']
    exact hy
  · intro h
    exact ⟨x, h, show (x == x) = true from beq_self_eq_true x⟩
end
section
variable {K : PySem.W.Frag} {ms : List Addr} {ps : List PEn} {H0 H H' H1 : Hp} {L : Addr} {d : D} {ds : List D} {u x y : V} {vs : List V} {ks : List Key} {k : Key}
theorem rep_itemsR {Q : VK} (w : Wd ms ps [] H0 H) (h : rep ms H (.dct ks ds) x)
    (q : ∀ (H' : Hp) (p : Addr), Ret [] H H' → (∀ (r : List V → Hp → Prop), (∀ vs, ks.length = vs.length → repL ms H' ds vs → (∃ ps, SqL K H' p (ps.map V.ref) ∧ Paired (fun p kv => SqT K H' p [kV kv.1, kv.2]) ps (ks.zip vs)) → r vs H') → ∃ vs, ks.length = vs.length ∧ repL ms H' ds vs ∧ r vs H') → Q (.ref p) H') : LiI.rItemsL x H Q := rep_items w h q
end
end Rx
namespace Rx
open PySem PySem.Spec PyProof.Rows L2
section
variable {K : PySem.W.Frag} {ms : List Addr} {ps : List PEn} {H0 H : Hp} {x : V}
theorem rep_gunl {ds : List D} {n : Nat} {Q : L2.St → Hp → Prop} {t : TGs} {σ : L2.St} (h : rep ms H (.lst ds) x) (hn : ds.length = n) (k : ∀ vs, repL ms H ds vs → t vs σ H Q) : ∃ a xs, x = .ref a ∧ SqL K H a xs ∧ xs.length = n ∧ t xs σ H Q := by
  simp only [rep] at h
  obtain ⟨p, vs, e, _, hp, hr⟩ := h
  exact ⟨p, vs, e, .inl (.inl hp), by rw [← repL_len hr]; exact hn, k vs hr⟩
theorem rep_iterE {ds : List D} {P : Addr → Prop} (h : rep ms H (.lst ds) x) (k : ∀ a xs, x = .ref a → a ∉ ms → H a = some (.lst xs) → repL ms H ds xs → P a) : ∃ (a : Addr) (xs : List V), [x] = [.ref a] ∧ SqL K H a xs ∧ P a := by
  simp only [rep] at h
  obtain ⟨p, vs, e, n, hp, hr⟩ := h
  exact ⟨p, vs, by rw [e], .inl (.inl hp), k p vs e n hp hr⟩
end
section
variable {α S : Type} {K : PySem.W.Frag} {H1 : Hp} {g : TG} {tb : TS} {D' : Ends} {σ : L2.St}
/-- a pair that is new at T -/
theorem rep_pair {ms : List Addr} {H H2 : Hp} {T : Addr} {d1 d2 : D} {v1 v2 : V} (tr : ∀ m ∈ ms, H m ≠ none) (nT : H T = none) (e : H2 = upd H T (.tup [v1, v2])) (h1 : rep ms H d1 v1) (h2 : rep ms H d2 v2) : rep ms H2 (.tup [d1, d2]) (.ref T) := by
  subst e
  simp only [rep]
  refine ⟨T, [v1, v2], rfl, fun z => tr T z nT, upd_same, ?_⟩
  exact repL_ext (Ext.new nT) (repL_cons h1 (repL_cons h2 repL_nil))
theorem for_enumG {items : List α} {e : α → D} {ms : List Addr} {a : Addr} {xs : List V} {body : (Int × α) → S → (S → Prop) → Prop} {KM : S → Prop} (SI : S → L2.St → Hp → Prop) (s0 : S) (an : a ∉ ms) (ha : H1 a = some (.lst xs)) (hx : repL ms H1 (items.map e) xs)
    (kp : ∀ s σ H, SI s σ H → Keep ms H1 H) (tr : ∀ s σ H, SI s σ H → ∀ m ∈ ms, H m ≠ none) (hM : forC body ((rangeI 0 (items.length : Int)).zip items) s0 KM) (h0 : SI s0 σ H1)
    (hs : ∀ (x : Int × α) (u : V) (s : S) (k : S → Prop) (σ : L2.St) (H H2 : Hp), SI s σ H → Ext H H2 → rep ms H2 (.tup [.v (.int x.1), e x.2]) u → body x s k → ∀ Nx : L2.St → Hp → Prop, (∀ s' σ' H', k s' → SI s' σ' H' → Nx σ' H') →
      g u σ H2 fun σ2 H2 => tb { D' with nx := Nx, ct := Nx, bk := D'.nx } σ2 H2)
    (hd : ∀ s σ H, KM s → SI s σ H → D'.nx σ H) :
    ∃ W : Nat → Nat → L2.St → Hp → Prop, (∃ m, W 0 m σ H1) ∧ ∀ i m σ H, W i m σ H →
      ((Ite K a).stop i H ∧ D'.nx σ H) ∨ ((Ite K a).go i H ∧ ∃ Nx : L2.St → Hp → Prop, (∀ σ' H', Nx σ' H' → ∃ m', m' < m ∧ W (i + 1) m' σ' H') ∧ ∀ x H', (Ite K a).yld i H x H' → g x σ H' fun σ2 H2 => tb { D' with nx := Nx, ct := Nx, bk := D'.nx } σ2 H2) := by
  have hl : items.length = xs.length := by
    have := repL_len hx
    rwa [List.length_map] at this
  have rl : (rangeI 0 (items.length : Int)).length = items.length := by rw [rangeI_len]; omega
  have zl : ((rangeI 0 (items.length : Int)).zip items).length = xs.length := by rw [List.length_zip, rl, hl, Nat.min_self]
  refine for_it (walk_enum (K := K) (a := a) (xs := xs)) (D := D') (fun i σ H => ∃ s, SI s σ H ∧ forC body (((rangeI 0 (items.length : Int)).zip items).drop i) s KM) ⟨s0, h0, hM⟩ (fun i σ H _ ⟨s, si, _⟩ => .inl (.inl (kp s σ H si a _ an ha))) (fun i u σ H H' hi ⟨s, si, q⟩ y => ?_) (fun σ H ⟨s, si, q⟩ => ?_)
  · obtain ⟨T, x1, x2, rfl, nT, eH, e1, e2⟩ := y
    have hit : items[i]? = some (items[i]'(by omega)) := List.getElem?_eq_getElem (by omega)
    have hz : ((rangeI 0 (items.length : Int)).zip items)[i]? = some ((i : Int), items[i]'(by omega)) := by
      rw [List.getElem?_zip_eq_some]
      exact ⟨by rw [rangeI_get (by omega)]; congr 1; omega, hit⟩
    rw [drop_cons' hz] at q
    obtain ⟨v, hv, rv⟩ := repL_get (repL_keep (kp s σ H si) hx) (j := i) (d := e (items[i]'(by omega))) (by rw [List.getElem?_map, hit]; rfl)
    have e2 : xs[i]? = some x2 := e2
    rw [e2] at hv
    have ev : x2 = v := Option.some.inj hv
    subst ev
    have ev1 : V.int (i : Nat) = x1 := Option.some.inj e1
    subst ev1
    have ex : Ext H H' := by rw [eH]; exact Ext.new nT
    exact hs ((i : Int), items[i]'(by omega)) (.ref T) s _ σ H H' si ex (rep_pair (tr s σ H si) nT eH rep_v rv) q _ fun s' σ' H'' hk si2 => ⟨s', si2, hk⟩
  · rw [List.drop_of_length_le (by omega)] at q
    exact hd s σ H q si
end
end Rx
namespace Rx
open PySem PySem.Spec PyProof.Rows L2
/-! dicts with any keys of one kind -/
section
variable {α κ : Type} [DecidableEq κ]
def putD (m : List (κ × α)) (k : κ) (y : α) : List (κ × α) := if (m.any fun q => decide (q.1 = k)) = true then m.map (fun q => if q.1 = k then (q.1, y) else q) else m ++ [(k, y)]
def getD (m : List (κ × α)) (k : κ) : Option α := (m.find? fun q => decide (q.1 = k)).map (·.2)
def hasD (m : List (κ × α)) (k : κ) : Bool := m.any fun q => decide (q.1 = k)
theorem zip_fst_any {k : κ} : ∀ {m : List (κ × α)} {vs : List V}, m.length = vs.length → (((m.map (·.1)).zip vs).any fun kv => decide (kv.1 = k)) = m.any fun q => decide (q.1 = k)
  | [], [], _ => rfl
  | q :: m, v :: vs, h => by
    rw [List.map_cons, List.zip_cons_cons, List.any_cons, List.any_cons, zip_fst_any (by simpa using h)]
  | [], _ :: _, h => by simp at h
  | _ :: _, [], h => by simp at h
theorem putK_map {k : κ} {y : α} {v : V} : ∀ {m : List (κ × α)} {vs : List V}, m.length = vs.length → ((m.map (·.1)).zip vs).map (fun kv => if kv.1 = k then (kv.1, v) else kv) = ((m.map (fun q => if q.1 = k then (q.1, y) else q)).map (·.1)).zip ((m.zip vs).map fun z => if z.1.1 = k then v else z.2)
  | [], [], _ => rfl
  | q :: m, w :: vs, h => by
    have ih := putK_map (k := k) (y := y) (v := v) (m := m) (vs := vs) (by simpa using h)
    rw [List.map_cons, List.zip_cons_cons, List.map_cons, ih, List.map_cons, List.map_cons, List.zip_cons_cons, List.map_cons, List.zip_cons_cons]
    by_cases e : q.1 = k
    · simp [e]
    · simp [e]
  | [], _ :: _, h => by simp at h
  | _ :: _, [], h => by simp at h
end
section
variable {α : Type} {K : PySem.W.Frag} {ms : List Addr} {ps : List PEn} {H0 H : Hp} {L : Addr} {x : V} {e : α → D}
theorem repL_mapD {ms : List Addr} {H : Hp} {y : α} {v : V} {k : Key} (rv : rep ms H (e y) v) : ∀ {m : List (Key × α)} {vs : List V}, repL ms H (m.map fun q => e q.2) vs → repL ms H ((m.map (fun q => if q.1 = k then (q.1, y) else q)).map fun q => e q.2) ((m.zip vs).map fun z => if z.1.1 = k then v else z.2)
  | [], vs, h => by
    have := repL_empty h
    subst this
    exact repL_nil
  | q :: m, vs, h => by
    obtain ⟨u, us, rfl, h1, h2⟩ := repL_uncons h
    have ih := repL_mapD (y := y) (v := v) (k := k) rv h2
    by_cases c : q.1 = k
    · simp only [List.map_cons, List.zip_cons_cons, if_pos c]
      exact repL_cons rv ih
    · simp only [List.map_cons, List.zip_cons_cons, if_neg c]
      exact repL_cons h1 ih
/-- d[k] = v, the key new or not -/
theorem mo_putA {m : List (Key × α)} {k : Key} {y : α} {v : V} {Q : Hp → Prop} (mo : MutO ms ps H0 H L (.dct (m.map (·.1)) (m.map fun q => e q.2))) (rv : rep ms H (e y) v) (hk : m.length < 16777216)
    (q : ∀ vs, ((putD m k y).map (·.1)).length = vs.length → repL ms H ((putD m k y).map fun q => e q.2) vs → Q (upd H L (.dK (((putD m k y).map (·.1)).zip vs)))) : rSetD (.ref L) (kV k) v H Q := by
  obtain ⟨vs, h1, h2, h3⟩ := mo.val
  have hl : m.length = vs.length := by rw [← h2, List.length_map]
  refine ⟨L, _, rfl, DPut.k h1 ?_, ?_⟩
  · rw [List.length_zip, ← h2, sizeLine_eq, Nat.min_self, List.length_map]
    exact hk
  · unfold putK
    rw [zip_fst_any hl]
    unfold putD at q
    by_cases c : (m.any fun q => decide (q.1 = k)) = true
    · rw [if_pos c, putK_map (y := y) hl]
      rw [if_pos c] at q
      exact q _ (by simp [hl]) (repL_mapD rv h3)
    · rw [if_neg c]
      rw [if_neg c] at q
      have z : (m.map (·.1)).zip vs ++ [(k, v)] = ((m ++ [(k, y)]).map (·.1)).zip (vs ++ [v]) := by
        rw [List.map_append, List.zip_append h2]
        rfl
      rw [z]
      refine q _ (by simp [hl]) ?_
      rw [List.map_append]
      exact repL_app h3 (repL_one rv)
theorem valV_getD {ms : List Addr} {H : Hp} {k : Key} {y : α} : ∀ {m : List (Key × α)} {vs : List V}, repL ms H (m.map fun q => e q.2) vs → getD m k = some y → ∃ v, valV ((m.map (·.1)).zip vs) k = some v ∧ rep ms H (e y) v
  | [], _, _, h => by simp [getD] at h
  | q :: m, vs, r, h => by
    obtain ⟨u, us, rfl, h1, h2⟩ := repL_uncons r
    by_cases c : q.1 = k
    · have : q.2 = y := by simpa [getD, c] using h
      subst this
      exact ⟨u, valV_pos (p := (q.1, u)) c, h1⟩
    · have h' : getD m k = some y := by
        unfold getD at h ⊢
        rw [List.find?_cons_of_neg (by simpa using c)] at h
        exact h
      obtain ⟨v, hv, rv⟩ := valV_getD h2 h'
      exact ⟨v, by rw [List.map_cons, List.zip_cons_cons, valV_neg (p := (q.1, u)) c]; exact hv, rv⟩
theorem rep_dgetA {m : List (Key × α)} {k : Key} {y : α} {Q : VK} (h : rep ms H (.dct (m.map (·.1)) (m.map fun q => e q.2)) x) (hy : getD m k = some y) (q : ∀ v, rep ms H (e y) v → Q v H) :
    ∃ a v, x = .ref a ∧ DGet H a (kV k) (some v) ∧ Q v H := by
  simp only [rep] at h
  obtain ⟨p, vs, rfl, _, hp, hl, hr⟩ := h
  obtain ⟨v, hv, rv⟩ := valV_getD hr hy
  refine ⟨p, v, rfl, ?_, q v rv⟩
  have := DGet.k (k := k) hp
  rw [hv] at this
  exact this
theorem mo_dgetA {m : List (Key × α)} {k : Key} {y : α} {Q : VK} (mo : MutO ms ps H0 H L (.dct (m.map (·.1)) (m.map fun q => e q.2))) (hy : getD m k = some y) (q : ∀ v, rep ms H (e y) v → Q v H) :
    ∃ a v, V.ref L = .ref a ∧ DGet H a (kV k) (some v) ∧ Q v H := by
  obtain ⟨vs, hp, hl, hr⟩ := mo.val
  obtain ⟨v, hv, rv⟩ := valV_getD hr hy
  refine ⟨L, v, rfl, ?_, q v rv⟩
  have := DGet.k (k := k) hp
  rw [hv] at this
  exact this
end
section
variable {K : PySem.W.Frag} {ms : List Addr} {H : Hp} {x : V}
/-- an item of a list whose items are of several kinds -/
theorem rep_ixH {ds : List D} {d : D} {i : Int} {σ : L2.St} {Q : VK} (j : Nat) (h : rep ms H (.lst ds) x) (hi : i = (j : Int)) (hd : ds[j]? = some d) (q : ∀ v, rep ms H d v → Q v H) : tC (V.int i) σ H fun y H2 => rIxL K x y H2 Q := by
  simp only [rep] at h
  obtain ⟨p, vs, rfl, _, hp, hr⟩ := h
  obtain ⟨v, hv, rv⟩ := repL_get hr hd
  subst hi
  exact ⟨p, vs, _, v, rfl, rfl, .inl (.inl hp), atI_nat hv, q v rv⟩
end
/-! xs.index(x): numbers -/
theorem idxOf_le_of {w : Int} : ∀ {xs : List Int} {m : Nat}, xs[m]? = some w → xs.idxOf w ≤ m
  | [], _, h => by simp at h
  | x :: xs, 0, h => by
    have : x = w := Option.some.inj h
    subst this
    rw [List.idxOf_cons_self]
    exact Nat.le_refl 0
  | x :: xs, m + 1, h => by
    have ih := idxOf_le_of (xs := xs) (m := m) (by simpa using h)
    rw [List.idxOf_cons]
    cases x == w
    · show List.idxOf w xs + 1 ≤ m + 1
      omega
    · show 0 ≤ m + 1
      omega
def rIndexI (K : PySem.W.Frag) : V → List V → Hp → VK → Prop := rIndex K
theorem mt_indexK {X : Cx} {K : PySem.W.Frag} (hK : X.K = K) : MtR X "list.index" (rIndexI K) := by
  subst hK
  exact mt_index
theorem rep_indexI {K : PySem.W.Frag} {ms : List Addr} {H : Hp} {x : V} {xs : List Int} {n : Int} {Q : VK} (h : rep ms H (.lst (xs.map fun y => .v (.int y))) x) (hm : n ∈ xs) (q : Q (.int (xs.idxOf n : Int)) H) : rIndexI K x [.int n] H Q := by
  simp only [rep] at h
  obtain ⟨p, vs, rfl, _, hp, hr⟩ := h
  have ev : vs = xs.map V.int := by
    have := repL_flat (xs := xs.map V.int) (vs := vs) (ms := ms) (H := H)
    rw [List.map_map] at this
    exact this.mp hr
  subst ev
  have hl : xs.idxOf n < xs.length := List.idxOf_lt_length_iff.mpr hm
  have eqv : ∀ a b : Int, eqV (.int a) (.int b) = decide (a = b) := fun a b => by
    by_cases c : a = b
    · subst c
      rw [decide_eq_true rfl]
      show (a == a) = true
      exact beq_self_eq_true a
    · rw [decide_eq_false c]
      show (a == b) = false
      exact beq_eq_false_iff_ne.mpr c
  refine ⟨p, _, _, xs.idxOf n, .int n, rfl, rfl, .inl (.inl hp), rfl, ?_, ?_, ?_, ?_, q⟩
  · rw [List.all_eq_true]
    intro z hz
    obtain ⟨w, _, rfl⟩ := List.mem_map.mp hz
    rfl
  · rw [List.getElem?_map, List.getElem?_eq_getElem hl, List.getElem_idxOf hl]
    rfl
  · rw [eqv, decide_eq_true rfl]
  · intro m z' hm' hz
    rw [List.getElem?_map] at hz
    obtain ⟨w, hw, rfl⟩ := Option.map_eq_some_iff.mp hz
    rw [eqv]
    refine decide_eq_false fun c => ?_
    subst c
    have := idxOf_le_of hw
    omega
theorem rep_indexIC {K : PySem.W.Frag} {ms : List Addr} {H : Hp} {x : V} {xs : List Int} {n : Int} {σ : L2.St} {Q : VK} (h : rep ms H (.lst (xs.map fun y => .v (.int y))) x) (hm : n ∈ xs) (q : Q (.int (xs.idxOf n : Int)) H) : tCons (tC (V.int n)) tNil σ H fun ys H2 => rIndexI K x ys H2 Q := rep_indexI (K := K) (Q := Q) h hm q
end Rx
namespace Rx
open PySem PySem.Spec PyProof.Rows L2
theorem units65 {k : Nat} {A : Around} (r : Room k A) : A.units + 65 < cLine := by
  have := r.un
  omega
def tyN : D → String
  | .v (.bl _) => "bool"
  | .v (.int _) => "int"
  | .v (.str _) => "str"
  | .v _ => "NoneType"
  | .lst _ => "list"
  | .tup _ => "tuple"
  | .dct _ _ => "dict"
  | .dcT _ _ => "dict"
  | .ins _ _ _ => "object"
def tyOk : D → Bool
  | .v .non => true
  | .v (.bl _) => true
  | .v (.int _) => true
  | .v (.str _) => true
  | .v _ => false
  | .ins _ _ _ => false
  | _ => true
section
variable {K : PySem.W.Frag} {ms : List Addr} {ps : List PEn} {H0 H : Hp} {d : D} {u x : V}
theorem rep_TyN (h : rep ms H d u) (n : tyOk d = true) {T : String} (e : tyN d = T) : TyX K H u (.type T) := by
  subst e
  cases d with
  | v x =>
    obtain rfl := of_v h
    cases u <;> simp only [tyOk] at n
    · exact .base .non
    · exact .base (.bl _)
    · exact .base (.int _)
    · exact .base (.str _)
    all_goals cases n
  | lst ds =>
    simp only [rep] at h
    obtain ⟨p, vs, rfl, _, hp, _⟩ := h
    exact .base (.lst hp)
  | tup ds =>
    simp only [rep] at h
    obtain ⟨p, vs, rfl, _, hp, _⟩ := h
    exact .base (.tup hp)
  | dct ks ds =>
    simp only [rep] at h
    obtain ⟨p, vs, rfl, _, hp, _⟩ := h
    exact .base (.dK hp)
  | dcT ks ds =>
    simp only [rep] at h
    obtain ⟨p, vs, rfl, _, hp, _⟩ := h
    exact .base (.dT hp)
  | ins _ _ _ => cases n
theorem call_isiTK {X : Cx} (hK : X.K = K) : CallR X (.builtin "isinstance") (rIsiT K) := by
  subst hK
  exact call_isiT
theorem rep_isi1 {a b : String} {r : Bool} {P : Bool → Prop} (h : rep ms H d u) (n : tyOk d = true) (e : tyN d = a) (k : kitB a b = some r) (q : P r) :
    ∃ (x' c : V) (t u' : Value) (b' : Bool), [u, .ty b] = [x', c] ∧ ClsV c u' ∧ TyX K H x' t ∧ PySem.W.kitOne K t u' = some b' ∧ P b' :=
  ⟨u, .ty b, .type a, .type b, r, rfl, .ty b, rep_TyN h n e, kit_ty k, q⟩
theorem rep_isi2 {a b c : String} {r1 r2 : Bool} {tp : Addr} {P : Bool → Prop} (h : rep ms H d u) (n : tyOk d = true) (e : tyN d = a) (ht : H tp = some (.tup [.ty b, .ty c])) (k1 : kitB a b = some r1) (k2 : kitB a c = some r2) (q : P (r1 || r2)) :
    ∃ (x : V) (tp' : Addr) (cs : List V) (t : Value) (us : List Value) (b' : Bool), [u, .ref tp] = [x, .ref tp'] ∧ H tp' = some (.tup cs) ∧ Paired ClsV cs us ∧ TyX K H x t ∧ PySem.W.kitAny K t us = some b' ∧ P b' := by
  refine ⟨u, tp, [.ty b, .ty c], .type a, [.type b, .type c], r1 || r2, rfl, ht, .cons (.ty b) (.cons (.ty c) .nil), rep_TyN h n e, ?_, q⟩
  refine kitAny_cons (kit_ty k1) (fun e1 => ?_) (fun e1 => by rw [e1]; rfl)
  refine kitAny_cons (kit_ty k2) (fun e2 => ?_) (fun e2 => by rw [e2, Bool.or_true])
  rw [e1, e2]
  rfl
/-- t[:j], not the whole -/
theorem sl_tupK {X : Cx} (hK : X.K = K) : SlR X (rSlT K) := by
  subst hK
  exact sl_tup
theorem repL_takeD : ∀ (j : Nat) {ds : List D} {vs : List V}, repL ms H ds vs → repL ms H (ds.take j) (vs.take j)
  | 0, _, _, _ => repL_nil
  | j + 1, [], vs, h => by
    have := repL_empty h
    subst this
    exact repL_nil
  | j + 1, d :: ds, vs, h => by
    obtain ⟨u, us, rfl, h1, h2⟩ := repL_uncons h
    exact repL_cons h1 (repL_takeD j h2)
theorem rep_slT {ds : List D} {Q : VK} (j : Nat) (h : rep ms H (.tup ds) x) (hj : j < ds.length) (k : ∀ vs, repL ms H (ds.take j) vs → ∀ p, H p = none → Q (.ref p) (upd H p (.tup vs))) : rSlT K x none (some (j : Int)) H Q := by
  simp only [rep] at h
  obtain ⟨p, vs, rfl, _, hp, hr⟩ := h
  have hl := repL_len hr
  have e1 : HT.sIx vs.length vs.length (some (j : Int)) = j := by
    rw [HT.sIx_nat]
    omega
  refine ⟨p, vs, rfl, .inl (.inl hp), fun z => ?_, fun q hq => ?_⟩
  · rw [e1] at z
    omega
  · have e : cutV vs none (some (j : Int)) = vs.take j := by
      unfold cutV
      rw [e1, HT.sIx_none, List.drop_zero, Nat.sub_zero]
    rw [e]
    exact k _ (repL_takeD j hr) q hq
theorem rep_lenT {ds : List D} {n : Nat} {P : Nat → Prop} (h : rep ms H (.tup ds) x) (hn : ds.length = n) (q : P n) : ∃ (y : V) (m : Nat), [x] = [y] ∧ LenV K y H m ∧ P m := by
  simp only [rep] at h
  obtain ⟨p, vs, rfl, _, hp, hr⟩ := h
  exact ⟨_, vs.length, rfl, .inr ⟨vs, .inl (.inl hp), rfl⟩, by rw [← repL_len hr, hn]; exact q⟩
/-! x in a list of data -/
theorem op_inDK {X : Cx} (hK : X.K = K) (hu : X.A.units + 65 < cLine) : OpR X (compareOp .In) (rInD K) := by
  subst hK
  exact op_inD hu
theorem op_ninDK {X : Cx} (hK : X.K = K) (hu : X.A.units + 65 < cLine) : OpR X (compareOp .NotIn) (rNotInD K) := by
  subst hK
  exact op_notInD hu
def inDv (d : D) (es : List D) : Bool := (pyL es).any fun z => PyData.eqv z (pyOf d)
theorem rep_inD {es : List D} {y : V} {Q : VK} (h1 : rep ms H d x) (h2 : rep ms H (.lst es) y) (p1 : plainD d = true) (p2 : plainD (.lst es) = true) (s1 : SeqAt.shaped (pyOf d) = true) (s2 : SeqAt.shaped (pyOf (.lst es)) = true) (q : Q (.bl (inDv d es)) H) : rInD K x y H Q :=
  ⟨pyOf d, pyL es, dp_of d x p1 h1, by have := dp_of (K := K) (.lst es) y p2 h2; simpa only [pyOf] using this, s1, by simpa only [pyOf] using s2, q⟩
theorem rep_ninD {es : List D} {y : V} {Q : VK} (h1 : rep ms H d x) (h2 : rep ms H (.lst es) y) (p1 : plainD d = true) (p2 : plainD (.lst es) = true) (s1 : SeqAt.shaped (pyOf d) = true) (s2 : SeqAt.shaped (pyOf (.lst es)) = true) (q : Q (.bl (!inDv d es)) H) : rNotInD K x y H Q :=
  ⟨pyOf d, pyL es, dp_of d x p1 h1, by have := dp_of (K := K) (.lst es) y p2 h2; simpa only [pyOf] using this, s1, by simpa only [pyOf] using s2, q⟩
end
/-! dicts whose keys are tuples -/
section
variable {α : Type} {K : PySem.W.Frag} {ms : List Addr} {ps : List PEn} {H0 H : Hp} {L : Addr} {x kx : V} {e : α → D}
theorem mo_nilT (w : Wd ms ps [] H0 H) (nl : H L = none) : MutO (L :: ms) ps H0 (upd H L (.dT [])) L (.dcT (([] : List (List Key × α)).map (·.1)) (([] : List (List Key × α)).map fun q => e q.2)) where
  im := List.mem_cons_self
  hp := fun z => w.tr L (w.pm L z) nl
  h0 := by
    cases h : H0 L with
    | none => rfl
    | some o => exact absurd nl (w.grow L (by rw [h]; exact fun z => nomatch z))
  val := ⟨[], upd_same, rfl, repL_nil⟩
theorem key_tup {ks : List Key} {ds : List D} (h : rep ms H (.tup ds) kx) (hd : ds = ks.map fun k => D.v (kV k)) : ∃ b, kx = .ref b ∧ H b = some (.tup (ks.map kV)) := by
  subst hd
  simp only [rep] at h
  obtain ⟨p, vs, rfl, _, hp, hr⟩ := h
  have : vs = ks.map kV := by
    have q := repL_flat (xs := ks.map kV) (vs := vs) (ms := ms) (H := H)
    rw [List.map_map] at q
    exact q.mp hr
  subst this
  exact ⟨p, rfl, hp⟩
theorem valV_hasT {m : List (List Key × α)} {vs : List V} (h : repL ms H (m.map fun q => e q.2) vs) (k : List Key) : (valV ((m.map (·.1)).zip vs) k).isSome = hasD m k := by
  have hl := repL_len h
  rw [List.length_map] at hl
  rw [← valV_any, zip_fst_any hl]
  rfl
/-- k in d -/
theorem mo_hasT {m : List (List Key × α)} {ks : List Key} {ds : List D} {P : Option V → Prop} (mo : MutO ms ps H0 H L (.dcT (m.map (·.1)) (m.map fun q => e q.2))) (hk : rep ms H (.tup ds) kx) (hd : ds = ks.map fun k => D.v (kV k)) (q : ∀ o : Option V, o.isSome = hasD m ks → P o) :
    ∃ (a : Addr) (o : Option V), V.ref L = .ref a ∧ DGet H a kx o ∧ P o := by
  obtain ⟨vs, hp, hl, hr⟩ := mo.val
  obtain ⟨b, rfl, hb⟩ := key_tup hk hd
  exact ⟨L, _, rfl, DGet.t hp hb, q _ (valV_hasT hr ks)⟩
theorem repL_mapT {y : α} {v : V} {k : List Key} (rv : rep ms H (e y) v) : ∀ {m : List (List Key × α)} {vs : List V}, repL ms H (m.map fun q => e q.2) vs → repL ms H ((m.map (fun q => if q.1 = k then (q.1, y) else q)).map fun q => e q.2) ((m.zip vs).map fun z => if z.1.1 = k then v else z.2)
  | [], vs, h => by
    have := repL_empty h
    subst this
    exact repL_nil
  | q :: m, vs, h => by
    obtain ⟨u, us, rfl, h1, h2⟩ := repL_uncons h
    have ih := repL_mapT (y := y) (v := v) (k := k) rv h2
    by_cases c : q.1 = k
    · simp only [List.map_cons, List.zip_cons_cons, if_pos c]
      exact repL_cons rv ih
    · simp only [List.map_cons, List.zip_cons_cons, if_neg c]
      exact repL_cons h1 ih
theorem mo_putT {m : List (List Key × α)} {ks : List Key} {ds : List D} {y : α} {v : V} {Q : Hp → Prop} (mo : MutO ms ps H0 H L (.dcT (m.map (·.1)) (m.map fun q => e q.2))) (hk : rep ms H (.tup ds) kx) (hd : ds = ks.map fun k => D.v (kV k)) (rv : rep ms H (e y) v) (hs : m.length < 16777216)
    (q : ∀ vs, ((putD m ks y).map (·.1)).length = vs.length → repL ms H ((putD m ks y).map fun q => e q.2) vs → Q (upd H L (.dT (((putD m ks y).map (·.1)).zip vs)))) : rSetD (.ref L) kx v H Q := by
  obtain ⟨vs, h1, h2, h3⟩ := mo.val
  obtain ⟨b, rfl, hb⟩ := key_tup hk hd
  have hl : m.length = vs.length := by rw [← h2, List.length_map]
  refine ⟨L, _, rfl, DPut.t h1 hb ?_, ?_⟩
  · rw [List.length_zip, ← h2, sizeLine_eq, Nat.min_self, List.length_map]
    exact hs
  · unfold putK
    rw [zip_fst_any hl]
    unfold putD at q
    by_cases c : (m.any fun q => decide (q.1 = ks)) = true
    · rw [if_pos c, putK_map (y := y) hl]
      rw [if_pos c] at q
      exact q _ (by simp [hl]) (repL_mapT rv h3)
    · rw [if_neg c]
      rw [if_neg c] at q
      have z : (m.map (·.1)).zip vs ++ [(ks, v)] = ((m ++ [(ks, y)]).map (·.1)).zip (vs ++ [v]) := by
        rw [List.map_append, List.zip_append h2]
        rfl
      rw [z]
      refine q _ (by simp [hl]) ?_
      rw [List.map_append]
      exact repL_app h3 (repL_one rv)
theorem mo_setT {ks : List (List Key)} {vs : List V} {ds : List D} {d : D} (m : MutO ms ps H0 H L d) (hl : ks.length = vs.length) (r : repL ms H ds vs) : MutO ms ps H0 (upd H L (.dT (ks.zip vs))) L (.dcT ks ds) :=
  ⟨m.im, m.hp, m.h0, vs, upd_same, hl, repL_put m.im r⟩
end
/-! sorted(xs), ints; tuple(xs) -/
section
variable {K : PySem.W.Frag} {ms : List Addr} {ps : List PEn} {H0 H : Hp} {x : V}
theorem cr_sortedIK {X : Cx} (hK : X.K = K) : CallR X (.builtin "sorted") (rSortedI K) := by
  subst hK
  exact cr_sortedI
theorem rep_sortI {xs : List Int} {P : List Int → Addr → Prop} (h : rep ms H (.lst (xs.map fun y => .v (.int y))) x) (q : ∀ ys : List Int, ys.Perm xs → ys.Pairwise (· ≤ ·) → ∀ p, H p = none → P ys p) :
    ∃ (a : Addr) (ns : List Int), [x] = [V.ref a] ∧ SqL K H a (ns.map V.int) ∧ ∀ (ns' : List Int) (p : Addr), ns'.Perm ns → ns'.Pairwise (· ≤ ·) → H p = none → P ns' p := by
  simp only [rep] at h
  obtain ⟨p, vs, rfl, _, hp, hr⟩ := h
  have ev : vs = xs.map V.int := by
    have := repL_flat (xs := xs.map V.int) (vs := vs) (ms := ms) (H := H)
    rw [List.map_map] at this
    exact this.mp hr
  subst ev
  exact ⟨p, xs, rfl, .inl (.inl hp), fun ys q1 a b c => q ys a b q1 c⟩
theorem call_tuple_ofK {X : Cx} (hK : X.K = K) : CallR X (.type "tuple") (fun xs H Q => ∃ p ys, xs = [.ref p] ∧ ((SqL K H p ys ∧ ∀ l, H l = none → Q (.ref l) (upd H l (.tup ys))) ∨ (SqT K H p ys ∧ Q (.ref p) H))) := by
  subst hK
  exact call_tuple_of
theorem rep_tupOf {ds : List D} {P : List V → Addr → Prop} {R : Addr → Prop} (h : rep ms H (.lst ds) x) (q : ∀ ys, repL ms H ds ys → ∀ l, H l = none → P ys l) : ∃ p ys, [x] = [V.ref p] ∧ ((SqL K H p ys ∧ ∀ l, H l = none → P ys l) ∨ (SqT K H p ys ∧ R p)) := by
  simp only [rep] at h
  obtain ⟨p, vs, rfl, _, hp, hr⟩ := h
  exact ⟨p, vs, rfl, .inl ⟨.inl (.inl hp), q vs hr⟩⟩
end
end Rx
namespace Rx
open PySem PySem.Spec PyProof.Rows L2
section
variable {prog : Program} {w : World} {A : Around} {E : Value → Shared → Prop} {s : Shared}
/-- a triple that stands in the heap -/
def Trip (h : Heap) (v : Value) (k : Int × Int × Str) : Prop := ∃ (a : Addr) (o : Obj) (t1 t2 t3 : Tok) (n : Nat), v = Value.ref a ∧ h.get? a = some o ∧ o.cls = .type "tuple" ∧ o.data = .seq #[.int k.1 t1, .int k.2.1 t2, .str k.2.2 t3] n
def lxT (k l : Int × Int × Str) : Bool := SrtO.lexB (k.1, k.2.1) (l.1, l.2.1)
theorem lxT_swo (k : Value → Int × Int × Str) : SrtO.Swo fun v u => lxT (k v) (k u) := SrtO.swo_lex fun v => ((k v).1, (k v).2.1)
theorem Trip.moved {h h' : Heap} {v : Value} {k : Int × Int × Str} (t : Trip h v k) (kp : ∀ b o, h.get? b = some o → o.cls = .type "tuple" → h'.get? b = some o) : Trip h' v k := by
  obtain ⟨a, o, t1, t2, t3, n, e, ho, hc, hd⟩ := t
  exact ⟨a, o, t1, t2, t3, n, e, kp a o ho hc, hc, hd⟩
theorem trip_lt {vs : List Value} {k : Value → Int × Int × Str} (hp : ∀ v ∈ vs, Trip s.heap v (k v)) (hu : ∀ v ∈ vs, ∀ u ∈ vs, (k v).1 = (k u).1 → (k v).2.1 = (k u).2.1 → (k v).2.2 = (k u).2.2) :
    SrtO.Cmp prog w A s (tuples' true) (fun p => p.1 ∈ vs) (SrtO.lt2 fun v u => lxT (k v) (k u)) := by
  intro p q m1 m2
  have uq := hu _ m1 _ m2
  obtain ⟨a1, o1, x1, y1, z1, n1, e1, g1, c1, d1⟩ := hp _ m1
  obtain ⟨a2, o2, x2, y2, z2, n2, e2, g2, c2, d2⟩ := hp _ m2
  show wpAny (model prog w) A (keyLt' (tuples' true) p.1 q.1) (fun b s2 => s2 = s ∧ b = lxT (k p.1) (k q.1)) (fun _ _ => False) s
  unfold lxT SrtO.lexB
  generalize k p.1 = kp at *
  generalize k q.1 = kq at *
  obtain ⟨i, j, c⟩ := kp
  obtain ⟨i2, j2, c2'⟩ := kq
  simp only at uq d1 d2 ⊢
  rw [e1, e2]
  refine PySem.W.kat_lt g1 d1 g2 d2 ?_
  show PySem.W.KatLex prog w A true (decide (3 < 3)) _ [(Value.int i x1, Value.int i2 x2), (Value.int j y1, Value.int j2 y2), (Value.str c z1, Value.str c2' z2)] 0 s
  refine PySem.W.kat_cons (SeqAt.EqAt.int_int i x1 i2 x2 prog w _ _ (PySem.W.kat_go (fun f1 => ?_) fun f1 => ?_))
  · obtain rfl : i = i2 := by simpa using f1
    refine PySem.W.kat_yes (PySem.W.kat_cons (SeqAt.EqAt.int_int j y1 j2 y2 prog w _ _ (PySem.W.kat_go (fun f2 => ?_) fun f2 => ?_)))
    · obtain rfl : j = j2 := by simpa using f2
      obtain rfl : c = c2' := uq rfl rfl
      refine PySem.W.kat_yes (PySem.W.kat_cons (SeqAt.EqAt.str_str c z1 c z2 prog w _ _ (PySem.W.kat_go (fun _ => ?_) fun f3 => ?_)))
      · refine PySem.W.kat_yes (PySem.W.kat_nil ⟨rfl, ?_⟩)
        rw [if_pos rfl]
        exact (decide_eq_false (Int.lt_irrefl j)).symm
      · exact absurd f3 (by simp)
    · refine PySem.W.kat_no (PySem.W.kat_one _ _ (PyProof.Rows.lt_int ?_))
      exact ⟨rfl, (if_pos rfl).symm⟩
  · have ne : ¬ i = i2 := by simpa using f1
    exact PySem.W.kat_no (oneLt_int ⟨rfl, (if_neg ne).symm⟩)
end
section
variable {prog : Program} {w : World} {A : Around} {E : Value → Shared → Prop} {s : Shared}
theorem trip_sorted {l : Addr} {vs : List Value} {k : Value → Int × Int × Str} {Q : Value → Shared → Prop} (hl : s.heap.IsList l vs.toArray) (hz : vs.length ≤ sizeLine) (hp : ∀ v ∈ vs, Trip s.heap v (k v))
    (hu : ∀ v ∈ vs, ∀ u ∈ vs, (k v).1 = (k u).1 → (k v).2.1 = (k u).2.1 → (k v).2.2 = (k u).2.2)
    (fin : ∀ (h2 : Heap) (d : Addr) (zs : List Value), SrtO.Srtd (fun v u => lxT (k v) (k u)) zs → SrtO.Stb (fun v u => lxT (k v) (k u)) zs vs → (∀ b o, s.heap.get? b = some o → h2.get? b = some o) → s.heap.objs.size ≤ d → (∃ n, h2.get? d = some (seqObj "list" zs.toArray n)) → Q (.ref d) { s with heap := h2 }) :
    wpAny (model prog w) A (call (.builtin "sorted") [.ref l]) Q E s := by
  refine SrtO.sorted_ord (lxT_swo k) hl hz (fun two g b hb keepb => ?_) fun zs z1 z2 => fin _ _ zs z1 z2 (fun b o e => sortedAll_old e) (Nat.le_succ _) (sortedAll_at s.heap vs zs.toArray)
  intro g2 keep2
  have nb : ∀ o, g.get? b = some o → o.cls ≠ .type "tuple" := fun o e c => by
    rw [hb] at e
    cases e
    exact absurd (Value.type.inj c) (by decide)
  have tp : ∀ v ∈ vs, Trip g2 v (k v) := fun v hv => (hp v hv).moved fun c o e ct => keep2 c o (fun z => by subst z; exact nb o (keepb _ o e).2 ct) (keepb c o e).2
  have tups : ∀ us : List Value, (∀ v ∈ us, Trip g2 v (k v)) → ∃ fs : List Value, PySem.W.KatTups g2 us fs ∧ fs.length = us.length ∧ ∀ f ∈ fs, ∃ i t, f = Value.int i t := by
    intro us
    induction us with
    | nil => exact fun _ => ⟨[], .nil, rfl, fun f h => absurd h List.not_mem_nil⟩
    | cons v us ih =>
      intro hv
      obtain ⟨fs, f1, f2, f3⟩ := ih fun x hx => hv x (List.mem_cons_of_mem _ hx)
      obtain ⟨a, o, t1, t2, t3, n, e, ho, hc, hd⟩ := hv v List.mem_cons_self
      subst e
      refine ⟨.int (k (.ref a)).1 t1 :: fs, .cons ho hc hd rfl f1, by rw [List.length_cons, List.length_cons, f2], fun f hf => ?_⟩
      rcases List.mem_cons.mp hf with rfl | hf
      · exact ⟨_, _, rfl⟩
      · exact f3 f hf
  obtain ⟨fs, f1, f2, f3⟩ := tups vs tp
  refine ⟨tuples' true, fun Q' E' hq => ?_, trip_lt (s := { s with heap := g2 }) tp hu⟩
  refine PySem.W.kat_kind (s := { s with heap := g2 }) (T := .type "int") f1 (by omega) (fun f hf => ?_) (by rfl) ?_
  · obtain ⟨i, t, rfl⟩ := f3 f hf
    exact PySem.W.Looks.now
  · rw [show (Value.type "int" != Value.type "tuple") = true by first | decide +kernel | rfl]
    exact hq
end
/-- sorted(xs), xs triples that their first two parts tell apart -/
def rSortTr (K : PySem.W.Frag) : List V → Hp → VK → Prop := fun vs H Q => ∃ (a : Addr) (xs : List V) (k : V → Int × Int × Str), vs = [V.ref a] ∧ SqL K H a xs ∧ (∀ x ∈ xs, ∃ t, x = V.ref t ∧ H t = some (.tup [.int (k x).1, .int (k x).2.1, .str (k x).2.2])) ∧
  (∀ x ∈ xs, ∀ y ∈ xs, (k x).1 = (k y).1 → (k x).2.1 = (k y).2.1 → (k x).2.2 = (k y).2.2) ∧ ∀ zs p, zs.Perm xs → zs.Pairwise (fun x y => lxT (k y) (k x) = false) → H p = none → Q (.ref p) (upd H p (.lst zs))
theorem cr_sortTr {X : Cx} {K : PySem.W.Frag} (hK : X.K = K) : CallR X (.builtin "sorted") (rSortTr K) := by
  subst hK
  intro pins s σ H args us Q I rr hyp
  obtain ⟨a, xs, k, rfl, hs, ht, hu, q⟩ := hyp
  obtain ⟨its, rv, isl, small⟩ := I.list hs
  obtain ⟨u0, rfl, r0⟩ := vals1 rr
  obtain rfl : u0 = Value.ref a := r0
  obtain ⟨exs, refs⟩ := refs_back rv fun x hx => by
    obtain ⟨t, e, _⟩ := ht x hx
    exact ⟨t, e⟩
  have inx : ∀ v ∈ its, backV v ∈ xs := fun v hv => by
    rw [exs]
    exact List.mem_map.mpr ⟨v, hv, rfl⟩
  refine trip_sorted (k := fun v => k (backV v)) isl.isList (by rw [← rv.length]; exact small) (fun v hv => ?_) (fun v hv u hu' => hu _ (inx v hv) _ (inx u hu')) fun h2 d zs z1 z2 kp hd hn => ?_
  · obtain ⟨t, rfl⟩ := refs v hv
    obtain ⟨t2, e2, at2⟩ := ht _ (inx _ hv)
    cases e2
    obtain ⟨_, parts, rp, o, ho, hc, n, hd⟩ := I.hok _ _ at2
    cases rp with
    | cons r1 rp =>
      obtain ⟨w2, w3, rfl, r2, r3⟩ := vals2 rp
      obtain ⟨k1, rfl⟩ := r1
      obtain ⟨k2, rfl⟩ := r2
      obtain ⟨k3, rfl⟩ := r3
      exact ⟨t, o, k1, k2, k3, n, rfl, ho, hc, hd⟩
  · have zr : ∀ v ∈ zs, ∃ b, v = Value.ref b := fun v hv => refs v (z2.perm.mem_iff.mp hv)
    obtain ⟨n, hn⟩ := hn
    have pm : (zs.map backV).Perm xs := by
      rw [exs]
      exact z2.perm.map backV
    refine ⟨.ref d, upd H d (.lst (zs.map backV)), I.laid (t' := s.toks) kp hd ⟨?_, zs, n, vals_back zr, hn⟩, rfl, q _ d pm ?_ (I.hok.fresh hd)⟩
    · rw [pm.length_eq]
      exact small
    · exact List.pairwise_map.mpr z1
section
variable {K : PySem.W.Frag} {ms : List Addr} {H : Hp} {x : V}
abbrev encTr (y : Int × Int × Str) : D := D.tup [D.v (V.int y.1), D.v (V.int y.2.1), D.v (V.str y.2.2)]
def keyAt (H : Hp) : V → Int × Int × Str
  | .ref t => match H t with
    | some (.tup [.int i, .int j, .str c]) => (i, j, c)
    | _ => (0, 0, Str.empty)
  | _ => (0, 0, Str.empty)
theorem rep_tr {y : Int × Int × Str} {v : V} (h : rep ms H (encTr y) v) : keyAt H v = y ∧ ∃ t, v = .ref t ∧ H t = some (.tup [.int y.1, .int y.2.1, .str y.2.2]) := by
  simp only [rep] at h
  obtain ⟨p, vs, rfl, _, hp, hr⟩ := h
  obtain ⟨u1, r1, rfl, h1, hr⟩ := repL_uncons hr
  obtain ⟨u2, r2, rfl, h2, hr⟩ := repL_uncons hr
  obtain ⟨u3, r3, rfl, h3, hr⟩ := repL_uncons hr
  obtain rfl := repL_empty hr
  obtain rfl := of_v h1
  obtain rfl := of_v h2
  obtain rfl := of_v h3
  refine ⟨?_, p, rfl, hp⟩
  unfold keyAt
  simp only [hp]
theorem repL_keys : ∀ {xs : List (Int × Int × Str)} {vs : List V}, repL ms H (xs.map encTr) vs → vs.map (keyAt H) = xs ∧ ∀ v ∈ vs, rep ms H (encTr (keyAt H v)) v
  | [], vs, h => by
    obtain rfl := repL_empty h
    exact ⟨rfl, fun v hv => absurd hv List.not_mem_nil⟩
  | y :: xs, vs, h => by
    obtain ⟨u, us, rfl, h1, h2⟩ := repL_uncons h
    obtain ⟨e, f⟩ := repL_keys h2
    have k1 := (rep_tr h1).1
    refine ⟨by rw [List.map_cons, e, k1], fun v hv => ?_⟩
    rcases List.mem_cons.mp hv with rfl | hv
    · rw [k1]
      exact h1
    · exact f v hv
theorem repL_of_keys : ∀ {vs : List V}, (∀ v ∈ vs, rep ms H (encTr (keyAt H v)) v) → repL ms H ((vs.map (keyAt H)).map encTr) vs
  | [], _ => repL_nil
  | v :: vs, h => repL_cons (h v List.mem_cons_self) (repL_of_keys fun u hu => h u (List.mem_cons_of_mem _ hu))
theorem rep_sortTr {xs : List (Int × Int × Str)} {P : List V → Addr → Prop} (h : rep ms H (.lst (xs.map encTr)) x) (uq : ∀ a ∈ xs, ∀ b ∈ xs, a.1 = b.1 → a.2.1 = b.2.1 → a.2.2 = b.2.2)
    (q : ∀ (ys : List (Int × Int × Str)) (zs : List V), ys.Perm xs → ys.Pairwise (fun a b => lxT b a = false) → repL ms H (ys.map encTr) zs → ∀ p, H p = none → P zs p) :
    ∃ (a : Addr) (vs : List V) (k : V → Int × Int × Str), [x] = [V.ref a] ∧ SqL K H a vs ∧ (∀ x ∈ vs, ∃ t, x = V.ref t ∧ H t = some (.tup [.int (k x).1, .int (k x).2.1, .str (k x).2.2])) ∧
      (∀ x ∈ vs, ∀ y ∈ vs, (k x).1 = (k y).1 → (k x).2.1 = (k y).2.1 → (k x).2.2 = (k y).2.2) ∧ ∀ (zs : List V) (p : Addr), zs.Perm vs → zs.Pairwise (fun x y => lxT (k y) (k x) = false) → H p = none → P zs p := by
  simp only [rep] at h
  obtain ⟨p, vs, rfl, _, hp, hr⟩ := h
  obtain ⟨e, f⟩ := repL_keys hr
  have mem : ∀ v ∈ vs, keyAt H v ∈ xs := fun v hv => by
    rw [← e]
    exact List.mem_map.mpr ⟨v, hv, rfl⟩
  refine ⟨p, vs, keyAt H, rfl, .inl (.inl hp), fun v hv => (rep_tr (f v hv)).2, fun v hv u hu => uq _ (mem v hv) _ (mem u hu), fun zs l pm srt nl => ?_⟩
  refine q (zs.map (keyAt H)) zs ?_ ?_ (repL_of_keys fun v hv => f v (pm.mem_iff.mp hv)) l nl
  · rw [← e]
    exact pm.map _
  · exact List.pairwise_map.mpr srt
end
/-! comprehensions over a list of one's own, which stays -/
section
variable {α β : Type} {K : PySem.W.Frag} {H1 : Hp} {g : TG} {tt : TT} {te : TE} {vl : List Nat} {σ : L2.St} {Qd : Hp → Prop} {L : Addr}
theorem mo_item {ms : List Addr} {ps : List PEn} {H0 H : Hp} {a : Addr} {items : List α} {e : α → D} (m : MutO ms ps H0 H a (.lst (items.map e))) : ∃ vs, H a = some (.lst vs) ∧ vs.length = items.length ∧ ∀ (i : Nat) (it : α), items[i]? = some it → ∃ v, vs[i]? = some v ∧ rep ms H (e it) v := by
  obtain ⟨vs, h1, h2⟩ := m.val
  have hl := repL_len h2
  rw [List.length_map] at hl
  exact ⟨vs, h1, hl.symm, fun i it hi => repL_get h2 (by rw [List.getElem?_map, hi]; rfl)⟩
theorem mo_iter {ms : List Addr} {ps : List PEn} {H0 H : Hp} {a : Addr} {ds : List D} {P : Addr → Prop} (m : MutO ms ps H0 H a (.lst ds)) (k : P a) : ∃ b, V.ref a = .ref b ∧ (∃ xs, SqL K H b xs) ∧ P b := by
  obtain ⟨vs, h1, _⟩ := m.val
  exact ⟨a, rfl, ⟨vs, .inl (.inl h1)⟩, k⟩
theorem lc_mutG {items : List α} {e : α → D} {ms : List Addr} {ps : List PEn} {H0 : Hp} {a : Addr} {body : α → (β → Prop) → Prop} {KM : List β → Prop} (SI : Nat → List β → Hp → Prop)
    (mo : ∀ n ys H, SI n ys H → MutO (L :: ms) ps H0 H a (.lst (items.map e))) (hM : items.length < 100000 ∧ mapC body items [] KM) (h0 : SI 0 [] (upd H1 L (.lst [])))
    (hs : ∀ (x : α) (u : V) (n : Nat) (ys : List β) (k : β → Prop) (H : Hp), n < 100000 → SI n ys H → rep (L :: ms) H (e x) u → body x k → ∀ Nx : Hp → Prop, (∀ y H', k y → SI (n + 1) (ys ++ [y]) H' → Nx H') → Turn g tt te vl σ L u H Nx)
    (hd : ∀ n ys H, KM ys → SI n ys H → Qd H) :
    ∃ W : Nat → Nat → Hp → Prop, (∃ m, W 0 m (upd H1 L (.lst []))) ∧ ∀ i m H, W i m H →
      ((Itl K a).stop i H ∧ Qd H) ∨ ((Itl K a).go i H ∧ ∃ Nx : Hp → Prop, (∀ H', Nx H' → ∃ m', m' < m ∧ W (i + 1) m' H') ∧ ∀ x H', (Itl K a).yld i H x H' → g x (wipe σ vl) H' fun σ2 H2 => wipe σ2 vl = wipe σ vl ∧ tt σ2 H2 fun b H3 =>
        if b = true then te σ2 H3 fun y H4 => ∃ acc, H4 L = some (.lst acc) ∧ acc.length < sizeLine ∧ Nx (upd H4 L (.lst (acc ++ [y]))) else Nx H3) := by
  obtain ⟨hn, hM⟩ := hM
  refine ⟨fun i m H => m = items.length - i ∧ i ≤ items.length ∧ ∃ ys, SI i ys H ∧ mapC body (items.drop i) ys KM, ⟨_, rfl, Nat.zero_le _, [], h0, hM⟩, ?_⟩
  rintro i m H ⟨rfl, le, ys, T, q⟩
  obtain ⟨vs, ha, hl, hi⟩ := mo_item (mo i ys H T)
  by_cases lt : i < items.length
  · have hit : items[i]? = some (items[i]'lt) := List.getElem?_eq_getElem lt
    obtain ⟨v, hv, rv⟩ := hi i _ hit
    refine .inr ⟨⟨vs, v, .inl (.inl ha), hv⟩, fun H' => i + 1 ≤ items.length ∧ ∃ ys, SI (i + 1) ys H' ∧ mapC body (items.drop (i + 1)) ys KM, fun H' p' => ⟨_, by omega, rfl, p'⟩, fun x H' y => ?_⟩
    obtain ⟨e1, y⟩ := y
    subst e1
    have hx := y vs (.inl (.inl ha))
    rw [hv] at hx
    obtain rfl : v = x := Option.some.inj hx
    rw [drop_cons' hit] at q
    exact hs _ v i ys _ H' (by omega) T rv q _ fun y2 H2 k2 T2 => ⟨lt, _, T2, k2⟩
  · refine .inl ⟨⟨vs, .inl (.inl ha), by omega⟩, ?_⟩
    rw [List.drop_of_length_le (by omega)] at q
    exact hd _ ys H q T
theorem lf_mutG {items : List α} {e : α → D} {ms : List Addr} {ps : List PEn} {H0 : Hp} {a : Addr} {body : α → (Option β → Prop) → Prop} {KM : List β → Prop} (SI : Nat → List β → Hp → Prop)
    (mo : ∀ n ys H, SI n ys H → MutO (L :: ms) ps H0 H a (.lst (items.map e))) (hM : items.length < 100000 ∧ filC body items [] KM) (h0 : SI 0 [] (upd H1 L (.lst [])))
    (hs : ∀ (x : α) (u : V) (n : Nat) (ys : List β) (k : Option β → Prop) (H : Hp), n < 100000 → SI n ys H → rep (L :: ms) H (e x) u → body x k → ∀ Nx : Hp → Prop, (∀ y H', k (some y) → SI (n + 1) (ys ++ [y]) H' → Nx H') → (∀ H', k none → SI (n + 1) ys H' → Nx H') → Turn g tt te vl σ L u H Nx)
    (hd : ∀ n ys H, KM ys → SI n ys H → Qd H) :
    ∃ W : Nat → Nat → Hp → Prop, (∃ m, W 0 m (upd H1 L (.lst []))) ∧ ∀ i m H, W i m H →
      ((Itl K a).stop i H ∧ Qd H) ∨ ((Itl K a).go i H ∧ ∃ Nx : Hp → Prop, (∀ H', Nx H' → ∃ m', m' < m ∧ W (i + 1) m' H') ∧ ∀ x H', (Itl K a).yld i H x H' → g x (wipe σ vl) H' fun σ2 H2 => wipe σ2 vl = wipe σ vl ∧ tt σ2 H2 fun b H3 =>
        if b = true then te σ2 H3 fun y H4 => ∃ acc, H4 L = some (.lst acc) ∧ acc.length < sizeLine ∧ Nx (upd H4 L (.lst (acc ++ [y]))) else Nx H3) := by
  obtain ⟨hn, hM⟩ := hM
  refine ⟨fun i m H => m = items.length - i ∧ i ≤ items.length ∧ ∃ ys, SI i ys H ∧ filC body (items.drop i) ys KM, ⟨_, rfl, Nat.zero_le _, [], h0, hM⟩, ?_⟩
  rintro i m H ⟨rfl, le, ys, T, q⟩
  obtain ⟨vs, ha, hl, hi⟩ := mo_item (mo i ys H T)
  by_cases lt : i < items.length
  · have hit : items[i]? = some (items[i]'lt) := List.getElem?_eq_getElem lt
    obtain ⟨v, hv, rv⟩ := hi i _ hit
    refine .inr ⟨⟨vs, v, .inl (.inl ha), hv⟩, fun H' => i + 1 ≤ items.length ∧ ∃ ys, SI (i + 1) ys H' ∧ filC body (items.drop (i + 1)) ys KM, fun H' p' => ⟨_, by omega, rfl, p'⟩, fun x H' y => ?_⟩
    obtain ⟨e1, y⟩ := y
    subst e1
    have hx := y vs (.inl (.inl ha))
    rw [hv] at hx
    obtain rfl : v = x := Option.some.inj hx
    rw [drop_cons' hit] at q
    exact hs _ v i ys _ H' (by omega) T rv q _ (fun y2 H2 k2 T2 => ⟨lt, _, T2, k2⟩) fun H2 k2 T2 => ⟨lt, _, T2, k2⟩
  · refine .inl ⟨⟨vs, .inl (.inl ha), by omega⟩, ?_⟩
    rw [List.drop_of_length_le (by omega)] at q
    exact hd _ ys H q T
end
end Rx
namespace Rx
open PySem PySem.Spec PyProof.Rows L2
section
variable {K : PySem.W.Frag} {ms : List Addr} {ps : List PEn} {H0 H : Hp} {L : Addr} {u : V}
theorem mo_insU {α : Type} {e : α → D} {xs : List α} {i : Int} {P : Addr → List V → Int → V → Prop} (m : MutO ms ps H0 H L (.lst (xs.map e))) (hl : xs.length < 16777216 ∧ 0 ≤ i ∧ i < 2 ^ 63) (k : ∀ vs, repL ms H (xs.map e) vs → P L vs i u) :
    ∃ (l : Addr) (zs : List V) (j : Int) (y : V), V.ref L = .ref l ∧ [V.int i, u] = [.int j, y] ∧ H l = some (.lst zs) ∧ zs.length < sizeLine ∧ 0 ≤ j ∧ j < 2 ^ 63 ∧ P l zs j y := by
  obtain ⟨vs, h1, h2⟩ := m.val
  refine ⟨L, vs, i, u, rfl, rfl, h1, ?_, hl.2.1, hl.2.2, k vs h2⟩
  rw [← repL_len h2, sizeLine_eq, List.length_map]
  exact hl.1
theorem repL_ins {α : Type} {e : α → D} {xs : List α} {y : α} {vs : List V} (i : Nat) (r : repL ms H (xs.map e) vs) (h : rep ms H (e y) u) : repL ms H ((xs.take i ++ [y] ++ xs.drop i).map e) (vs.take i ++ [u] ++ vs.drop i) := by
  rw [List.map_append, List.map_append, List.map_take, List.map_drop]
  exact repL_app (repL_app (repL_take _ r) (repL_one h)) (repL_drop _ r)
end
end Rx
/-! data in f-strings; repr and str of own things where no text is under way -/
namespace Rx
open PySem PySem.Spec PyProof.Rows L2
section
variable {X : Cx}
def tFmtD (K : PySem.W.Frag) (te : TE) : TE := fun σ H Q => te σ H fun x H1 => ∃ (a : Addr) (d : PyData), x = .ref a ∧ Dp K H1 (.ref a) d ∧ d.showable = true ∧ d.hasDict = false ∧ d.depth ≤ 60 ∧ d.shown.length ≤ sizeLine ∧ Q (.str d.shown) H1
theorem pe_fmtD {e : PySem.Expr} {te : TE} {pos : Pos} {k : Nat} {K : PySem.W.Frag} (hK : X.K = K) (gu : X.A.guards = some []) (hr : Room k X.A) (he : PE X e te) : PE X (.FormattedValue e (-1) none pos) (tFmtD K te) := by
  subst hK
  refine ⟨fun pins s σ H Q I h => ?_⟩
  refine wpAny_FormattedValue_plain (thn (he.run pins s σ H _ I h) fun v s1 hv => ?_)
  obtain ⟨x, H1, I1, r1, a, d, rfl, dp, sh, nd, dep, len, q⟩ := hv
  cases r1
  obtain ⟨as, rd⟩ := Dp.reads I1 d _ _ dp rfl
  have un := hr.un
  refine formatField_of_reads (h₀ := s1.heap) rd sh (fun z => by rw [nd] at z; cases z) gu (by omega) (fun _ _ h => h) (fun h' u tk keep => ?_) len
  exact ⟨.str d.shown, H1, I1.kept keep, ⟨u, rfl⟩, q⟩
theorem rep_fmtD {K : PySem.W.Frag} {ms : List Addr} {H : Hp} {d : D} {x : V} {P : PyData → Prop} (h : rep ms H d x) (hx : ∃ a, x = .ref a) (g : plainD d = true ∧ (pyOf d).showable = true ∧ (pyOf d).hasDict = false ∧ (pyOf d).depth ≤ 60 ∧ (pyOf d).shown.length ≤ sizeLine) (q : P (pyOf d)) :
    ∃ (a : Addr) (d : PyData), x = .ref a ∧ Dp K H (.ref a) d ∧ d.showable = true ∧ d.hasDict = false ∧ d.depth ≤ 60 ∧ d.shown.length ≤ sizeLine ∧ P d := by
  obtain ⟨a, rfl⟩ := hx
  exact ⟨a, _, rfl, dp_of (K := K) d _ g.1 h, g.2.1, g.2.2.1, g.2.2.2.1, g.2.2.2.2, q⟩
theorem rep_refL {ms : List Addr} {H : Hp} {ds : List D} {x : V} (h : rep ms H (.lst ds) x) : ∃ a, x = .ref a := by
  simp only [rep] at h
  obtain ⟨p, vs, e, _⟩ := h
  exact ⟨p, e⟩
theorem rep_refT {ms : List Addr} {H : Hp} {ds : List D} {x : V} (h : rep ms H (.tup ds) x) : ∃ a, x = .ref a := by
  simp only [rep] at h
  obtain ⟨p, vs, e, _⟩ := h
  exact ⟨p, e⟩
variable {n : Nat} {C f : Addr} {fd : FuncData} {ps : List Str} {sp : Sp}
theorem ownTextG_run (F : FnG X.prog X.w X.K X.mg X.base n f fd ps sp) {A : Around} (hg : A.guards = some []) (hr : Room n A) (hb : Binds X.K fd ps []) {pins : List (Addr × Obj)} {σ : L2.St} {H : Hp} {s : Shared} {a : Addr} {Q : VK} (I : Inv X pins σ H s)
    (en : Env0 X.prog X.w X.K X.mg X.base A X.stack s H) (h : sp [.ref a] H (fun v H' => ∃ z : Str, v = .str z ∧ Q v H') E0) : wpAny (model X.prog X.w) A (call (.ref f) [.ref a]) (PySem.W.StrBack (EP X pins σ Q)) X.xe s := by
  have hl := F.len _ _ _ _ h
  have bt := hb s [.ref a] I.kIn (by rw [List.append_nil]; exact hl)
  rw [List.append_nil] at bt
  refine wpAny_call (codeAny_mono (F.run A hg hr X.stack s H ⟨[.ref a], []⟩ [.ref a] [.ref a] _ E0 en bt (.cons rfl .nil) h) fun out s' hq => ?_)
  rcases out with err | fl
  · exact pass0 pins σ H s err s' I hq
  · rcases fl with _ | _ | _ | u
    · exact hq.elim
    · exact hq.elim
    · exact hq.elim
    · obtain ⟨v, H', I', rv, z, ez, q⟩ := I.after hq
      subst ez
      obtain ⟨t, rfl⟩ := rv
      exact ⟨.str z, H', I', ⟨t, rfl⟩, q⟩
theorem call_reprOwnG (F : FnG X.prog X.w X.K X.mg X.base n f fd ps sp) (gu : X.A.guards = some []) (hr : Room (n + 1) X.A) (o : OwnText X.K C "__repr__" f) (hb : Binds X.K fd ps []) : CallR X (.builtin "repr") (rOwnText C sp E0) := by
  intro pins s σ H xs us Q I r h
  obtain ⟨x, a, dx, fs, rfl, rfl, ha, hsp⟩ := h
  obtain ⟨u, rfl, ru⟩ := r.one
  cases ru
  obtain ⟨mA, J, _⟩ := ins_get I.hok ha
  obtain ⟨od, J, _⟩ := J.look
  obtain ⟨m, hF⟩ := I.fr
  exact PySem.W.repr_K hr.in1.units0 hF I.ok.mod.kin J o.hs o.hf (ownTextG_run (A := X.A.in1) F (show X.A.in1.guards = some [] from gu) hr.in1 hb I I.env0.in1 hsp)
theorem call_strOwnG (F : FnG X.prog X.w X.K X.mg X.base n f fd ps sp) (gu : X.A.guards = some []) (hr : Room (n + 2) X.A) (o : OwnText X.K C "__str__" f) (hb : Binds X.K fd ps []) : CallR X (.type "str") (rOwnText C sp E0) := by
  intro pins s σ H xs us Q I r h
  obtain ⟨x, a, dx, fs, rfl, rfl, ha, hsp⟩ := h
  obtain ⟨u, rfl, ru⟩ := r.one
  cases ru
  obtain ⟨mA, J, _⟩ := ins_get I.hok ha
  obtain ⟨od, J, _⟩ := J.look
  exact PySem.W.kso_call hr.in1.in1.units0 I.kIn J o.hs o.hf (ownTextG_run (A := X.A.in1.in1) F (show X.A.in1.in1.guards = some [] from gu) hr.in1.in1 hb I I.env0.in1.in1 hsp)
end
end Rx
namespace PySem
open Sem (wp)
open AutoSeq1 (wpAny_loadPart')
theorem meets_enum_tup (t : Addr) (items : Array Value) :
    Meets (Builtin.«enumerate.__new__» ⟨[.type "enumerate", .ref t], []⟩) (fun _ R s => s.heap.IsTuple t items ∧
      R (.ok (.ret (.ref (s.heap.push { cls := .type "tuple_iterator", data := .fields #[.ref t, .int 0 0] }).objs.size)))
        { s with heap := (s.heap.push { cls := .type "tuple_iterator", data := .fields #[.ref t, .int 0 0] }).push { cls := .type "enumerate", data := .fields #[.none, .bool false, .ref s.heap.objs.size, rawInt 0, .none, .none] } }) :=
  .of_wp fun prog w A R s h => by
    obtain ⟨hp, g, d, tk, os⟩ := s; obtain ⟨h1, h⟩ := h
    have hsub := sub_enumerate
    have q1 : ∀ {A' : Around} {E : Value → Shared → Prop} {Q : Value → Shared → Prop}, Q (.ref hp.objs.size) ⟨hp.push { cls := .type "tuple_iterator", data := .fields #[.ref t, .int 0 0] }, g, d, tk, os⟩ → wpAny (model prog w) A' (pyIter (.ref t)) Q E ⟨hp, g, d, tk, os⟩ :=
      fun q => (begins_tuple t items).iter prog w _ _ ⟨hp, g, d, tk, os⟩ _ h1 q
    wp_walk using q1
    refine wpAny_stack_any fun st => wpAny_pure ?_
    split
    · rename_i c _ _ _ _ _
      cases (c == Value.type "enumerate")
      · wp_walk using q1
        exact ⟨_, rfl, h⟩
      · wp_walk using q1
        exact ⟨_, rfl, h⟩
    · wp_walk using q1
      exact ⟨_, rfl, h⟩
section
variable {prog : Program} {w : World} {A : Around} {E : Value → Shared → Prop} {s : Shared}
theorem call_enum_tup {t : Addr} {items : Array Value} {Q : Value → Shared → Prop} (hL : s.heap.IsTuple t items)
    (h : ∀ h', IsEnum h' (s.heap.objs.size + 1) s.heap.objs.size 0 .none → h'.IsTupleIter s.heap.objs.size t 0 → h'.objs.size = s.heap.objs.size + 2 →
      (∀ b o, s.heap.get? b = some o → h'.get? b = some o) → Q (.ref (s.heap.objs.size + 1)) { s with heap := h' }) :
    wpAny (model prog w) A (call (.type "enumerate") [.ref t]) Q E s := by
  refine callType_new F.called_enumerate (by decide) (F.typeCall_enumerate_1 _) (F.newCall_enumerate_1 _) (fun obj => F.args_object_init_2 obj _) F.entry_enumerate_new
    (meets_enum_tup t items) ⟨hL, ?_⟩
  have hz : (s.heap.push { cls := .type "tuple_iterator", data := .fields #[.ref t, .int 0 0] }).objs.size = s.heap.objs.size + 1 := Heap.size_push ..
  show _ ∧ _
  rw [hz]
  have he : IsEnum ((s.heap.push { cls := .type "tuple_iterator", data := .fields #[.ref t, .int 0 0] }).push
      { cls := .type "enumerate", data := .fields #[.none, .bool false, .ref s.heap.objs.size, rawInt 0, .none, .none] }) (s.heap.objs.size + 1) s.heap.objs.size 0 .none := by
    have := Heap.get?_push_size (s.heap.push { cls := .type "tuple_iterator", data := .fields #[.ref t, .int 0 0] })
      (o := { cls := .type "enumerate", data := .fields #[.none, .bool false, .ref s.heap.objs.size, rawInt 0, .none, .none] }) rfl
    rw [hz] at this; exact this
  refine ⟨⟨_, he, rfl⟩, h _ he ⟨_, Heap.get?_push_of_some _ (Heap.get?_push_size _ rfl), rfl, rfl⟩ (by rw [Heap.size_push, hz]) fun b o x => Heap.get?_push_of_some _ (Heap.get?_push_of_some _ x)⟩
end
end PySem
namespace Rx
open PySem PySem.Spec PyProof.Rows L2
/-- the tuple at a as it stands at each turn, each item in a new pair -/
def IteT (K : PySem.W.Frag) (a : Addr) : It :=
  ⟨fun i H => ∃ (xs : List V) (x : V), SqT K H a xs ∧ xs[i]? = some x, fun i H v H' => ∃ T x, v = .ref T ∧ H T = none ∧ H' = upd H T (.tup [.int (i : Nat), x]) ∧ ∀ xs, SqT K H a xs → xs[i]? = some x, fun i H => ∃ xs : List V, SqT K H a xs ∧ xs.length ≤ i⟩
theorem turn_enumT {P : Program} {w : World} {K : PySem.W.Frag} {elts : List Expr} {kk : Nat} {tpos : Pos} (a e it : Addr) (hei : e ≠ it) (hai : a ≠ it) :
    L2.Turn P w K (.Tuple elts kk tpos) (IteT K a) [e, it] e (fun i h => (∃ old, IsEnum h e it ((i : Nat) : Int) old) ∧ h.IsTupleIter it a i) where
  mem := by simp
  obj := fun i h st b hb => by
    obtain ⟨⟨old, he⟩, ⟨o, ho, hc, hd⟩⟩ := st
    have e' : b = e ∨ b = it := by simpa using hb
    rcases e' with z | z
    · rw [z]; exact ⟨_, he, fun v q => nomatch q⟩
    · rw [z]; exact ⟨o, ho, fun v q => by rw [hd] at q; cases q⟩
  keep := fun i h h' st k => let ⟨⟨old, he⟩, hi⟩ := st; ⟨⟨old, k e (by simp) _ he⟩, hi.at fun o q => k it (by simp) o q⟩
  item := by
    intro X hP hw hK hc i pins s σ H E I hf st hg
    subst hP hw hK
    obtain ⟨⟨old, he⟩, hit⟩ := st
    obtain ⟨xs, x, hq, hx⟩ := hg
    obtain ⟨its, rv, p, hz⟩ := I.tuple hq
    obtain ⟨u, hu, ru⟩ := rv.get hx
    have hel : e < s.heap.objs.size := Heap.lt_size he
    have hil : it < s.heap.objs.size := by obtain ⟨_, q, _⟩ := hit; exact Heap.lt_size q
    have hea : e ≠ a := fun z => by
      obtain ⟨o, ho, hc', _⟩ := p
      rw [← z, he] at ho
      cases ho
      simp at hc'
    refine wpAny_pyNext_enum_itemD (Draws.tuple (A := X.A.in1) (I.ok.hd hc) it a hai its.toArray) he ⟨hit, p⟩ (by
      have := rv.length
      have := (List.getElem?_eq_some_iff.mp hx).1
      rw [List.size_toArray]
      omega) hei (by simp [hei, hea]) fun y h' tk hP ho hit' hT hsz hk => ?_
    have ey : y = u := by
      have h1 : its[i]? = some y := by simpa using hP
      rw [hu] at h1
      exact (Option.some.inj h1).symm
    subst ey
    refine ⟨_, rfl, wpAny_letOwnedTupleGo_enum (s := { s with heap := h', toks := tk + 1 }) ho fun h'' he' sb => ?_⟩
    have hT2 : h''.get? s.heap.objs.size = some { cls := .type "tuple", data := .seq #[.int i tk, y] } := (sb.2 _ (Nat.ne_of_gt hel)).trans hT
    have new : ObjOk X.prog X.w (upd H s.heap.objs.size (.tup [.int (i : Nat), x])) h'' s.heap.objs.size (.tup [.int (i : Nat), x]) :=
      ⟨by show 2 ≤ sizeLine; decide, [.int i tk, y], .cons ⟨_, rfl⟩ (.cons ru .nil), ⟨_, hT2, rfl, _, rfl⟩⟩
    have I1 : Inv X pins σ (upd H s.heap.objs.size (.tup [.int (i : Nat), x])) { s with heap := h'', toks := tk + 1 } :=
      I.turnedNew (ch := [e, it]) (fun b ob hb q => (sb.2 b (fun z => hb (by simp [z]))).trans (hk b ob (fun z => hb (by simp [z])) (fun z => hb (by simp [z])) q)) hf (Nat.le_refl _) new
    refine ⟨.ref s.heap.objs.size, _, I1, rfl, ⟨_, x, rfl, I.hok.fresh (Nat.le_refl _), rfl, fun ys hy => by rw [I.tuple_inj hy hq]; exact hx⟩, ⟨⟨y, ?_⟩, hit'.1.at fun o q => (sb.2 it (Ne.symm hei)).trans q⟩, fun b hb => ?_⟩
    · have e1 : ((i + 1 : Nat) : Int) = (i : Int) + 1 := by omega
      rw [e1]; exact he'
    · have hb' : b < s.heap.objs.size := by
        have e' : b = e ∨ b = it := by simpa using hb
        rcases e' with z | z
        · rw [z]; exact hel
        · rw [z]; exact hil
      rw [upd_ne (Nat.ne_of_lt hb')]
      exact (hf b hb).1
  done := by
    intro X hP hw hK hc i pins s σ H E I hf st hg
    subst hP hw hK
    obtain ⟨⟨old, he⟩, hit⟩ := st
    obtain ⟨xs, hq, hx⟩ := hg
    obtain ⟨its, rv, p, hz⟩ := I.tuple hq
    obtain ⟨f0, f1, f2, f3, f4, f5⟩ := hf it (by simp)
    have hl := rv.length
    have D : Draws X.prog X.w X.A.in1 it [it, a] i (fun i v => its.toArray[i]? = some v) (fun j h => j = i ∧ h.IsTupleIter it a i ∧ h.IsTuple a its.toArray) := {
      live := fun _ _ st => let ⟨o, ho, _⟩ := st.2.1; ⟨o, ho⟩
      frame := fun _ _ _ st hk => ⟨st.1, st.2.1.at fun o e => hk it (by simp) o e, st.2.2.at fun o e => hk a (by simp) o e⟩
      item := fun j s Q E hj st hQ => absurd hj (by rw [st.1]; exact Nat.lt_irrefl _)
      done := fun s Q E st hE => wpAny_nextOf_tuple_end (I.ok.hd hc) st.2.1 st.2.2 (by simp; omega) hE }
    refine wpAny_pyNext_enum_endD D he ⟨rfl, hit, p⟩ fun h' eb => ?_
    exact ⟨rfl, I.turned (t' := s.toks) (fun b o hb q => eb b o hb q) f0 f1 f3 f4 f5⟩
  self := fun A i s Q E st h => let ⟨⟨_, he⟩, _⟩ := st; wpAny_pyIter_enum he h
def iEnumT (K : PySem.W.Frag) (ta : TA) : TI := fun σ H R => ta σ H fun vs H1 => ∃ a xs, vs = [.ref a] ∧ SqT K H1 a xs ∧ R (IteT K a) H1
theorem pi_enumT {X : Cx} {K : PySem.W.Frag} {e : PySem.Expr} {ta : TA} {p pos tpos : Pos} {elts : List PySem.Expr} {kk : Nat} (hK : X.K = K) (hg : Gl X "enumerate") (hm : X.mg "enumerate" = none) (ha : PA X [e] ta) (hs : starEach [e] X.env = [(false, eval e X.env)] := by rfl) :
    PI X (.Tuple elts kk tpos) (.Call (.Name "enumerate" p) [e] [] pos) (iEnumT K ta) := by
  subst hK
  refine ⟨fun pins s σ H R I h => ?_⟩
  refine Call_ (ld_blt I hg hm boot_enumerate (PyProof.Rows.callWith_type1 (thn (ha.run pos pins s σ H _ I h) fun us s1 ⟨vs, H1, I1, r1, q1⟩ => ?_) hs rfl))
  obtain ⟨a, xs, ex, hq, q⟩ := q1
  subst ex
  cases r1 with
  | cons r rr =>
    cases rr
    cases r
    obtain ⟨its, rv, p', hz⟩ := I1.tuple hq
    have hal : a < s1.heap.objs.size := by
      obtain ⟨o, ho, _⟩ := p'
      exact Heap.lt_size ho
    refine call_enum_tup p' fun h' he hit hsz hk => wpAny_pyIter_enum he ?_
    have I2 : Inv X pins σ H1 { s1 with heap := h' } := I1.kept (t' := s1.toks) hk
    refine ⟨s1.heap.objs.size + 1, [s1.heap.objs.size + 1, s1.heap.objs.size], _, _, H1, rfl, I2, turn_enumT a (s1.heap.objs.size + 1) s1.heap.objs.size (Nat.succ_ne_self _) (Nat.ne_of_lt hal), ⟨⟨.none, he⟩, hit⟩, fun b hb => ?_, q⟩
    have e' : b = s1.heap.objs.size + 1 ∨ b = s1.heap.objs.size := by simpa using hb
    have hle : s1.heap.objs.size ≤ b := by
      rcases e' with z | z
      · rw [z]; exact Nat.le_add_right _ _
      · rw [z]; exact Nat.le_refl _
    exact I1.fpOk hle (I1.hok.fresh hle)
section
variable {K : PySem.W.Frag} {a : Addr} {xs : List V}
theorem walk_enumT : L2.Walk (IteT K a) xs.length (fun H => SqT K H a xs) (YPair (fun i => some (.int (i : Nat))) (fun i => xs[i]?)) := by
  refine ⟨fun i _ hi q => ⟨xs, xs[i], q, by simp [hi]⟩, fun _ q => ⟨xs, q, Nat.le_refl _⟩, fun i H v H' _ q y => ?_⟩
  obtain ⟨T, x, h1, h2, h3, h4⟩ := y
  exact ⟨T, .int (i : Nat), x, h1, h2, h3, rfl, h4 xs q⟩
end
section
variable {α S : Type} {K : PySem.W.Frag} {H1 : Hp} {g : TG} {tb : TS} {D' : Ends} {σ : L2.St}
theorem for_enumGT {items : List α} {e : α → D} {ms : List Addr} {a : Addr} {xs : List V} {body : (Int × α) → S → (S → Prop) → Prop} {KM : S → Prop} (SI : S → L2.St → Hp → Prop) (s0 : S) (an : a ∉ ms) (ha : H1 a = some (.tup xs)) (hx : repL ms H1 (items.map e) xs)
    (kp : ∀ s σ H, SI s σ H → Keep ms H1 H) (tr : ∀ s σ H, SI s σ H → ∀ m ∈ ms, H m ≠ none) (hM : forC body ((rangeI 0 (items.length : Int)).zip items) s0 KM) (h0 : SI s0 σ H1)
    (hs : ∀ (x : Int × α) (u : V) (s : S) (k : S → Prop) (σ : L2.St) (H H2 : Hp), SI s σ H → Ext H H2 → rep ms H2 (.tup [.v (.int x.1), e x.2]) u → body x s k → ∀ Nx : L2.St → Hp → Prop, (∀ s' σ' H', k s' → SI s' σ' H' → Nx σ' H') →
      g u σ H2 fun σ2 H2 => tb { D' with nx := Nx, ct := Nx, bk := D'.nx } σ2 H2)
    (hd : ∀ s σ H, KM s → SI s σ H → D'.nx σ H) :
    ∃ W : Nat → Nat → L2.St → Hp → Prop, (∃ m, W 0 m σ H1) ∧ ∀ i m σ H, W i m σ H →
      ((IteT K a).stop i H ∧ D'.nx σ H) ∨ ((IteT K a).go i H ∧ ∃ Nx : L2.St → Hp → Prop, (∀ σ' H', Nx σ' H' → ∃ m', m' < m ∧ W (i + 1) m' σ' H') ∧ ∀ x H', (IteT K a).yld i H x H' → g x σ H' fun σ2 H2 => tb { D' with nx := Nx, ct := Nx, bk := D'.nx } σ2 H2) := by
  have hl : items.length = xs.length := by
    have := repL_len hx
    rwa [List.length_map] at this
  have rl : (rangeI 0 (items.length : Int)).length = items.length := by rw [rangeI_len]; omega
  have zl : ((rangeI 0 (items.length : Int)).zip items).length = xs.length := by rw [List.length_zip, rl, hl, Nat.min_self]
  refine for_it (walk_enumT (K := K) (a := a) (xs := xs)) (D := D') (fun i σ H => ∃ s, SI s σ H ∧ forC body (((rangeI 0 (items.length : Int)).zip items).drop i) s KM) ⟨s0, h0, hM⟩ (fun i σ H _ ⟨s, si, _⟩ => .inl (.inl (kp s σ H si a _ an ha))) (fun i u σ H H' hi ⟨s, si, q⟩ y => ?_) (fun σ H ⟨s, si, q⟩ => ?_)
  · obtain ⟨T, x1, x2, rfl, nT, eH, e1, e2⟩ := y
    have hit : items[i]? = some (items[i]'(by omega)) := List.getElem?_eq_getElem (by omega)
    have hz : ((rangeI 0 (items.length : Int)).zip items)[i]? = some ((i : Int), items[i]'(by omega)) := by
      rw [List.getElem?_zip_eq_some]
      exact ⟨by rw [rangeI_get (by omega)]; congr 1; omega, hit⟩
    rw [drop_cons' hz] at q
    obtain ⟨v, hv, rv⟩ := repL_get (repL_keep (kp s σ H si) hx) (j := i) (d := e (items[i]'(by omega))) (by rw [List.getElem?_map, hit]; rfl)
    have e2 : xs[i]? = some x2 := e2
    rw [e2] at hv
    have ev : x2 = v := Option.some.inj hv
    subst ev
    have ev1 : V.int (i : Nat) = x1 := Option.some.inj e1
    subst ev1
    have ex : Ext H H' := by rw [eH]; exact Ext.new nT
    exact hs ((i : Int), items[i]'(by omega)) (.ref T) s _ σ H H' si ex (rep_pair (tr s σ H si) nT eH rep_v rv) q _ fun s' σ' H'' hk si2 => ⟨s', si2, hk⟩
  · rw [List.drop_of_length_le (by omega)] at q
    exact hd s σ H q si
end
section
variable {K : PySem.W.Frag} {ms : List Addr} {ps : List PEn} {H0 H : Hp} {x : V}
theorem rep_iterET {ds : List D} {P : Addr → Prop} (h : rep ms H (.tup ds) x) (k : ∀ a xs, x = .ref a → a ∉ ms → H a = some (.tup xs) → repL ms H ds xs → P a) : ∃ (a : Addr) (xs : List V), [x] = [.ref a] ∧ SqT K H a xs ∧ P a := by
  simp only [rep] at h
  obtain ⟨p, vs, e, n, hp, hr⟩ := h
  exact ⟨p, vs, by rw [e], .inl (.inl hp), k p vs e n hp hr⟩
end
theorem rep_isNL {α : Type} {e : α → D} {ms : List Addr} {H : Hp} {m : Option α} {u : V} (he : ∀ y, ∃ ds, e y = .lst ds) (h : rep ms H (encO e m) u) : decide (u = .non) = m.isNone := by
  cases m with
  | none =>
    rw [of_v h]
    rfl
  | some y =>
    obtain ⟨ds, ed⟩ := he y
    have h' : rep ms H (e y) u := h
    rw [ed] at h'
    simp only [rep] at h'
    obtain ⟨p, _, e1, _⟩ := h'
    rw [e1]
    rfl
theorem rep_isSomeL {α : Type} {e : α → D} {ms : List Addr} {H : Hp} {m : Option α} {u : V} (he : ∀ y, ∃ ds, e y = .lst ds) (h : rep ms H (encO e m) u) : (!decide (u = .non)) = m.isSome := by
  rw [rep_isNL he h]
  cases m <;> rfl
theorem noMs_mapT {α : Type} {e : α → D} (h : ∀ y, noM (e y) = true) : ∀ xs : List α, noMs (xs.map e) = true
  | [] => rfl
  | x :: xs => by
    rw [List.map_cons]
    simp only [noMs, h x, noMs_mapT h xs, Bool.and_self]
theorem mo_dyn {α : Type} {e : α → D} {xs : List α} {ms : List Addr} {ps : List PEn} {H0 H : Hp} {L : Addr} (m : MutO ms ps H0 H L (.lst (xs.map e))) : MutO ms ps H0 H L (.lst ((xs.map e).map fun y_ : D => y_)) := by
  rw [List.map_id']
  exact m
def tFS (ts : List TE) : TE := fun σ H Q => tJs ts Str.empty σ H fun out H1 => Q (.str out) H1
theorem pe_joinedF {X : Cx} {v1 v2 : PySem.Expr} {rest : List PySem.Expr} {ts : List TE} {pos : Pos} (h : PJ X (v1 :: v2 :: rest) ts) : PE X (.JoinedStr (v1 :: v2 :: rest) pos) (tFS ts) := pe_joined h
theorem cr_sumK {X : Cx} {K : PySem.W.Frag} (hK : X.K = K) (hc : X.calm = true) : CallR X (.builtin "sum") (rSum K) := by
  subst hK
  exact cr_sum hc
theorem rep_sumL {ms : List Addr} {H : Hp} {K : PySem.W.Frag} {ns : List Int} {x : V} {P : List Int → Prop} (h : rep ms H (.lst (ns.map (fun y_ : Int => D.v (V.int y_)))) x) (q : P ns) : ∃ (a : Addr) (ns : List Int), [x] = [V.ref a] ∧ SqL K H a (ns.map V.int) ∧ P ns := by
  simp only [rep] at h
  obtain ⟨p, vs, e, _, hp, hr⟩ := h
  have ev := repL_ints hr
  subst ev e
  exact ⟨p, ns, rfl, .inl (.inl hp), q⟩
end Rx
namespace Rx
open PySem PySem.Spec PyProof.Rows L2
section
variable {K : PySem.W.Frag} {ms ms' : List Addr} {ps : List PEn} {H0 H H' H1 : Hp} {L L' : Addr} {d d' : D} {ds : List D} {u x : V} {vs : List V}
/-- an instance that may be called -/
theorem rep_callO {C : Addr} {ns : List Str} {P : Addr → Prop} (h : rep ms H (.ins C ns ds) x) (k : ∀ a, x = .ref a → rep ms H (.ins C ns ds) (.ref a) → P a) : ∃ a, x = .ref a ∧ P a := by
  have h0 := h
  simp only [rep] at h
  obtain ⟨a, dx, us, rfl, na, ha, hn, hl⟩ := h
  exact ⟨a, rfl, k a rfl h0⟩
theorem rep_insC {C a : Addr} {ns : List Str} (h : rep ms H (.ins C ns ds) (.ref a)) : ∃ dx fs, H a = some (.ins C dx fs) := by
  simp only [rep] at h
  obtain ⟨a', dx, us, e, na, ha, hn, hl⟩ := h
  cases e
  exact ⟨_, _, ha⟩
/-- a list that is told: where it stands -/
theorem rep_lstAt (h : rep ms H (.lst ds) u) : ∃ (L : Addr) (vs : List V), u = .ref L ∧ L ∉ ms ∧ H L = some (.lst vs) ∧ repL ms H ds vs := by
  simp only [rep] at h
  obtain ⟨p, vs, e, np, hp, hl⟩ := h
  exact ⟨p, vs, e, np, hp, hl⟩
theorem wd_fresh {o : HO} (w : Wd ms ps [] H0 H) (h : H L = some o) : Wd (L :: ms) ps [] H0 H :=
  ⟨w.kp, w.grow, fun m hm => by
    rcases List.mem_cons.mp hm with z | z
    · rw [z, h]
      exact fun z => nomatch z
    · exact w.tr m z, w.pot, fun a ha => List.mem_cons_of_mem _ (w.pm a ha), fun _ h => absurd h List.not_mem_nil⟩
theorem mo_new (nl : H L = none) (m : MutO ms ps H0 H L' d) : MutO (L :: ms) ps H0 H L' d :=
  ⟨List.mem_cons_of_mem _ m.im, m.hp, m.h0, valO_map (fun p o n hp => ⟨fun z => by
    rcases List.mem_cons.mp z with z | z
    · exact ne_of_none hp nl z
    · exact n z, hp⟩) (fun o h => h) _ m.val⟩
theorem mo_fresh (w : Wd ms ps [] H0 H) (nl : H L = none) (n : L ∉ ms) (hL : H' L = some (.lst vs)) (hr : repL ms H' ds vs) (hn : noMs ds = true) : MutO (L :: ms) ps H0 H' L (.lst ds) :=
  ⟨List.mem_cons_self, pot_new w nl, wd_none w nl, vs, hL, repL_liftO (dr_here (L := L) (ms := ms)) (by rw [hL]; trivial) ds vs hn hr⟩
/-- the last thing popped -/
theorem mo_popE {α : Type} {e : α → D} {xs : List α} {y : α} {Q : VK} (m : MutO ms ps H0 H L (.lst (xs.map e))) (hy : xs.getLast? = some y)
    (k : ∀ vs v, repL ms H (xs.map e) vs → rep ms H (e y) v → Q v (upd H L (.lst vs.dropLast))) :
    ∃ (l : Addr) (xs : List V) (y : V), V.ref L = .ref l ∧ ([] : List V) = [] ∧ H l = some (.lst xs) ∧ xs[xs.length - 1]? = some y ∧ Q y (upd H l (.lst xs.dropLast)) := by
  obtain ⟨vs, h1, h2⟩ := m.val
  have hl := repL_len h2
  rw [List.length_map] at hl
  rw [List.getLast?_eq_getElem?] at hy
  obtain ⟨v, hv, rv⟩ := repL_get (d := e y) h2 (by rw [List.getElem?_map, hy]; rfl)
  exact ⟨L, vs, v, rfl, rfl, h1, by rw [← hl]; exact hv, k vs v h2 rv⟩
theorem repL_dropLast {α : Type} {e : α → D} {xs : List α} (h : repL ms H (xs.map e) vs) : repL ms H (xs.dropLast.map e) vs.dropLast := by
  have hl := repL_len h
  rw [List.length_map] at hl
  have := repL_erase (e := e) (xs.length - 1) h
  rw [List.eraseIdx_length_sub_one] at this
  rw [hl, List.eraseIdx_length_sub_one] at this
  exact this
theorem rep_tupSame {R : Addr → Prop} {P : List V → Addr → Prop} (h : rep ms H (.tup ds) x) (q : ∀ p, x = .ref p → rep ms H (.tup ds) (.ref p) → R p) : ∃ p ys, [x] = [V.ref p] ∧ ((SqL K H p ys ∧ ∀ l, H l = none → P ys l) ∨ (SqT K H p ys ∧ R p)) := by
  have h0 := h
  simp only [rep] at h
  obtain ⟨p, vs, rfl, _, hp, hr⟩ := h
  exact ⟨p, vs, rfl, .inr ⟨.inl (.inl hp), q p rfl h0⟩⟩
theorem noMs_mapF {α : Type} {e : α → D} (h : ∀ y, noM (e y) = true) : ∀ xs : List α, noMs (xs.map e) = true := noMs_mapT h
end
section
variable {K : PySem.W.Frag} {X : Cx} {o : PySem.Expr} {to : TE} {name : Str} {apos cpos : Pos} {T id : String} {r : V → List V → Hp → VK → Prop}
theorem pe_bmN (hK : X.K = K) (pa : PlainAttrs T) (slot : Slot T name id) (hty : typeOf (.builtin id) = pure (.type "method_descriptor")) (hm : MtR X id r) (ho : PE X o to)
    (hbase : attributeBase o name X.env (eval o X.env) = eval o X.env := by rfl) (hline : (apos.endLine == cpos.line) = true := by rfl) : PE X (.Call (.Attribute o name apos) [] [] cpos) (tBM0 K T r to) := by
  subst hK
  exact pe_bm0 pa slot hty hm ho hbase hline
end
/-- an instance called: what is asked of it -/
def tCallI (C : Addr) (sp : Sp) (E : XK) (tf : TE) (t : TA) : TE := fun σ H Q => tf σ H fun y H1 => ∃ a, y = V.ref a ∧ t σ H1 fun vs H2 => (∃ dx fs, H2 a = some (.ins C dx fs)) ∧ sp (V.ref a :: vs) H2 Q E
section
variable {K : PySem.W.Frag} {X : Cx} {C g : Addr} {CX : CXT} {k : Nat} {sp : Sp} {E : XK} {fe e : PySem.Expr} {es : List PySem.Expr} {tf : TE} {t : TA} {pos : Pos} {fd : FuncData} {ps : List Str}
theorem pe_callI (hK : X.K = K) (hf : PE X fe tf) (c : StX.CallO K C g) (F : FnOk X.prog X.w X.K X.mg X.base CX k g fd ps sp) (hb : Binds X.K fd ps []) (hr : Room k X.A) (hx : Passes CX X E) (ha : PA X (e :: es) t)
    (ht : eval (.Call fe (e :: es) [] pos) X.env = (do callWith pos (← eval fe X.env) [] (backTo pos (starEach (e :: es) X.env)) (backToKw pos (keywordEach [] X.env))) := by rfl)
    (he : starEach (e :: es) X.env = (false, eval e X.env) :: starEach es X.env := by rfl) (hpl : (backTo pos (starEach es X.env)).any (·.1) = false := by rfl) : PE X (.Call fe (e :: es) [] pos) (tCallI C sp E tf t) := by
  subst hK
  have p := StX.pe_callO (E := E) (tf := upE tf) (t := fun σ H R => ∃ R0, t σ H R0 ∧ ∀ vs H', R0 vs H' → R vs H') (pe_up hf) c (F.raw hb .nil) hr hx ⟨fun cpos pins s σ H R I ⟨R0, h, m⟩ => thn (ha.run cpos pins s σ H R0 I h) fun us s' ⟨vs, H', I', r, q⟩ => ⟨vs, H', I', r, m vs H' q⟩⟩ ht he hpl
  exact ⟨fun pins s σ H Q I h => p.run pins s σ H Q I ⟨_, h, fun y H1 ⟨a, ey, q⟩ => ⟨a, ey, _, q, fun vs H2 ⟨hi, hs⟩ => ⟨.inr hi, by show sp ((V.ref a :: vs) ++ []) H2 Q E; rw [List.append_nil]; exact hs⟩⟩⟩⟩
end
end Rx
namespace PySem.W
open Lean Elab Tactic Meta PySem PySem.Calls PyProof.Rows
section
variable {prog : Program} {w : World} {A : Around} {E : Value → Shared → Prop} {s : Shared} {K : Frag} {x y C L f : Addr} {h₀ : Heap} {m : Str → Option Value} {ox oy : Obj} {od oe : Option Obj}
/-- both sides of one class -/
theorem own_binC {op : Operator} {Q : Value → Shared → Prop} (F : Fr h₀ L s.heap m) (X₀ : K.In h₀) (I : InstAt s.heap x ox C od) (I2 : InstAt s.heap y oy C oe) (hc : selfFirst K C = true)
    (hs : findIn K (.ref C) (PySem.dunder op.info.2) = some (some (.ref f))) (hf : isFn K (.ref f) = true)
    (h : wpAny (model prog w) A (call (.ref f) [.ref x, .ref y]) (CmpBack Q) E s) : wpAny (model prog w) A (binaryOp op (.ref x) (.ref y)) Q E s := by
  have X := X₀.keeps F.keep
  obtain ⟨cd, rest, hcd, hm⟩ := ksp_first hc
  rcases hi : op.info with ⟨sym, nm'⟩
  rw [hi] at hs
  dsimp only at hs
  have one := ksp_try X I hs hf h
  obtain ⟨hh, g, d, tt, os⟩ := s
  have L1 : Looks (model prog w) hh (typeOf (.ref x)) (.ref C) := I.type
  have L2 : Looks (model prog w) hh (typeOf (.ref y)) (.ref C) := I2.type
  have L3 : Looks (model prog w) hh (fillsNumberSlot (.ref C) nm') true := fills_K X hcd hm hs
  simp only [binaryOp, hi]
  refine wpAny_holding (wpAny_bind ?_)
  unfold binaryOp1
  refine wpAny_bind (L1.at (wpAny_bind (L2.at (wpAny_bind (L3.at ?_)))))
  simp only [beq_self_eq_true, if_true, Bool.and_false, Bool.false_eq_true, if_false]
  repeat ((fail_if_success (with_reducible show wpAny _ _ (tryMethod _ _ _) _ _ _)); lk)
  refine wpAny_mono one (fun r s' hr' => ?_) fun _ _ e => e
  obtain ⟨v, rfl, hq⟩ := hr'
  repeat ((fail_if_success (with_reducible show wpAny _ _ (tryMethod _ _ _) _ _ _)); lk)
  exact hq
end
end PySem.W
namespace Rx
open PySem PySem.Spec PyProof.Rows L2
/-- C's own operator op, and what it needs beside whole numbers -/
structure OwnBin (K : PySem.W.Frag) (C : Addr) (op : Operator) (f : Addr) : Prop where
  first : PySem.W.selfFirst K C = true
  hs : PySem.W.findIn K (.ref C) (PySem.dunder op.info.2) = some (some (.ref f))
  hf : PySem.W.isFn K (.ref f) = true
structure OwnBinT (K : PySem.W.Frag) (C : Addr) (op : Operator) (f : Addr) : Prop extends OwnBin K C op f where
  hr : ∃ rc : Option Value, PySem.W.findIn K (.ref C) (dunderR op.info.2) = some rc ∧ (rc = none ∨ ∃ g : Addr, rc = some (.ref g))
  i1 : ∃ fo : Option Value, PySem.W.findIn K (.type "int") (PySem.dunder op.info.2) = some fo
  i2 : ∃ ro : Option Value, PySem.W.findIn K (.type "int") (dunderR op.info.2) = some ro
def rOwnBin (C : Addr) (sp : Sp) (E : XK) : R2 := fun x y H Q => ∃ a dx fs b dy gs, x = .ref a ∧ H a = some (.ins C dx fs) ∧ y = .ref b ∧ H b = some (.ins C dy gs) ∧ sp [x, y] H (fun v H' => ∃ p : Addr, v = .ref p ∧ Q v H') E
def rOwnBinT (C : Addr) (sp : Sp) (E : XK) : R2 := fun x y H Q => ∃ a dx fs n, x = .ref a ∧ H a = some (.ins C dx fs) ∧ y = .int n ∧ sp [x, y] H (fun v H' => ∃ p : Addr, v = .ref p ∧ Q v H') E
theorem op_ownBin {X : Cx} {K : PySem.W.Frag} (hK : X.K = K) {op : Operator} {n : Nat} {CX : CXT} {C f : Addr} {fd : FuncData} {ps : List Str} {sp : Sp} {E : XK} (F : FnOk X.prog X.w X.K X.mg X.base CX n f fd ps sp) (hr : Room n X.A)
    (o : OwnBin K C op f) (hb : Binds X.K fd ps []) (hx : Passes CX X E) : OpR X (binaryOp op) (rOwnBin C sp E) := by
  subst hK
  intro pins s σ H x y v u Q I rx ry d
  obtain ⟨a, dx, fs, b, dy, gs, rfl, ha, rfl, hb', hsp⟩ := d
  cases rx
  cases ry
  obtain ⟨mA, J, _⟩ := ins_get I.hok ha
  obtain ⟨od, J, _⟩ := J.look
  obtain ⟨mB, J2, _⟩ := ins_get I.hok hb'
  obtain ⟨oe, J2, _⟩ := J2.look
  obtain ⟨m, hF⟩ := I.fr
  refine PySem.W.own_binC hF I.ok.mod.kin J J2 o.first o.hs o.hf ?_
  have hl := F.len _ _ _ _ hsp
  have r2 : Vals [V.ref a, V.ref b] [Value.ref a, Value.ref b] := .cons rfl (.cons rfl .nil)
  refine wpAny_call (codeAny_mono (F.run X.A X.stack s H ⟨[.ref a, .ref b], []⟩ [.ref a, .ref b] [.ref a, .ref b] _ E hr I.env0 (by
    have := hb s [.ref a, .ref b] I.kIn (by simpa using hl)
    simpa using this) r2 hsp) fun r s' hq => ?_)
  cases r with
  | error e => exact hx pins σ H s e s' I hq
  | ok fl =>
    cases fl with
    | ret w =>
      obtain ⟨z, H', I', rz, ⟨r, ez, q⟩⟩ := I.after hq
      subst ez
      cases (show w = Value.ref r from rz)
      exact ⟨.ref r, H', I', rfl, q⟩
    | next => exact False.elim hq
    | brk => exact False.elim hq
    | cont => exact False.elim hq
theorem op_ownBinT {X : Cx} {K : PySem.W.Frag} (hK : X.K = K) {op : Operator} {n : Nat} {CX : CXT} {C f : Addr} {fd : FuncData} {ps : List Str} {sp : Sp} {E : XK} (F : FnOk X.prog X.w X.K X.mg X.base CX n f fd ps sp) (hr : Room n X.A)
    (o : OwnBinT K C op f) (hb : Binds X.K fd ps []) (hx : Passes CX X E) : OpR X (binaryOp op) (rOwnBinT C sp E) := by
  subst hK
  intro pins s σ H x y v u Q I rx ry d
  obtain ⟨a, dx, fs, k, rfl, ha, rfl, hsp⟩ := d
  cases rx
  obtain ⟨mA, J, _⟩ := ins_get I.hok ha
  obtain ⟨od, J, _⟩ := J.look
  obtain ⟨m, hF⟩ := I.fr
  obtain ⟨rc, h1, h2⟩ := o.hr
  obtain ⟨fo, h3⟩ := o.i1
  obtain ⟨ro, h4⟩ := o.i2
  obtain ⟨tk, rfl⟩ : ∃ t, u = .int k t := ry
  refine PySem.W.ksp_binT (T := "int") hF I.ok.mod.kin J rfl o.first o.hs o.hf h1 h2 h3 h4 sub_int ?_
  have hl := F.len _ _ _ _ hsp
  have r2 : Vals [V.ref a, V.int k] [Value.ref a, .int k tk] := .cons rfl (.cons ⟨tk, rfl⟩ .nil)
  refine wpAny_call (codeAny_mono (F.run X.A X.stack s H ⟨[.ref a, .int k tk], []⟩ [.ref a, .int k tk] [.ref a, .int k] _ E hr I.env0 (by
    have := hb s [.ref a, .int k tk] I.kIn (by simpa using hl)
    simpa using this) r2 hsp) fun r s' hq => ?_)
  cases r with
  | error e => exact hx pins σ H s e s' I hq
  | ok fl =>
    cases fl with
    | ret w =>
      obtain ⟨z, H', I', rz, ⟨r, ez, q⟩⟩ := I.after hq
      subst ez
      cases (show w = Value.ref r from rz)
      exact ⟨.ref r, H', I', rfl, q⟩
    | next => exact False.elim hq
    | brk => exact False.elim hq
    | cont => exact False.elim hq
def rLcm : List V → Hp → VK → Prop := fun vs H Q => ∃ a b : Int, vs = [.int a, .int b] ∧ a.natAbs < 2 ^ 64 ∧ b.natAbs < 2 ^ 64 ∧ Q (.int ((Nat.lcm a.natAbs b.natAbs : Nat) : Int)) H
theorem cr_lcm {X : Cx} : CallR X (.builtin "math.lcm") rLcm := by
  intro pins s σ H vs us Q I r h
  obtain ⟨a, b, rfl, h1, h2, q⟩ := h
  obtain ⟨t, u, rfl⟩ := Vals.int2 r
  exact PySem.W.mc_lcm h1 h2 fun _ => ⟨.int _, H, I.tok _, ⟨_, rfl⟩, q⟩
theorem rep_insA {ms : List Addr} {H : Hp} {C : Addr} {ns : List Str} {ds : List D} {x : V} (h : rep ms H (.ins C ns ds) x) : ∃ a dx fs, x = .ref a ∧ H a = some (.ins C dx fs) := by
  simp only [rep] at h
  obtain ⟨a, dx, us, rfl, na, ha, hn, hl⟩ := h
  exact ⟨a, dx, _, rfl, ha⟩
theorem rep_ownBin {ms : List Addr} {H : Hp} {C : Addr} {ns ns' : List Str} {ds ds' : List D} {x y : V} {sp : Sp} {E : XK} {Q : VK} (h : rep ms H (.ins C ns ds) x) (h' : rep ms H (.ins C ns' ds') y)
    (k : sp [x, y] H (fun v H' => ∃ p : Addr, v = .ref p ∧ Q v H') E) : rOwnBin C sp E x y H Q := by
  obtain ⟨a, dx, fs, e1, e2⟩ := rep_insA h
  obtain ⟨b, dy, gs, e3, e4⟩ := rep_insA h'
  exact ⟨a, dx, fs, b, dy, gs, e1, e2, e3, e4, k⟩
theorem rep_ownBinT {ms : List Addr} {H : Hp} {C : Addr} {ns : List Str} {ds : List D} {x : V} {n : Int} {sp : Sp} {E : XK} {Q : VK} (h : rep ms H (.ins C ns ds) x)
    (k : sp [x, .int n] H (fun v H' => ∃ p : Addr, v = .ref p ∧ Q v H') E) : rOwnBinT C sp E x (.int n) H Q := by
  obtain ⟨a, dx, fs, e1, e2⟩ := rep_insA h
  exact ⟨a, dx, fs, n, e1, e2, rfl, k⟩
section
variable {α γ β : Type} {K : PySem.W.Frag} {H1 : Hp} {g : TG} {tt : TT} {te : TE} {vl : List Nat} {σ : L2.St} {Qd : Hp → Prop} {L : Addr}
theorem lc_zipG {items : List α} {items2 : List γ} {e : α → D} {e2 : γ → D} {ms : List Addr} {a b : Addr} {xs zs : List V} {body : (α × γ) → (β → Prop) → Prop} {KM : List β → Prop} (SI : Nat → List β → Hp → Prop) (an : a ∉ ms) (ha : H1 a = some (.lst xs)) (hx : repL ms H1 (items.map e) xs)
    (bn : b ∉ ms) (hb : H1 b = some (.lst zs)) (hz : repL ms H1 (items2.map e2) zs) (nl : H1 L = none)
    (kp : ∀ n ys H, SI n ys H → Keep (L :: ms) H1 H) (tr : ∀ n ys H, SI n ys H → ∀ m ∈ L :: ms, H m ≠ none) (hM : (items.zip items2).length < 100000 ∧ mapC body (items.zip items2) [] KM) (h0 : SI 0 [] (upd H1 L (.lst [])))
    (hs : ∀ (x : α × γ) (u : V) (n : Nat) (ys : List β) (k : β → Prop) (H H2 : Hp), n < 100000 → SI n ys H → Ext H H2 → rep (L :: ms) H2 (.tup [e x.1, e2 x.2]) u → body x k → ∀ Nx : Hp → Prop, (∀ y H', k y → SI (n + 1) (ys ++ [y]) H' → Nx H') → Turn g tt te vl σ L u H2 Nx)
    (hd : ∀ n ys H, KM ys → SI n ys H → Qd H) :
    ∃ W : Nat → Nat → Hp → Prop, (∃ m, W 0 m (upd H1 L (.lst []))) ∧ ∀ i m H, W i m H →
      ((Itz K a b).stop i H ∧ Qd H) ∨ ((Itz K a b).go i H ∧ ∃ Nx : Hp → Prop, (∀ H', Nx H' → ∃ m', m' < m ∧ W (i + 1) m' H') ∧ ∀ x H', (Itz K a b).yld i H x H' → g x (wipe σ vl) H' fun σ2 H2 => wipe σ2 vl = wipe σ vl ∧ tt σ2 H2 fun b H3 =>
        if b = true then te σ2 H3 fun y H4 => ∃ acc, H4 L = some (.lst acc) ∧ acc.length < sizeLine ∧ Nx (upd H4 L (.lst (acc ++ [y]))) else Nx H3) := by
  obtain ⟨hn, hM⟩ := hM
  have hl : items.length = xs.length := by
    have := repL_len hx
    rwa [List.length_map] at this
  have hl2 : items2.length = zs.length := by
    have := repL_len hz
    rwa [List.length_map] at this
  have zl : (items.zip items2).length = min xs.length zs.length := by rw [List.length_zip, hl, hl2]
  have aM : a ∉ L :: ms := fun z => by
    rcases List.mem_cons.mp z with z | z
    · exact ne_of_none ha nl z
    · exact an z
  have bM : b ∉ L :: ms := fun z => by
    rcases List.mem_cons.mp z with z | z
    · exact ne_of_none hb nl z
    · exact bn z
  have hx1 : repL (L :: ms) H1 (items.map e) xs := repL_new nl hx
  have hz1 : repL (L :: ms) H1 (items2.map e2) zs := repL_new nl hz
  have w := walk_zip (K := K) (a := a) (b := b) (xs := xs) (ys := zs) (n := (items.zip items2).length) zl
  refine ⟨fun i m H => m = (items.zip items2).length - i ∧ i ≤ (items.zip items2).length ∧ ∃ ys, SI i ys H ∧ mapC body ((items.zip items2).drop i) ys KM, ⟨_, rfl, Nat.zero_le _, [], h0, hM⟩, ?_⟩
  rintro i m H ⟨rfl, hi', ys, T, q⟩
  have hA : H a = some (.lst xs) := kp i ys H T a _ aM ha
  have hB : H b = some (.lst zs) := kp i ys H T b _ bM hb
  have hG : SqL K H a xs ∧ SqL K H b zs := ⟨.inl (.inl hA), .inl (.inl hB)⟩
  by_cases hlt : i < (items.zip items2).length
  · refine .inr ⟨w.goes i H hlt hG, fun H' => i + 1 ≤ (items.zip items2).length ∧ ∃ ys, SI (i + 1) ys H' ∧ mapC body ((items.zip items2).drop (i + 1)) ys KM, fun H' p' => ⟨_, by omega, rfl, p'⟩, fun x H' y => ?_⟩
    obtain ⟨T', x1, x2, rfl, nT, eH, e1, e3⟩ := w.yields i H x H' hlt hG y
    have l1 : i < items.length := by rw [zl] at hlt; omega
    have l2 : i < items2.length := by rw [zl] at hlt; omega
    have hit : (items.zip items2)[i]? = some (items[i]'l1, items2[i]'l2) := by
      rw [List.getElem?_zip_eq_some]
      exact ⟨List.getElem?_eq_getElem l1, List.getElem?_eq_getElem l2⟩
    rw [drop_cons' hit] at q
    obtain ⟨v, hv, rv⟩ := repL_get (repL_keep (kp i ys H T) hx1) (j := i) (d := e (items[i]'l1)) (by rw [List.getElem?_map, List.getElem?_eq_getElem l1]; rfl)
    obtain ⟨v2, hv2, rv2⟩ := repL_get (repL_keep (kp i ys H T) hz1) (j := i) (d := e2 (items2[i]'l2)) (by rw [List.getElem?_map, List.getElem?_eq_getElem l2]; rfl)
    have e1 : xs[i]? = some x1 := e1
    have e3 : zs[i]? = some x2 := e3
    rw [e1] at hv
    rw [e3] at hv2
    have ev : x1 = v := Option.some.inj hv
    have ev2 : x2 = v2 := Option.some.inj hv2
    subst ev
    subst ev2
    exact hs _ _ i ys _ H H' (by omega) T (by rw [eH]; exact Ext.new nT) (rep_pair (tr i ys H T) nT eH rv rv2) q _ fun y H'' k T' => ⟨hlt, _, T', k⟩
  · have ei : i = (items.zip items2).length := by omega
    refine .inl ⟨by rw [ei]; exact w.stops H hG, ?_⟩
    rw [List.drop_of_length_le (by omega)] at q
    exact hd _ ys H q T
end
end Rx
namespace Rx
open PySem PySem.Spec PyProof.Rows L2
section
variable {K : PySem.W.Frag} {ms ms' : List Addr} {ps : List PEn} {H0 H H' H1 : Hp} {L L' : Addr} {d d' : D} {ds : List D} {u x : V} {vs : List V}
/-- a tuple that is told: where it stands -/
theorem rep_tupAt (h : rep ms H (.tup ds) u) : ∃ (p : Addr) (vs : List V), u = .ref p ∧ p ∉ ms ∧ H p = some (.tup vs) ∧ repL ms H ds vs := by
  simp only [rep] at h
  obtain ⟨p, vs, e, np, hp, hl⟩ := h
  exact ⟨p, vs, e, np, hp, hl⟩
theorem mo_freshA {a b : Addr} {ds1 : List D} {vs1 vs2 : List V} (w : Wd ms ps [] H0 H) (na : H a = none) (hA : H' a = some (.lst vs1)) (hB : H' b = some (.lst vs2)) (hr : repL ms H' ds1 vs1) (hn : noMs ds1 = true) :
    MutO (b :: a :: ms) ps H0 H' a (.lst ds1) :=
  ⟨List.mem_cons_of_mem _ List.mem_cons_self, pot_new w na, wd_none w na, vs1, hA,
    repL_liftO (dr_here (L := b) (ms := a :: ms)) (by rw [hB]; trivial) ds1 vs1 hn (repL_liftO (dr_here (L := a) (ms := ms)) (by rw [hA]; trivial) ds1 vs1 hn hr)⟩
theorem mo_freshB {a b : Addr} {ds2 : List D} {vs1 vs2 : List V} (w : Wd ms ps [] H0 H) (nb : H b = none) (hA : H' a = some (.lst vs1)) (hB : H' b = some (.lst vs2)) (hr : repL ms H' ds2 vs2) (hn : noMs ds2 = true) :
    MutO (b :: a :: ms) ps H0 H' b (.lst ds2) :=
  ⟨List.mem_cons_self, pot_new w nb, wd_none w nb, vs2, hB,
    repL_liftO (dr_here (L := b) (ms := a :: ms)) (by rw [hB]; trivial) ds2 vs2 hn (repL_liftO (dr_here (L := a) (ms := ms)) (by rw [hA]; trivial) ds2 vs2 hn hr)⟩
theorem rep_opq {p a b : Addr} {x : V} {vs1 vs2 : List V} (n : p ∉ ms) (hp : H p = some (.tup [x, .ref a, .ref b])) (hA : H a = some (.lst vs1)) (hB : H b = some (.lst vs2)) : rep (b :: a :: ms) H (.tup [.v x, .v (.ref a), .v (.ref b)]) (.ref p) := by
  simp only [rep]
  refine ⟨p, _, rfl, fun z => ?_, hp, repL_cons rep_v (repL_cons rep_v (repL_cons rep_v repL_nil))⟩
  rcases List.mem_cons.mp z with z | z
  · rw [z, hB] at hp
    cases hp
  · rcases List.mem_cons.mp z with z | z
    · rw [z, hA] at hp
      cases hp
    · exact n z
theorem rep_retup {a b : Addr} {d1 d2 : D} (h : rep ms H (.tup [.v x, .v (.ref a), .v (.ref b)]) u) (h1 : rep ms H d1 (.ref a)) (h2 : rep ms H d2 (.ref b)) : rep ms H (.tup [.v x, d1, d2]) u := by
  obtain ⟨p, vs, rfl, np, hp, hr⟩ := rep_tupAt h
  obtain ⟨u0, us, rfl, h3, hr⟩ := repL_uncons hr
  obtain ⟨u1, us, rfl, h4, hr⟩ := repL_uncons hr
  obtain ⟨u2, us, rfl, h5, hr⟩ := repL_uncons hr
  obtain rfl := repL_empty hr
  obtain rfl := of_v h3
  obtain rfl := of_v h4
  obtain rfl := of_v h5
  simp only [rep]
  exact ⟨p, _, rfl, np, hp, repL_cons rep_v (repL_cons h1 (repL_cons h2 repL_nil))⟩
/-- a list said some times -/
theorem repL_rep {α : Type} {e : α → D} {xs : List α} (h : repL ms H (xs.map e) vs) : ∀ k : Nat, repL ms H (((List.replicate k xs).flatten).map e) (List.replicate k vs).flatten
  | 0 => repL_nil
  | k + 1 => by
    rw [List.replicate_succ, List.flatten_cons, List.map_append, List.replicate_succ, List.flatten_cons]
    exact repL_app h (repL_rep h k)
theorem rep_mulL {α : Type} {e : α → D} {xs : List α} {k : Int} {Q : VK} (h : rep ms H (.lst (xs.map e)) x) (hk : -(2 ^ 63) ≤ k ∧ k < 2 ^ 63 ∧ xs.length * k.toNat ≤ sizeLine)
    (q : ∀ vs, repL ms H (((List.replicate k.toNat xs).flatten).map e) vs → ∀ p, H p = none → Q (.ref p) (upd H p (.lst vs))) :
    ∃ (l : Addr) (k' : Int) (xs : List V), x = .ref l ∧ V.int k = .int k' ∧ H l = some (.lst xs) ∧ -(2 ^ 63) ≤ k' ∧ k' < 2 ^ 63 ∧ xs.length * k'.toNat ≤ sizeLine ∧ ∀ p, H p = none → Q (.ref p) (upd H p (.lst (List.replicate k'.toNat xs).flatten)) := by
  obtain ⟨l, vs, rfl, _, hl, hr⟩ := rep_lstAt h
  have e1 := repL_len hr
  rw [List.length_map] at e1
  exact ⟨l, k, vs, rfl, rfl, hl, hk.1, hk.2.1, by rw [← e1]; exact hk.2.2, q _ (repL_rep hr _)⟩
end
end Rx
namespace Rx
open PySem PySem.Spec PyProof.Rows L2
def max3 (a b c : Int) : Int := if (if a < b then b else a) < c then c else (if a < b then b else a)
theorem max3_int (a b c : Int) : L2.nuMax3 (.int a) (.int b) (.int c) = some (.int (max3 a b c)) := by
  unfold max3
  by_cases h1 : a < b
  · by_cases h2 : b < c <;> simp [L2.nuMax3, L2.nuMax2, L2.nuLt, L2.nuCB, h1, h2]
  · by_cases h2 : a < c <;> simp [L2.nuMax3, L2.nuMax2, L2.nuLt, L2.nuCB, h1, h2]
end Rx
namespace Rx
open PySem PySem.Spec PyProof.Rows L2
theorem wipe_get (σ : L2.St) : ∀ (vl : List Nat) (j : Nat), (L2.wipe σ vl)[j]? = if j ∈ vl then (if j < σ.length then some none else none) else σ[j]?
  | [], j => by simp [L2.wipe]
  | v :: vs, j => by
    show ((L2.wipe σ vs).set v none)[j]? = _
    rw [List.getElem?_set, L2.wipe_length, wipe_get σ vs j]
    by_cases h : v = j
    · subst h
      simp
    · have h' : ¬ j = v := fun z => h z.symm
      simp [h, h']
theorem wipe_set {σ : L2.St} {vl : List Nat} {i : Nat} {x : Option V} (h : i ∈ vl) : L2.wipe (List.set σ i x) vl = L2.wipe σ vl := by
  apply List.ext_getElem?
  intro j
  rw [wipe_get, wipe_get, List.length_set, List.getElem?_set]
  by_cases c : j ∈ vl
  · rw [if_pos c, if_pos c]
  · have n : ¬ i = j := fun z => c (by rw [← z]; exact h)
    simp [c, n]
theorem wipe_idem {σ : L2.St} {vl : List Nat} : L2.wipe (L2.wipe σ vl) vl = L2.wipe σ vl := by
  apply List.ext_getElem?
  intro j
  rw [wipe_get, L2.wipe_length, wipe_get]
  by_cases c : j ∈ vl <;> simp [c]
theorem rep_mulLC {α : Type} {e : α → D} {xs : List α} {k : Int} {σ : L2.St} {Q : VK} {ms : List Addr} {H : Hp} {x : V} (h : rep ms H (.lst (xs.map e)) x) (hk : -(2 ^ 63) ≤ k ∧ k < 2 ^ 63 ∧ xs.length * k.toNat ≤ sizeLine)
    (q : ∀ vs, repL ms H (((List.replicate k.toNat xs).flatten).map e) vs → ∀ p, H p = none → Q (.ref p) (upd H p (.lst vs))) : tC (V.int k) σ H fun y H2 => rRep x y H2 Q := rep_mulL h hk q
end Rx
namespace Rx
open PySem PySem.Spec PyProof.Rows L2
theorem gs_ne {σ : L2.St} {i j : Nat} {a : Option V} {r : Option (Option V)} (h : i ≠ j) (q : σ[j]? = r) : (List.set σ i a)[j]? = r := by
  rw [List.getElem?_set, if_neg h]
  exact q
theorem gs_eq {σ : L2.St} {i : Nat} {a : Option V} (h : i < σ.length) : (List.set σ i a)[i]? = some a := by
  rw [List.getElem?_set, if_pos rfl, if_pos h]
theorem gw_ne {σ : L2.St} {vl : List Nat} {j : Nat} {r : Option (Option V)} (h : j ∉ vl) (q : σ[j]? = r) : (L2.wipe σ vl)[j]? = r := by
  rw [wipe_get, if_neg h]
  exact q
end Rx
namespace PySem.W
open Lean Elab Tactic Meta PySem PySem.Calls PyProof.Rows
section
variable {prog : Program} {w : World} {M : Model} {A : Around} {E : Value → Shared → Prop} {s : Shared} {K : Frag} {y C L f g : Addr} {h₀ : Heap} {m : Str → Option Value} {oy : Obj} {oe : Option Obj} {n : Int} {t : Tok}
theorem asInt_obj {Q : Option Int → Shared → Prop} (hP : s.heap.get? y = some oy) (hd : oy.data = .plain) (q : Q none s) : wpAny M A (asInt? (.ref y)) Q E s := by
  obtain ⟨c0, d0, dt, sl⟩ := oy
  dsimp only at hd
  subst hd
  show wpAny M A (load y >>= _) Q E s
  refine wpAny_bind (wpAny_load hP ?_)
  exact wpAny_pure q
theorem int_declO {name : String} {f : Int → Int → Sem Fin} {R : Result → Shared → Prop} {F : Fin → Shared → Prop} {E' : Value → Shared → Prop} (hP : s.heap.get? y = some oy) (hd : oy.data = .plain) (hq : F (.done (.ret .notImplemented)) s) :
    wpAny M A (Builtin.Int.intBinary name f false ⟨[.int n t, .ref y], []⟩) F E' s := by
  unfold Builtin.Int.intBinary
  refine wpAny_bind (wpAny_of_eq (show _ = pure (Value.int n t, [Value.ref y]) from rfl) ?_)
  refine wpAny_bind (wpAny_of_eq (show Builtin.Int.intOfSelf (Value.int n t) = pure n from rfl) ?_)
  refine wpAny_bind (asInt_obj hP hd ?_)
  refine wpAny_bind (wpAny_rule ?_)
  exact wpAny_pure hq
theorem int_addO {Q : Value → Shared → Prop} (h : s.heap.get? y = some oy) (hd : oy.data = .plain) (q : Q .notImplemented s) : wpAny (model prog w) A (call (.builtin "int.__add__") [.int n t, .ref y]) Q E s :=
  call_givesAt (P := fun s => s.heap.get? y = some oy) F.slot_int_add (typeIs_int s n t) F.entry_int_add (F.args_int_add_2 _ _) (m := .val .notImplemented) (fun prog w A R s hP hq => int_declO (R := R) hP hd hq) h q
theorem int_mulO {Q : Value → Shared → Prop} (h : s.heap.get? y = some oy) (hd : oy.data = .plain) (q : Q .notImplemented s) : wpAny (model prog w) A (call (.builtin "int.__mul__") [.int n t, .ref y]) Q E s :=
  call_givesAt (P := fun s => s.heap.get? y = some oy) F.slot_int_mul (typeIs_int s n t) F.entry_int_mul (F.args_int_mul_2 _ _) (m := .val .notImplemented) (fun prog w A R s hP hq => int_declO (R := R) hP hd hq) h q
theorem try_addO (Q : Option Value → Shared → Prop) (h : wpAny (model prog w) A (call (.builtin "int.__add__") [.int n t, .ref y]) (fun v s2 => v = .notImplemented ∧ Q none s2) E s) : wpAny (model prog w) A (tryMethod (.int n t) (PySem.dunder "add") (.ref y)) Q E s :=
   @wpAny_tryMethod_declines (model prog w) A E s (.int n t) (.ref y) "int" (PySem.dunder "add") "int.__add__" Q (typeIs_int _ _ _) F.slot_int_add h
theorem try_mulO (Q : Option Value → Shared → Prop) (h : wpAny (model prog w) A (call (.builtin "int.__mul__") [.int n t, .ref y]) (fun v s2 => v = .notImplemented ∧ Q none s2) E s) : wpAny (model prog w) A (tryMethod (.int n t) (PySem.dunder "mul") (.ref y)) Q E s :=
   @wpAny_tryMethod_declines (model prog w) A E s (.int n t) (.ref y) "int" (PySem.dunder "mul") "int.__mul__" Q (typeIs_int _ _ _) F.slot_int_mul h
/-- a whole number on the left, C's own reflected operator on the right -/
theorem own_binR {op : Operator} {Q : Value → Shared → Prop} (F : Fr h₀ L s.heap m) (X₀ : K.In h₀) (I : InstAt s.heap y oy C oe) (hc : selfFirst K C = true)
    (hs : findIn K (.ref C) (PySem.dunder op.info.2) = some (some (.ref f))) (hr : findIn K (.ref C) (dunderR op.info.2) = some (some (.ref g))) (hg : isFn K (.ref g) = true)
    (hfill : fillsNumberSlot (.type "int") op.info.2 = pure true) (hsub : subIn K (.ref C) (.type "int") = some false)
    (hdec : ∀ (Q : Option Value → Shared → Prop), Q none s → wpAny (model prog w) A (tryMethod (.int n t) (PySem.dunder op.info.2) (.ref y)) Q E s)
    (h : wpAny (model prog w) A (call (.ref g) [.ref y, .int n t]) (CmpBack Q) E s) : wpAny (model prog w) A (binaryOp op (.int n t) (.ref y)) Q E s := by
  have X := X₀.keeps F.keep
  obtain ⟨cd, rest, hcd, hm⟩ := ksp_first hc
  rcases hi : op.info with ⟨sym, nm'⟩
  rw [hi] at hs hr hfill hdec
  dsimp only at hs hr hfill hdec
  have one := ksp_try X I hr hg h
  obtain ⟨hh, gg, d, tt, os⟩ := s
  have L1 : Looks (model prog w) hh (typeOf (.int n t)) (.type "int") := Looks.of_pure rfl
  have L2 : Looks (model prog w) hh (typeOf (.ref y)) (.ref C) := I.type
  have L3 : Looks (model prog w) hh (fillsNumberSlot (.type "int") nm') true := Looks.of_pure hfill
  have L4 : Looks (model prog w) hh (fillsNumberSlot (.ref C) nm') true := fills_K X hcd hm hs
  have L5 : Looks (model prog w) hh (isSubtype (.ref C) (.type "int")) false := looks_subIn X hsub
  have L7 : Looks (model prog w) hh (numberSlotInPython (.type "int") nm') false := Looks.of_pure rfl
  have hne : (Value.type "int" == Value.ref C) = false := Bool.eq_false_iff.mpr fun q => by cases beq_iff_eq.mp q
  simp only [binaryOp, hi]
  refine wpAny_holding (wpAny_bind ?_)
  unfold binaryOp1
  refine wpAny_bind (L1.at (wpAny_bind (L2.at (wpAny_bind (L3.at ?_)))))
  simp only [hne, Bool.false_eq_true, if_false]
  repeat ((fail_if_success (with_reducible show wpAny _ _ (tryMethod _ _ _) _ _ _)); lk)
  refine hdec _ ?_
  repeat ((fail_if_success (with_reducible show wpAny _ _ (tryMethod _ _ _) _ _ _)); lk)
  refine wpAny_mono one (fun r s' hr' => ?_) fun _ _ e => e
  obtain ⟨v, rfl, hq⟩ := hr'
  repeat ((fail_if_success (with_reducible show wpAny _ _ (tryMethod _ _ _) _ _ _)); lk)
  exact hq
end
end PySem.W
namespace Rx
open PySem PySem.Spec PyProof.Rows L2 RZ
def rIsqrt : List V → Hp → VK → Prop := fun vs H Q => ∃ a : Int, vs = [.int a] ∧ 0 ≤ a ∧ a.toNat.log2 < 13000 ∧ Q (.int ((Float64.isqrt a.toNat : Nat) : Int)) H
theorem cr_isqrt {X : Cx} : CallR X (.builtin "math.isqrt") rIsqrt := by
  intro pins s σ H vs us Q I r h
  obtain ⟨a, rfl, h0, h1, q⟩ := h
  obtain ⟨u, rfl, t, rfl⟩ : ∃ u, us = [u] ∧ ∃ t, u = .int a t := by
    cases r with
    | cons h1 h2 =>
      cases h2
      exact ⟨_, rfl, h1⟩
  exact call_function_meets PySem.W.MGF.kind_isqrt PySem.W.MGF.plain_isqrt PySem.W.MGF.entry_isqrt (PySem.W.MGF.args_isqrt _) (PySem.W.mg_run_isqrt a t (by omega) (by omega) (by omega)).meets ⟨.int _, H, I.tok _, ⟨_, rfl⟩, q⟩
/-- C's own minus sign -/
structure OwnNeg (K : PySem.W.Frag) (C f : Addr) : Prop where
  hs : PySem.W.findIn K (.ref C) "__neg__" = some (some (.ref f))
  hf : PySem.W.isFn K (.ref f) = true
def rOwnNeg (C : Addr) (sp : Sp) (E : XK) : V → Hp → VK → Prop := fun x H Q => ∃ a dx fs, x = .ref a ∧ H a = some (.ins C dx fs) ∧ sp [x] H Q E
theorem un_ownNeg {X : Cx} {K : PySem.W.Frag} (hK : X.K = K) {n : Nat} {CX : CXT} {C f : Addr} {fd : FuncData} {ps : List Str} {sp : Sp} {E : XK} (F : FnOk X.prog X.w X.K X.mg X.base CX n f fd ps sp) (hr : Room n X.A)
    (o : OwnNeg K C f) (hb : Binds X.K fd ps []) (hx : Passes CX X E) : UnR X (unaryOp .USub) (rOwnNeg C sp E) := by
  subst hK
  intro pins s σ H x v Q I rx d
  obtain ⟨a, dx, fs, rfl, ha, hsp⟩ := d
  cases rx
  obtain ⟨mA, J, _⟩ := ins_get I.hok ha
  obtain ⟨od, J, _⟩ := J.look
  obtain ⟨m, hF⟩ := I.fr
  refine PySem.W.ksp_neg hF I.ok.mod.kin J o.hs o.hf ?_
  have hl := F.len _ _ _ _ hsp
  have r2 : Vals [V.ref a] [Value.ref a] := .cons rfl .nil
  refine wpAny_call (codeAny_mono (F.run X.A X.stack s H ⟨[.ref a], []⟩ [.ref a] [.ref a] _ E hr I.env0 (by
    have := hb s [.ref a] I.kIn (by simpa using hl)
    simpa using this) r2 hsp) fun r s' hq => ?_)
  cases r with
  | error e => exact hx pins σ H s e s' I hq
  | ok fl =>
    cases fl with
    | ret w => exact I.after hq
    | next => exact False.elim hq
    | brk => exact False.elim hq
    | cont => exact False.elim hq
/-- C's own reflected operator, a whole number on the left -/
structure OwnBinR (K : PySem.W.Frag) (C : Addr) (op : Operator) (g : Addr) : Prop where
  first : PySem.W.selfFirst K C = true
  hs : ∃ f : Addr, PySem.W.findIn K (.ref C) (PySem.dunder op.info.2) = some (some (.ref f))
  hr : PySem.W.findIn K (.ref C) (dunderR op.info.2) = some (some (.ref g))
  hg : PySem.W.isFn K (.ref g) = true
  hsub : PySem.W.subIn K (.ref C) (.type "int") = some false
/-- int's own operator declines instances -/
def Declines (op : Operator) : Prop := ∃ nm : String, op.info.2 = nm ∧ fillsNumberSlot (.type "int") nm = pure true ∧ ∀ {prog : Program} {w : World} {A : Around} {E : Value → Shared → Prop} {s : Shared} {y : Addr} {oy : Obj} {n : Int} {t : Tok} (Q : Option Value → Shared → Prop),
  s.heap.get? y = some oy → oy.data = .plain → Q none s → wpAny (model prog w) A (tryMethod (.int n t) (PySem.dunder nm) (.ref y)) Q E s
theorem declines_add : Declines .Add := ⟨"add", rfl, F.fills_int_add, fun {prog w A E s y oy n t} Q h hd q => PySem.W.try_addO Q (PySem.W.int_addO h hd ⟨rfl, q⟩)⟩
theorem declines_mul : Declines .Mult := ⟨"mul", rfl, F.fills_int_mul, fun {prog w A E s y oy n t} Q h hd q => PySem.W.try_mulO Q (PySem.W.int_mulO h hd ⟨rfl, q⟩)⟩
def rOwnBinR (C : Addr) (sp : Sp) (E : XK) : R2 := fun x y H Q => ∃ a dx fs n, x = .int n ∧ y = .ref a ∧ H a = some (.ins C dx fs) ∧ sp [y, x] H (fun v H' => ∃ p : Addr, v = .ref p ∧ Q v H') E
theorem op_ownBinR {X : Cx} {K : PySem.W.Frag} (hK : X.K = K) {op : Operator} {n : Nat} {CX : CXT} {C g : Addr} {fd : FuncData} {ps : List Str} {sp : Sp} {E : XK} (dc : Declines op) (F : FnOk X.prog X.w X.K X.mg X.base CX n g fd ps sp) (hr : Room n X.A)
    (o : OwnBinR K C op g) (hb : Binds X.K fd ps []) (hx : Passes CX X E) : OpR X (binaryOp op) (rOwnBinR C sp E) := by
  subst hK
  intro pins s σ H x y v u Q I rx ry d
  obtain ⟨a, dx, fs, k, rfl, rfl, ha, hsp⟩ := d
  cases ry
  obtain ⟨mA, J, _⟩ := ins_get I.hok ha
  obtain ⟨od, J, _⟩ := J.look
  obtain ⟨m, hF⟩ := I.fr
  obtain ⟨tk, rfl⟩ : ∃ t, v = .int k t := rx
  obtain ⟨f, hs⟩ := o.hs
  obtain ⟨nm, en, d1, d2⟩ := dc
  refine PySem.W.own_binR hF I.ok.mod.kin J o.first hs o.hr o.hg (by rw [en]; exact d1) o.hsub (fun Q q => by rw [en]; exact d2 Q J.1 rfl q) ?_
  have hl := F.len _ _ _ _ hsp
  have r2 : Vals [V.ref a, V.int k] [Value.ref a, .int k tk] := .cons rfl (.cons ⟨tk, rfl⟩ .nil)
  refine wpAny_call (codeAny_mono (F.run X.A X.stack s H ⟨[.ref a, .int k tk], []⟩ [.ref a, .int k tk] [.ref a, .int k] _ E hr I.env0 (by
    have := hb s [.ref a, .int k tk] I.kIn (by simpa using hl)
    simpa using this) r2 hsp) fun r s' hq => ?_)
  cases r with
  | error e => exact hx pins σ H s e s' I hq
  | ok fl =>
    cases fl with
    | ret w =>
      obtain ⟨z, H', I', rz, ⟨r, ez, q⟩⟩ := I.after hq
      subst ez
      cases (show w = Value.ref r from rz)
      exact ⟨.ref r, H', I', rfl, q⟩
    | next => exact False.elim hq
    | brk => exact False.elim hq
    | cont => exact False.elim hq
theorem rep_ownBinR {ms : List Addr} {H : Hp} {C : Addr} {ns : List Str} {ds : List D} {y : V} {n : Int} {sp : Sp} {E : XK} {Q : VK} (h : rep ms H (.ins C ns ds) y)
    (k : sp [y, .int n] H (fun v H' => ∃ p : Addr, v = .ref p ∧ Q v H') E) : rOwnBinR C sp E (.int n) y H Q := by
  obtain ⟨a, dx, fs, e1, e2⟩ := rep_insA h
  exact ⟨a, dx, fs, n, rfl, e1, e2, k⟩
theorem rep_ownNeg {ms : List Addr} {H : Hp} {C : Addr} {ns : List Str} {ds : List D} {x : V} {sp : Sp} {E : XK} {Q : VK} (h : rep ms H (.ins C ns ds) x) (k : sp [x] H Q E) : rOwnNeg C sp E x H Q := by
  obtain ⟨a, dx, fs, e1, e2⟩ := rep_insA h
  exact ⟨a, dx, fs, e1, e2, k⟩

/-! min, max with default -/
theorem reads_ints {h : Heap} : ∀ {ns : List Int} {its : List Value}, Vals (ns.map V.int) its → ∃ as, ReadsAll h its (ns.map .int) as
  | [], _, .nil => ⟨_, .nil⟩
  | n :: ns, _, .cons r rs => by
    obtain ⟨t, rfl⟩ := r
    obtain ⟨as, ih⟩ := reads_ints rs
    exact ⟨_, .cons (.int n t) ih⟩
theorem depth_ints : ∀ ns : List Int, PyData.depthAll (ns.map .int) = 0
  | [] => rfl
  | n :: ns => by
    rw [List.map_cons]
    unfold PyData.depthAll
    rw [depth_ints ns]
    rfl
theorem alike_ints (ns : List Int) : PySem.W.AlikeAll (ns.map .int) := by
  refine ⟨fun x hx y hy => ?_, fun x hx => ?_⟩
  · obtain ⟨a, _, rfl⟩ := List.mem_map.mp hx
    obtain ⟨b, _, rfl⟩ := List.mem_map.mp hy
    rfl
  · obtain ⟨a, _, rfl⟩ := List.mem_map.mp hx
    intro z
    cases z
def minO : List Int → Option Int
  | [] => none
  | y :: ys => some (ys.foldl min y)
def maxO : List Int → Option Int
  | [] => none
  | y :: ys => some (ys.foldl max y)
def rMinD (K : PySem.W.Frag) (f : List Int → Option Int) : List V → List V → Hp → VK → Prop := fun xs zs H Q => ∃ (a : Addr) (ns : List Int) (d : V), xs = [V.ref a] ∧ zs = [d] ∧ SqL K H a (ns.map V.int) ∧ Q ((f ns).elim d V.int) H
theorem cr_minD {X : Cx} {K : PySem.W.Frag} (hK : X.K = K) (hc : X.calm = true) (hu : X.A.units + 65 < cLine) : CallRK X (.builtin "min") [Str.ofString "default"] (rMinD K minO) := by
  subst hK
  intro pins s σ H xs zs us ws Q I rx rz h
  obtain ⟨a, ns, d, rfl, rfl, hs, q⟩ := h
  obtain ⟨its, rv, hl, _⟩ := I.list hs
  rw [Vals.ref1 rx]
  cases rz with
  | cons rd rz =>
    cases rz
    obtain ⟨as, hr⟩ := reads_ints (h := s.heap) rv
    refine PySem.W.min_list_default (vs := its.toArray) (I.ok.hd hc) hl.isList (by rw [List.toList_toArray]; exact hr) (alike_ints ns) (by rw [depth_ints]; omega) (fun e h' tk hk => ?_) fun y ys i v h' tk bs e hv r hk => ?_
    · cases ns with
      | nil => exact ⟨d, H, I.kept hk, rd, q⟩
      | cons => cases e
    · cases ns with
      | nil => cases e
      | cons n ns =>
        rw [List.map_cons] at e
        obtain ⟨rfl, rfl⟩ := List.cons.inj e
        rw [PySem.W.minD_ints] at r
        cases r
        exact ⟨.int _, H, I.kept hk, ⟨_, rfl⟩, q⟩
theorem cr_maxD {X : Cx} {K : PySem.W.Frag} (hK : X.K = K) (hc : X.calm = true) (hu : X.A.units + 65 < cLine) : CallRK X (.builtin "max") [Str.ofString "default"] (rMinD K maxO) := by
  subst hK
  intro pins s σ H xs zs us ws Q I rx rz h
  obtain ⟨a, ns, d, rfl, rfl, hs, q⟩ := h
  obtain ⟨its, rv, hl, _⟩ := I.list hs
  rw [Vals.ref1 rx]
  cases rz with
  | cons rd rz =>
    cases rz
    obtain ⟨as, hr⟩ := reads_ints (h := s.heap) rv
    refine PySem.W.max_list_default (vs := its.toArray) (I.ok.hd hc) hl.isList (by rw [List.toList_toArray]; exact hr) (alike_ints ns) (by rw [depth_ints]; omega) (fun e h' tk hk => ?_) fun y ys i v h' tk bs e hv r hk => ?_
    · cases ns with
      | nil => exact ⟨d, H, I.kept hk, rd, q⟩
      | cons => cases e
    · cases ns with
      | nil => cases e
      | cons n ns =>
        rw [List.map_cons] at e
        obtain ⟨rfl, rfl⟩ := List.cons.inj e
        rw [PySem.W.maxD_ints] at r
        cases r
        exact ⟨.int _, H, I.kept hk, ⟨_, rfl⟩, q⟩
/-! walks that give pairs -/
theorem walk_zipT {K : PySem.W.Frag} {a b : Addr} {xs ys : List V} {n : Nat} (hn : n = min xs.length ys.length) : L2.Walk (ItzT K a b) n (fun H => SqT K H a xs ∧ SqT K H b ys) (YPair (fun i => xs[i]?) (fun i => ys[i]?)) := by
  subst hn
  refine ⟨fun i _ hi q => ?_, fun _ q => ⟨xs, ys, q.1, q.2, by omega⟩, fun i H v H' _ q y => ?_⟩
  · have h1 : i < xs.length := by omega
    have h2 : i < ys.length := by omega
    exact ⟨xs, ys, xs[i], ys[i], q.1, q.2, by simp [h1], by simp [h2]⟩
  · obtain ⟨T, x, z, h1, h2, h3, h4, h5⟩ := y
    exact ⟨T, x, z, h1, h2, h3, h4 xs q.1, h5 ys q.2⟩
section
variable {α γ β S : Type}
def PairIt (ms : List Addr) (H1 : Hp) (J : It) (items : List (α × γ)) (e : α → D) (e2 : γ → D) : Prop :=
  ∃ (p q : Nat → Option V) (G : Hp → Prop), L2.Walk J items.length G (YPair p q) ∧ (∀ H, Keep ms H1 H → G H) ∧
    ∀ (i : Nat) (x1 x2 : V) (H : Hp) (h : i < items.length), Keep ms H1 H → p i = some x1 → q i = some x2 → rep ms H (e items[i].1) x1 ∧ rep ms H (e2 items[i].2) x2
theorem repL_at {ms : List Addr} {H : Hp} {items : List α} {e : α → D} {xs : List V} {i : Nat} {x : V} (hx : repL ms H (items.map e) xs) (h : i < items.length) (hi : xs[i]? = some x) : rep ms H (e items[i]) x := by
  obtain ⟨v, hv, rv⟩ := repL_get hx (j := i) (d := e items[i]) (by rw [List.getElem?_map, List.getElem?_eq_getElem h]; rfl)
  rw [hi] at hv
  cases hv
  exact rv
theorem pair_zip {K : PySem.W.Frag} {ms : List Addr} {H1 : Hp} {items : List α} {items2 : List γ} {e : α → D} {e2 : γ → D} {a b : Addr} {xs zs : List V} (an : a ∉ ms) (ha : H1 a = some (.lst xs)) (hx : repL ms H1 (items.map e) xs)
    (bn : b ∉ ms) (hb : H1 b = some (.lst zs)) (hz : repL ms H1 (items2.map e2) zs) : PairIt ms H1 (Itz K a b) (items.zip items2) e e2 := by
  have hl : items.length = xs.length := by
    have := repL_len hx
    rwa [List.length_map] at this
  have hl2 : items2.length = zs.length := by
    have := repL_len hz
    rwa [List.length_map] at this
  have zl : (items.zip items2).length = min xs.length zs.length := by rw [List.length_zip, hl, hl2]
  refine ⟨_, _, _, walk_zip (K := K) (a := a) (b := b) (xs := xs) (ys := zs) zl, fun H k => ⟨.inl (.inl (k a _ an ha)), .inl (.inl (k b _ bn hb))⟩, fun i x1 x2 H h k h1 h2 => ?_⟩
  have l1 : i < items.length := by omega
  have l2 : i < items2.length := by omega
  have hit : (items.zip items2)[i] = (items[i], items2[i]) := List.getElem_zip
  rw [hit]
  exact ⟨repL_at (repL_keep k hx) l1 h1, repL_at (repL_keep k hz) l2 h2⟩
theorem pair_zipT {K : PySem.W.Frag} {ms : List Addr} {H1 : Hp} {items : List α} {items2 : List γ} {e : α → D} {e2 : γ → D} {a b : Addr} {xs zs : List V} (an : a ∉ ms) (ha : H1 a = some (.tup xs)) (hx : repL ms H1 (items.map e) xs)
    (bn : b ∉ ms) (hb : H1 b = some (.tup zs)) (hz : repL ms H1 (items2.map e2) zs) : PairIt ms H1 (ItzT K a b) (items.zip items2) e e2 := by
  have hl : items.length = xs.length := by
    have := repL_len hx
    rwa [List.length_map] at this
  have hl2 : items2.length = zs.length := by
    have := repL_len hz
    rwa [List.length_map] at this
  have zl : (items.zip items2).length = min xs.length zs.length := by rw [List.length_zip, hl, hl2]
  refine ⟨_, _, _, walk_zipT (K := K) (a := a) (b := b) (xs := xs) (ys := zs) zl, fun H k => ⟨.inl (.inl (k a _ an ha)), .inl (.inl (k b _ bn hb))⟩, fun i x1 x2 H h k h1 h2 => ?_⟩
  have l1 : i < items.length := by omega
  have l2 : i < items2.length := by omega
  have hit : (items.zip items2)[i] = (items[i], items2[i]) := List.getElem_zip
  rw [hit]
  exact ⟨repL_at (repL_keep k hx) l1 h1, repL_at (repL_keep k hz) l2 h2⟩
theorem enum_at {items : List γ} {i : Nat} (h : i < ((rangeI 0 (items.length : Int)).zip items).length) (h2 : i < items.length) : ((rangeI 0 (items.length : Int)).zip items)[i] = ((i : Int), items[i]) := by
  have hz : ((rangeI 0 (items.length : Int)).zip items)[i]? = some ((i : Int), items[i]) := by
    rw [List.getElem?_zip_eq_some]
    exact ⟨by rw [rangeI_get (by omega)]; congr 1; omega, List.getElem?_eq_getElem h2⟩
  rw [List.getElem?_eq_getElem h] at hz
  exact Option.some.inj hz
theorem enum_len (items : List γ) : ((rangeI 0 (items.length : Int)).zip items).length = items.length := by
  rw [List.length_zip, rangeI_len]
  omega
theorem pair_enum {K : PySem.W.Frag} {ms : List Addr} {H1 : Hp} {items : List γ} {e2 : γ → D} {a : Addr} {xs : List V} (an : a ∉ ms) (ha : H1 a = some (.lst xs)) (hx : repL ms H1 (items.map e2) xs) :
    PairIt ms H1 (Ite K a) ((rangeI 0 (items.length : Int)).zip items) (fun i => .v (.int i)) e2 := by
  have hl : items.length = xs.length := by
    have := repL_len hx
    rwa [List.length_map] at this
  have w := walk_enum (K := K) (a := a) (xs := xs)
  rw [← hl, ← enum_len items] at w
  refine ⟨_, _, _, w, fun H k => .inl (.inl (k a _ an ha)), fun i x1 x2 H h k h1 h2 => ?_⟩
  have l2 : i < items.length := by rwa [enum_len] at h
  rw [enum_at h l2]
  have e1 : V.int (i : Nat) = x1 := Option.some.inj h1
  subst e1
  exact ⟨rep_v, repL_at (repL_keep k hx) l2 h2⟩
theorem pair_enumT {K : PySem.W.Frag} {ms : List Addr} {H1 : Hp} {items : List γ} {e2 : γ → D} {a : Addr} {xs : List V} (an : a ∉ ms) (ha : H1 a = some (.tup xs)) (hx : repL ms H1 (items.map e2) xs) :
    PairIt ms H1 (IteT K a) ((rangeI 0 (items.length : Int)).zip items) (fun i => .v (.int i)) e2 := by
  have hl : items.length = xs.length := by
    have := repL_len hx
    rwa [List.length_map] at this
  have w := walk_enumT (K := K) (a := a) (xs := xs)
  rw [← hl, ← enum_len items] at w
  refine ⟨_, _, _, w, fun H k => .inl (.inl (k a _ an ha)), fun i x1 x2 H h k h1 h2 => ?_⟩
  have l2 : i < items.length := by rwa [enum_len] at h
  rw [enum_at h l2]
  have e1 : V.int (i : Nat) = x1 := Option.some.inj h1
  subst e1
  exact ⟨rep_v, repL_at (repL_keep k hx) l2 h2⟩
theorem nin_new {ms : List Addr} {H1 : Hp} {a L : Addr} {o : HO} (nl : H1 L = none) (an : a ∉ ms) (ha : H1 a = some o) : a ∉ L :: ms := fun z => by
  rcases List.mem_cons.mp z with z | z
  · exact ne_of_none ha nl z
  · exact an z
variable {H1 : Hp} {g : TG} {tt : TT} {te : TE} {vl : List Nat} {σ : L2.St} {Qd : Hp → Prop} {L : Addr} {J : It}
theorem lc_pairG {items : List (α × γ)} {e : α → D} {e2 : γ → D} {ms : List Addr} {body : (α × γ) → (β → Prop) → Prop} {KM : List β → Prop} (SI : Nat → List β → Hp → Prop) (P : PairIt (L :: ms) H1 J items e e2)
    (kp : ∀ n ys H, SI n ys H → Keep (L :: ms) H1 H) (tr : ∀ n ys H, SI n ys H → ∀ m ∈ L :: ms, H m ≠ none) (hM : items.length < 100000 ∧ mapC body items [] KM) (h0 : SI 0 [] (upd H1 L (.lst [])))
    (hs : ∀ (x : α × γ) (u : V) (n : Nat) (ys : List β) (k : β → Prop) (H H2 : Hp), n < 100000 → SI n ys H → Ext H H2 → rep (L :: ms) H2 (.tup [e x.1, e2 x.2]) u → body x k → ∀ Nx : Hp → Prop, (∀ y H', k y → SI (n + 1) (ys ++ [y]) H' → Nx H') → Turn g tt te vl σ L u H2 Nx)
    (hd : ∀ n ys H, KM ys → SI n ys H → Qd H) :
    ∃ W : Nat → Nat → Hp → Prop, (∃ m, W 0 m (upd H1 L (.lst []))) ∧ ∀ i m H, W i m H →
      (J.stop i H ∧ Qd H) ∨ (J.go i H ∧ ∃ Nx : Hp → Prop, (∀ H', Nx H' → ∃ m', m' < m ∧ W (i + 1) m' H') ∧ ∀ x H', J.yld i H x H' → g x (wipe σ vl) H' fun σ2 H2 => wipe σ2 vl = wipe σ vl ∧ tt σ2 H2 fun b H3 =>
        if b = true then te σ2 H3 fun y H4 => ∃ acc, H4 L = some (.lst acc) ∧ acc.length < sizeLine ∧ Nx (upd H4 L (.lst (acc ++ [y]))) else Nx H3) := by
  obtain ⟨hn, hM⟩ := hM
  obtain ⟨p, q', G, w, hG, hat⟩ := P
  refine ⟨fun i m H => m = items.length - i ∧ i ≤ items.length ∧ ∃ ys, SI i ys H ∧ mapC body (items.drop i) ys KM, ⟨_, rfl, Nat.zero_le _, [], h0, hM⟩, ?_⟩
  rintro i m H ⟨rfl, hi', ys, T, q⟩
  have hk := kp i ys H T
  by_cases hlt : i < items.length
  · refine .inr ⟨w.goes i H hlt (hG H hk), fun H' => i + 1 ≤ items.length ∧ ∃ ys, SI (i + 1) ys H' ∧ mapC body (items.drop (i + 1)) ys KM, fun H' p' => ⟨_, by omega, rfl, p'⟩, fun x H' y => ?_⟩
    obtain ⟨T', x1, x2, rfl, nT, eH, e1, e3⟩ := w.yields i H x H' hlt (hG H hk) y
    rw [drop_cons' (List.getElem?_eq_getElem hlt)] at q
    obtain ⟨r1, r2⟩ := hat i x1 x2 H hlt hk e1 e3
    exact hs _ _ i ys _ H H' (by omega) T (by rw [eH]; exact Ext.new nT) (rep_pair (tr i ys H T) nT eH r1 r2) q _ fun y H'' k T' => ⟨hlt, _, T', k⟩
  · have ei : i = items.length := by omega
    refine .inl ⟨by rw [ei]; exact w.stops H (hG H hk), ?_⟩
    rw [List.drop_of_length_le (by omega)] at q
    exact hd _ ys H q T
theorem lf_pairG {items : List (α × γ)} {e : α → D} {e2 : γ → D} {ms : List Addr} {body : (α × γ) → (Option β → Prop) → Prop} {KM : List β → Prop} (SI : Nat → List β → Hp → Prop) (P : PairIt (L :: ms) H1 J items e e2)
    (kp : ∀ n ys H, SI n ys H → Keep (L :: ms) H1 H) (tr : ∀ n ys H, SI n ys H → ∀ m ∈ L :: ms, H m ≠ none) (hM : items.length < 100000 ∧ filC body items [] KM) (h0 : SI 0 [] (upd H1 L (.lst [])))
    (hs : ∀ (x : α × γ) (u : V) (n : Nat) (ys : List β) (k : Option β → Prop) (H H2 : Hp), n < 100000 → SI n ys H → Ext H H2 → rep (L :: ms) H2 (.tup [e x.1, e2 x.2]) u → body x k → ∀ Nx : Hp → Prop, (∀ y H', k (some y) → SI (n + 1) (ys ++ [y]) H' → Nx H') → (∀ H', k none → SI (n + 1) ys H' → Nx H') → Turn g tt te vl σ L u H2 Nx)
    (hd : ∀ n ys H, KM ys → SI n ys H → Qd H) :
    ∃ W : Nat → Nat → Hp → Prop, (∃ m, W 0 m (upd H1 L (.lst []))) ∧ ∀ i m H, W i m H →
      (J.stop i H ∧ Qd H) ∨ (J.go i H ∧ ∃ Nx : Hp → Prop, (∀ H', Nx H' → ∃ m', m' < m ∧ W (i + 1) m' H') ∧ ∀ x H', J.yld i H x H' → g x (wipe σ vl) H' fun σ2 H2 => wipe σ2 vl = wipe σ vl ∧ tt σ2 H2 fun b H3 =>
        if b = true then te σ2 H3 fun y H4 => ∃ acc, H4 L = some (.lst acc) ∧ acc.length < sizeLine ∧ Nx (upd H4 L (.lst (acc ++ [y]))) else Nx H3) := by
  obtain ⟨hn, hM⟩ := hM
  obtain ⟨p, q', G, w, hG, hat⟩ := P
  refine ⟨fun i m H => m = items.length - i ∧ i ≤ items.length ∧ ∃ ys, SI i ys H ∧ filC body (items.drop i) ys KM, ⟨_, rfl, Nat.zero_le _, [], h0, hM⟩, ?_⟩
  rintro i m H ⟨rfl, hi', ys, T, q⟩
  have hk := kp i ys H T
  by_cases hlt : i < items.length
  · refine .inr ⟨w.goes i H hlt (hG H hk), fun H' => i + 1 ≤ items.length ∧ ∃ ys, SI (i + 1) ys H' ∧ filC body (items.drop (i + 1)) ys KM, fun H' p' => ⟨_, by omega, rfl, p'⟩, fun x H' y => ?_⟩
    obtain ⟨T', x1, x2, rfl, nT, eH, e1, e3⟩ := w.yields i H x H' hlt (hG H hk) y
    rw [drop_cons' (List.getElem?_eq_getElem hlt)] at q
    obtain ⟨r1, r2⟩ := hat i x1 x2 H hlt hk e1 e3
    exact hs _ _ i ys _ H H' (by omega) T (by rw [eH]; exact Ext.new nT) (rep_pair (tr i ys H T) nT eH r1 r2) q _ (fun y H'' k T' => ⟨hlt, _, T', k⟩) fun H'' k T' => ⟨hlt, _, T', k⟩
  · have ei : i = items.length := by omega
    refine .inl ⟨by rw [ei]; exact w.stops H (hG H hk), ?_⟩
    rw [List.drop_of_length_le (by omega)] at q
    exact hd _ ys H q T
variable {tb : TS} {D' : Ends}
theorem for_pairG {items : List (α × γ)} {e : α → D} {e2 : γ → D} {ms : List Addr} {body : (α × γ) → S → (S → Prop) → Prop} {KM : S → Prop} (SI : S → L2.St → Hp → Prop) (s0 : S) (P : PairIt ms H1 J items e e2)
    (kp : ∀ s σ H, SI s σ H → Keep ms H1 H) (tr : ∀ s σ H, SI s σ H → ∀ m ∈ ms, H m ≠ none) (hM : forC body items s0 KM) (h0 : SI s0 σ H1)
    (hs : ∀ (x : α × γ) (u : V) (s : S) (k : S → Prop) (σ : L2.St) (H H2 : Hp), SI s σ H → Ext H H2 → rep ms H2 (.tup [e x.1, e2 x.2]) u → body x s k → ∀ Nx : L2.St → Hp → Prop, (∀ s' σ' H', k s' → SI s' σ' H' → Nx σ' H') →
      g u σ H2 fun σ2 H2 => tb { D' with nx := Nx, ct := Nx, bk := D'.nx } σ2 H2)
    (hd : ∀ s σ H, KM s → SI s σ H → D'.nx σ H) :
    ∃ W : Nat → Nat → L2.St → Hp → Prop, (∃ m, W 0 m σ H1) ∧ ∀ i m σ H, W i m σ H →
      (J.stop i H ∧ D'.nx σ H) ∨ (J.go i H ∧ ∃ Nx : L2.St → Hp → Prop, (∀ σ' H', Nx σ' H' → ∃ m', m' < m ∧ W (i + 1) m' σ' H') ∧ ∀ x H', J.yld i H x H' → g x σ H' fun σ2 H2 => tb { D' with nx := Nx, ct := Nx, bk := D'.nx } σ2 H2) := by
  obtain ⟨p, q', G, w, hG, hat⟩ := P
  refine L2.for_it w (D := D') (fun i σ H => ∃ s, SI s σ H ∧ forC body (items.drop i) s KM) ⟨s0, h0, hM⟩ (fun i σ H _ ⟨s, si, _⟩ => hG H (kp s σ H si)) (fun i u σ H H' hi ⟨s, si, q⟩ y => ?_) (fun σ H ⟨s, si, q⟩ => ?_)
  · obtain ⟨T, x1, x2, rfl, nT, eH, e1, e3⟩ := y
    have hk := kp s σ H si
    rw [drop_cons' (List.getElem?_eq_getElem hi)] at q
    obtain ⟨r1, r2⟩ := hat i x1 x2 H hi hk e1 e3
    exact hs _ (.ref T) s _ σ H H' si (by rw [eH]; exact Ext.new nT) (rep_pair (tr s σ H si) nT eH r1 r2) q _ fun s' σ' H'' hk si2 => ⟨s', si2, hk⟩
  · rw [List.drop_of_length_le (by omega)] at q
    exact hd s σ H q si
end
theorem repL_ofInts {ms : List Addr} {H : Hp} : ∀ {xs : List Int} {vs : List V}, repL ms H (xs.map fun y_ => D.v (.int y_)) vs → vs = xs.map V.int
  | [], _, h => repL_empty h
  | _ :: xs, _, h => by
    obtain ⟨u, us, rfl, h1, h2⟩ := repL_uncons h
    rw [of_v h1, repL_ofInts h2]
    rfl
theorem rep_minD {K : PySem.W.Frag} {ms : List Addr} {H : Hp} {x d : V} {xs : List Int} {f : List Int → Option Int} {Q : VK} (h : rep ms H (.lst (xs.map fun y_ => .v (.int y_))) x) (q : Q ((f xs).elim d V.int) H) : rMinD K f [x] [d] H Q := by
  obtain ⟨a, vs, rfl, na, ha, hr⟩ := rep_lstAt h
  rw [repL_ofInts hr] at ha
  exact ⟨a, xs, d, rfl, rfl, .inl (.inl ha), q⟩
theorem elim_int {m : Option Int} {d : Int} : m.elim (V.int d) V.int = V.int (m.getD d) := by cases m <;> rfl
theorem elim_non {m : Option Int} : m.elim V.non V.int = optV V.int m := by cases m <;> rfl
end Rx
namespace PySem.W
open PySem PySem.Calls PyProof.Rows Builtin
section
variable {prog : Program} {w : World} {A : Around} {E : Value → Shared → Prop} {s : Shared} {K : Frag} {x C L f : Addr} {h₀ : Heap} {m : Str → Option Value} {ox : Obj} {od : Option Obj}
theorem reprUnder_K {Q : Str → Shared → Prop} {b : Nat} (hb : b ≤ sizeLine) (hu : A.units < cLine) (F : Fr h₀ L s.heap m) (X₀ : K.In h₀) (I : InstAt s.heap x ox C od) (hs : findIn K (.ref C) "__repr__" = some (some (.ref f))) (hf : isFn K (.ref f) = true)
    (h : wpAny (model prog w) A (call (.ref f) [.ref x]) (fun v s' => ∃ z t, v = .str z t ∧ Q z s') E s) : wpAny (model prog w) A (pyReprUnder b (.ref x)) Q E s := by
  have X := X₀.keeps F.keep
  refine wpAny_pyReprUnder_ref hb ?_
  unfold pyReprObjUnder pyReprObjBy
  refine wpAny_bind (wpAny_cRoomFor hu ?_)
  refine wpAny_bind (wpAny_bind (I.type.here ((looks_findIn X hs).here ?_)))
  show wpAny _ _ (if (some (Value.ref f)).isNone = true then _ else _) _ _ _
  rw [if_neg (by simp)]
  refine wpAny_bind ?_
  simp only [callSpecialIfBoundBy?, bindSpecialIfBound?]
  refine wpAny_holding (wpAny_bind (wpAny_bind (wpAny_bind (I.type.here ((looks_findIn X hs).here ?_)))))
  refine wpAny_bind (wpAny_askSetting (wpAny_ite ?_))
  split
  · refine wpAny_bind ((bind_fn X _ (beq_iff_eq.mp hf)).here (wpAny_pure (wpAny_bind (wpAny_mono h (fun v s' hv => wpAny_pure ?_) fun _ _ z => z))))
    obtain ⟨z, t, rfl, q⟩ := hv
    refine wpAny_bind (wpAny_isInstance (typeIs_str _ _ _) isSubtype_str_str ?_)
    first
      | exact wpAny_pure ⟨_, _, rfl, q⟩
      | (rw [if_pos rfl]; exact wpAny_pure ⟨_, _, rfl, q⟩)
      | (simp only [if_true]; exact wpAny_pure ⟨_, _, rfl, q⟩)
  · refine wpAny_tryCatch (wpAny_bind ((bind_fn X _ (beq_iff_eq.mp hf)).here (wpAny_pure (wpAny_bind (wpAny_mono h (fun v s' hv => wpAny_pure ?_) fun _ _ z => z)))))
    obtain ⟨z, t, rfl, q⟩ := hv
    refine wpAny_bind (wpAny_isInstance (typeIs_str _ _ _) isSubtype_str_str ?_)
    first
      | exact wpAny_pure ⟨_, _, rfl, q⟩
      | (rw [if_pos rfl]; exact wpAny_pure ⟨_, _, rfl, q⟩)
      | (simp only [if_true]; exact wpAny_pure ⟨_, _, rfl, q⟩)
end
end PySem.W
namespace Rx
open PySem PySem.Spec PyProof.Rows L2
abbrev GL (a : Addr) (rest : List Value) : List Code := [.builtin "list.__repr__.loop" ⟨.ref a :: rest, []⟩]
/-- a def's promise, asked where the text of the list at a is under way -/
structure FnQ (P : Program) (w : World) (K : PySem.W.Frag) (mg : Str → Option Value) (base : Heap) (k : Nat) (f : Addr) (fd : FuncData) (ps : List Str) (sp : Addr → Sp) : Prop where
  len : ∀ a vs H Q E, sp a vs H Q E → vs.length = ps.length
  run : ∀ (a : Addr) (rest : List Value) (A : Around), A.guards = some (GL a rest) → Room k A → ∀ (outer : List Env) (s : Shared) (H : Hp) (args : Args) (us : List Value) (vs : List V) (Q : VK) (E : XK), Env0 P w K mg base A outer s H → BindsTo s fd args (ps.zip us) → Vals vs us → sp a vs H Q E →
    codeAny (model P w) A (.call (.ref f) args) (CR CX0 outer P w H s Q E) s
theorem FnQ.mono {P : Program} {w : World} {K : PySem.W.Frag} {mg : Str → Option Value} {base : Heap} {j k : Nat} {f : Addr} {fd : FuncData} {ps : List Str} {sp : Addr → Sp} (F : FnQ P w K mg base j f fd ps sp) (h : j ≤ k) : FnQ P w K mg base k f fd ps sp :=
  ⟨F.len, fun a rest A gu hr => F.run a rest A gu (hr.mono h)⟩
section
variable {P : Program} {w : World} {K : PySem.W.Frag} {mg : Str → Option Value} {base : Heap}
theorem okQ {x qual : Str} {st : Stmt} {f : Addr} {fd : FuncData} {N ps : List Str} {k : Nat} {sp : Addr → Sp} (F : Fun K x qual st f fd) (S : FnScope N ps (defScope st)) (len : ∀ a vs H Q E, sp a vs H Q E → vs.length = ps.length)
    (hbody : ∀ (a : Addr) (rest : List Value) (cdv : Value) (A : Around) (outer : List Env) (s : Shared) (H : Hp) (vs : List V) (Q : VK) (E : XK), A.guards = some (GL a rest) → Room k (A.deeper (envOfC qual (defScope st) s.heap.objs.size f cdv)) → sp a vs H Q E →
      ∃ t, PSs (cxOf CX0 P w K mg base N qual (defScope st) f cdv A outer s H E).nox (defBody st) t ∧ t { nx := fun _ H' => Q .non H', rt := Q } (start N vs) H) : FnQ P w K mg base (k + 1) f fd ps sp := by
  obtain ⟨oc, od, kV, doc, pm, an, cdv, ct, osl, rfl, lk, hcd⟩ := F.ex
  refine ⟨len, fun a rest A gu hr outer s H args us vs Q E en bt rv hs => ?_⟩
  have inK : K.In s.heap := en.mod.kin.keeps fun b o h => (en.bs b o h).1
  have names : ∀ y ∈ ps.zip us, (defScope st).names.lookup y.1 = some .local ∨ ((defScope st).names.lookup y.1 = some .cell ∧ ((cellsFrom (s.heap.objs.size + 1) (defScope st).names []).lookup y.1).isSome = true) := by
    rintro ⟨n, v⟩ hy
    exact (S.par n (List.of_mem_zip hy).1).imp id fun q => ⟨q, PySem.W.cellsFrom_some _ _ _ (.inl q)⟩
  refine codeAny_call_function hr.depth (inK _ _ lk) rfl S.co S.gen rfl (PySem.W.codeRec_of inK hcd) (bt _ _ _ _ (wpAny_newFunctionEnv_cells S.kind names fun env he s1 inner => ?_))
  subst he
  refine ⟨(en.mod.nolimit.keeps fun b o h => (en.bs b o h).1).keeps inner.toInCall.keep, codeAny_func ?_⟩
  obtain ⟨t, ht, hq⟩ := hbody a rest cdv A outer s H vs Q E gu (hr.deeper _) hs
  have start0 : Inv (cxOf CX0 P w K mg base N qual (defScope st) f cdv A outer s H E) [] (start N vs) H s1 := inv_start S hr.hd en (len _ _ _ _ _ hs) rv inner
  have leave : ∀ {σ' : L2.St} {H' : Hp} {v : V} {u : Value} {s' : Shared}, Inv (cxOf CX0 P w K mg base N qual (defScope st) f cdv A outer s H E) [] σ' H' s' → RelV v u → Q v H' → CE outer P w H s Q u s' :=
    fun {σ' H' v u s'} J r q => ⟨v, H', J.os, J.bare, J.base, J.hok, r, q⟩
  refine wpAny_mono (ht.nox.run [] s1 (start N vs) H _ start0 hq) (fun fl s' hs' => ?_) fun _ _ h => h
  rcases fl with _ | _ | _ | u
  · obtain ⟨σ', H', J, q⟩ := hs'
    exact leave (v := V.non) (u := Value.none) J rfl q
  · obtain ⟨_, _, _, q⟩ := hs'
    exact q.elim
  · obtain ⟨_, _, _, q⟩ := hs'
    exact q.elim
  · obtain ⟨v, σ', H', J, r, q⟩ := hs'
    exact leave J r q
end
/-! a list that holds an instance is no plain data -/
def NoRd (H : Hp) (a : Addr) : Prop := ∃ vs b C dx fs, H a = some (.lst vs) ∧ V.ref b ∈ vs ∧ H b = some (.ins C dx fs)
theorem NoRd.ext {H H' : Hp} {a : Addr} (h : NoRd H a) (e : Ret [] H H') : NoRd H' a := by
  obtain ⟨vs, b, C, dx, fs, h1, h2, h3⟩ := h
  exact ⟨vs, b, C, dx, fs, e.keep h1, h2, e.keep h3⟩
theorem vals_mem {b : Addr} : ∀ {xs : List V} {us : List Value}, Vals xs us → V.ref b ∈ xs → Value.ref b ∈ us
  | _, _, .nil, h => absurd h List.not_mem_nil
  | _, _, .cons r t, h => by
    rcases List.mem_cons.mp h with e | h
    · rw [← e] at r
      rw [show _ = Value.ref b from r]
      exact List.mem_cons_self
    · exact List.mem_cons_of_mem _ (vals_mem t h)
theorem readsAll_mem {h : Heap} {x : Value} : ∀ {us : List Value} {ds : List PyData} {as : List Addr}, ReadsAll h us ds as → x ∈ us → ∃ d as', Reads h x d as'
  | _, _, _, .nil, m => absurd m List.not_mem_nil
  | _, _, _, .cons r t, m => by
    rcases List.mem_cons.mp m with e | m
    · subst e
      exact ⟨_, _, r⟩
    · exact readsAll_mem t m
section
variable {X : Cx} {pins : List (Addr × Obj)} {σ : L2.St} {H : Hp} {s : Shared}
theorem noRd {a : Addr} (I : Inv X pins σ H s) (h : NoRd H a) (d : PyData) (as : List Addr) : ¬ Reads s.heap (.ref a) d as := by
  obtain ⟨vs, b, C, dx, fs, ha, hb, hc⟩ := h
  obtain ⟨_, its, n, rv, e⟩ := I.hok a _ ha
  obtain ⟨_, _, _, e2, _⟩ := I.hok b _ hc
  intro r
  cases r with
  | list h1 h2 h3 h4 =>
    rw [e] at h1
    cases h1
    cases h3
    obtain ⟨d', as', r'⟩ := readsAll_mem (x := .ref b) h4 (by simpa using vals_mem rv hb)
    cases r' with
    | list q1 q2 _ _ =>
      rw [e2] at q1
      cases q1
      cases q2
    | tuple q1 q2 _ _ =>
      rw [e2] at q1
      cases q1
      cases q2
    | dict q1 q2 _ _ _ =>
      rw [e2] at q1
      cases q1
      cases q2
  | tuple h1 h2 _ _ =>
    rw [e] at h1
    cases h1
    simp at h2
  | dict h1 h2 _ _ _ =>
    rw [e] at h1
    cases h1
    simp at h2
/-! f-strings with lists, where the text of a list of instances is under way -/
theorem fmtList_Q {prog : Program} {w : World} {A : Around} {E : Value → Shared → Prop} {s : Shared} {Q : Value → Shared → Prop} {h₀ : Heap} {a a' : Addr} {rest : List Value} {d : PyData} {as : List Addr} (r : Reads h₀ (.ref a') d as) (hl : ∃ xs, d = .list xs) (hs : d.showable = true) (hsm : d.hasDict = false)
    (nr : ∀ d as, ¬ Reads h₀ (.ref a) d as) (hg : A.guards = some (GL a rest)) (hu : A.units + (d.depth + 2) < cLine) (hk0 : ∀ b o, h₀.get? b = some o → s.heap.get? b = some o)
    (hQ : ∀ h' u tk, (∀ b o, s.heap.get? b = some o → h'.get? b = some o) → Q (.str d.shown u) { s with heap := h', toks := tk }) (hsz : d.shown.length ≤ sizeLine) : wpAny (model prog w) A (formatField (.ref a') Str.empty) Q E s := by
  obtain ⟨xs, rfl⟩ := hl
  cases r with
  | list h1 h2 h3 h4 =>
    rename_i o vs n bs₀
    have hz' : (listText (PyData.shownAll xs)).length ≤ sizeLine := by simpa only [PyData.shown] using hsz
    have nd : PyData.hasDictAll xs = false := by simpa [PyData.hasDict] using hsm
    obtain ⟨bs, hb, hk⟩ := ReprAllK.of_readsAll (prog := prog) (w := w) h4 (by simpa [PyData.showable] using hs) (fun hx => absurd hx (by rw [nd]; decide)) (fun t ht => Nat.le_trans (listText_mem_le ht) hz')
    have r0 : Reads h₀ (.ref a') (.list xs) _ := .list h1 h2 h3 h4
    have hna : a' ∉ bs := not_mem_of_deeper r0 (by simp only [PyData.depth]; omega) hb
    have cl : ∀ b ∈ a' :: bs, Clear (GL a rest) b := fun b hm => by
      refine (Clear.nil b).cons fun e => ?_
      rcases List.mem_cons.mp hm with z | z
      · rw [z] at e
        rw [e] at nr
        exact nr _ _ r0
      · obtain ⟨d', as', r', _⟩ := hb b z
        rw [e] at nr
        exact nr _ _ r'
    simp only [PyData.depth] at hu
    simp only [PyData.shown] at hQ
    refine wpAny_formatField_slot (fun _ _ => nofun) (by omega) ⟨o, hk0 _ _ h1, h2⟩ F.slot_list_format F.slot_list_str F.slot_list_repr.toG ?_
    obtain ⟨l⟩ := vs
    cases l with
    | nil =>
      have h4' : ReadsAll h₀ [] xs _ := h4
      cases h4'
      simp only [PyData.shownAll, listText_nil] at hQ
      exact call_list_repr_empty ⟨o, hk0 _ _ h1, h2⟩ (hk0 _ _ h1) h3 ⟨_, _, rfl, hQ s.heap _ _ fun _ _ e => e⟩
    | cons x l =>
      exact call_list_reprK h1 h2 h3 hna (by simpa using hk.length_eq) (fun i y e => hk.item i y (by simpa using e)) hg cl (by show A.units + 1 + 1 + _ < cLine; omega) hk0 (fun h' u tk k => ⟨_, _, rfl, hQ h' u tk k⟩) hz'
end
section
variable {X : Cx}
def tFmtQ (K : PySem.W.Frag) (a : Addr) (te : TE) : TE := fun σ H Q => te σ H fun x H1 => NoRd H1 a ∧ ∃ (b : Addr) (d : PyData), x = .ref b ∧ Dp K H1 (.ref b) d ∧ (∃ xs, d = .list xs) ∧ d.showable = true ∧ d.hasDict = false ∧ d.depth ≤ 60 ∧ d.shown.length ≤ sizeLine ∧ Q (.str d.shown) H1
theorem pe_fmtQ {e : PySem.Expr} {te : TE} {pos : Pos} {k : Nat} {K : PySem.W.Frag} {a : Addr} {rest : List Value} (hK : X.K = K) (gu : X.A.guards = some (GL a rest)) (hr : Room k X.A) (he : PE X e te) : PE X (.FormattedValue e (-1) none pos) (tFmtQ K a te) := by
  subst hK
  refine ⟨fun pins s σ H Q I h => ?_⟩
  refine wpAny_FormattedValue_plain (thn (he.run pins s σ H _ I h) fun v s1 hv => ?_)
  obtain ⟨x, H1, I1, r1, nr, b, d, rfl, dp, hl, sh, nd, dep, len, q⟩ := hv
  cases r1
  obtain ⟨as, rd⟩ := Dp.reads I1 d _ _ dp rfl
  have un := hr.un
  refine fmtList_Q (h₀ := s1.heap) rd hl sh nd (noRd I1 nr) gu (by omega) (fun _ _ h => h) (fun h' u tk keep => ?_) len
  exact ⟨.str d.shown, H1, I1.kept keep, ⟨u, rfl⟩, q⟩
theorem rep_fmtQ {K : PySem.W.Frag} {ms : List Addr} {H : Hp} {ds : List D} {x : V} {P : PyData → Prop} (h : rep ms H (.lst ds) x) (g : plainD (.lst ds) = true ∧ (pyOf (.lst ds)).showable = true ∧ (pyOf (.lst ds)).hasDict = false ∧ (pyOf (.lst ds)).depth ≤ 60 ∧ (pyOf (.lst ds)).shown.length ≤ sizeLine) (q : P (pyOf (.lst ds))) :
    ∃ (b : Addr) (d : PyData), x = .ref b ∧ Dp K H (.ref b) d ∧ (∃ xs, d = .list xs) ∧ d.showable = true ∧ d.hasDict = false ∧ d.depth ≤ 60 ∧ d.shown.length ≤ sizeLine ∧ P d := by
  obtain ⟨a, rfl⟩ := rep_refL h
  exact ⟨a, _, rfl, dp_of (K := K) _ _ g.1 h, ⟨pyL ds, by simp only [pyOf]⟩, g.2.1, g.2.2.1, g.2.2.2.1, g.2.2.2.2, q⟩
end
section
variable {X : Cx} {n : Nat} {C f : Addr} {fd : FuncData} {ps : List Str} {sp : Addr → Sp}
theorem ownTextQ_run (F : FnQ X.prog X.w X.K X.mg X.base n f fd ps sp) {A : Around} {a : Addr} {rest : List Value} (hg : A.guards = some (GL a rest)) (hr : Room n A) (hb : Binds X.K fd ps []) {pins : List (Addr × Obj)} {σ : L2.St} {H : Hp} {s : Shared} {b : Addr} {Q : Str → Hp → Prop} {R : Str → Shared → Prop} (I : Inv X pins σ H s)
    (en : Env0 X.prog X.w X.K X.mg X.base A X.stack s H) (h : sp a [.ref b] H (fun v H' => ∃ z : Str, v = .str z ∧ Q z H') E0) (k : ∀ z H' s', Inv X pins σ H' s' → Q z H' → R z s') : wpAny (model X.prog X.w) A (call (.ref f) [.ref b]) (fun v s' => ∃ z t, v = .str z t ∧ R z s') X.xe s := by
  have hl := F.len _ _ _ _ _ h
  have bt := hb s [.ref b] I.kIn (by rw [List.append_nil]; exact hl)
  rw [List.append_nil] at bt
  refine wpAny_call (codeAny_mono (F.run a rest A hg hr X.stack s H ⟨[.ref b], []⟩ [.ref b] [.ref b] _ E0 en bt (.cons rfl .nil) h) fun out s' hq => ?_)
  rcases out with err | fl
  · exact pass0 pins σ H s err s' I hq
  · rcases fl with _ | _ | _ | u
    · exact hq.elim
    · exact hq.elim
    · exact hq.elim
    · obtain ⟨v, H', I', rv, z, ez, q⟩ := I.after hq
      subst ez
      obtain ⟨t, rfl⟩ := rv
      exact ⟨z, t, rfl, k z H' s' I' q⟩
/-- what the texts of the elements ask, one behind the other -/
def tReprs (C : Addr) (sp : Addr → Sp) (a P : Addr) (all : List V) (Q : VK) : List V → List Str → Hp → Prop
  | [], ts, H => (listText ts).length ≤ sizeLine ∧ Q (.str (listText ts)) H
  | v :: vs, ts, H => piled ts + 1 ≤ sizeLine ∧ ts.length < sizeLine ∧ ∃ b dx fs, v = .ref b ∧ H b = some (.ins C dx fs) ∧ sp a [v] H (fun u H' => ∃ t : Str, u = .str t ∧ t.length ≤ sizeLine ∧ H' a = some (.lst all) ∧ H' P = some (.lst (ts.map V.str)) ∧ tReprs C sp a P all Q vs (ts ++ [t]) (upd H' P (.lst ((ts ++ [t]).map V.str)))) E0
theorem loop_depth {A : Around} {args : Args} : (A.under (.builtin "list.__repr__.loop" args)).depth ≤ A.depth + 1 := by
  simp [Around.under, Code.weight, Code.isCreation, Code.isGuard, Code.isCaller, Code.frames, Code.isFrame, guardIds]
theorem room_loop {k : Nat} {A : Around} (r : Room (k + 1) A) (args : Args) : Room k (A.under (.builtin "list.__repr__.loop" args)) :=
  ⟨r.hd, by have := r.dp; have := loop_depth (A := A) (args := args); omega, by have := r.un; rw [units_under_list_loop]; omega⟩
theorem env_loop {P : Program} {w : World} {K : PySem.W.Frag} {mg : Str → Option Value} {base : Heap} {A : Around} {outer : List Env} {s : Shared} {H : Hp} (e : Env0 P w K mg base A outer s H) (args : Args) :
    Env0 P w K mg base (A.under (.builtin "list.__repr__.loop" args)) outer s H := ⟨by first | exact e.frames | (simpa [Around.under, Code.envs, Code.isFrame, pushEnvs] using e.frames), e.mod, e.bs, e.bsz, e.funs, e.frf, e.hok, e.bare⟩
theorem strs_vals : ∀ {ts : List Str} {us : List Value}, Vals (ts.map V.str) us → ∃ done : List (Str × Tok), us = strValues done ∧ done.map (·.1) = ts
  | [], _, .nil => ⟨[], rfl, rfl⟩
  | t :: ts, _, .cons r rs => by
    obtain ⟨tk, rfl⟩ := r
    obtain ⟨d, h1, h2⟩ := strs_vals rs
    exact ⟨(t, tk) :: d, by rw [h1]; rfl, by rw [List.map_cons, h2]⟩
theorem loopQ (F : FnQ X.prog X.w X.K X.mg X.base n f fd ps sp) (o : OwnText X.K C "__repr__" f) (hb : Binds X.K fd ps []) (gu : X.A.guards = some []) (hr : Room (n + 2) X.A) {pins : List (Addr × Obj)} {σ : L2.St} {a P : Addr} {all : List V} {Q : VK} (ne : a ≠ P) :
    ∀ (vs done : List V) (ts : List Str) (H : Hp) (s : Shared), all = done ++ vs → done.length = ts.length → Inv X pins σ H s → H a = some (.lst all) → H P = some (.lst (ts.map V.str)) → tReprs C sp a P all Q vs ts H →
      codeAny (model X.prog X.w) X.A.in1 (.builtin "list.__repr__.loop" ⟨[.ref a, rawInt (done.length : Nat), .ref P, rawInt ((piled ts : Nat) : Int)], []⟩) (callEnd (fun r s1 => ∃ x t, r = .str x t ∧ EP X pins σ Q r s1) X.xe) s := by
  intro vs
  induction vs with
  | nil =>
    intro done ts H s hall hlen I ha hP h
    obtain ⟨hz, q⟩ := h
    obtain ⟨_, its, na, rv, ea⟩ := I.hok a _ ha
    obtain ⟨_, acc, nP, rP, eP⟩ := I.hok P _ hP
    obtain ⟨d, rfl, hd⟩ := strs_vals rP
    have hl : its.length = done.length := by rw [← rv.length, hall, List.append_nil]
    refine codeAny_builtin PySem.F.entry_list_repr_loop ?_
    show wpAny _ _ (Builtin.«list.__repr__.loop» ⟨[.ref a, .int (done.length : Nat) 0, .ref P, .int ((piled ts : Nat) : Int) 0], []⟩) _ _ s
    rw [repr_loop_tree]
    refine wpAny_bind (wpAny_listItems ea rfl ?_)
    have hnone : its.toArray[((done.length : Nat) : Int).toNat]? = none := by simp [hl]
    simp only [hnone]
    unfold reprEnd
    refine wpAny_bind (wpAny_listItems eP rfl ?_)
    rw [List.toList_toArray, repr_fold]
    refine wpAny_bind (wpAny_pure ?_)
    rw [hd]
    refine wpAny_bind (wpAny_mkStr (wpAny_pure ?_) hz)
    exact ⟨_, _, rfl, .str _, H, I.tok _, ⟨_, rfl⟩, q⟩
  | cons v vs ih =>
    intro done ts H s hall hlen I ha hP h
    obtain ⟨hz1, hz2, b, dx, fs, rfl, hbv, hsp⟩ := h
    obtain ⟨_, its, na, rv, ea⟩ := I.hok a _ ha
    have hget : all[done.length]? = some (V.ref b) := by rw [hall]; simp
    obtain ⟨u, hu, ru⟩ := rv.get hget
    cases (show u = Value.ref b from ru)
    obtain ⟨mA, J, _⟩ := ins_get I.hok hbv
    obtain ⟨od, J, _⟩ := J.look
    obtain ⟨m, hF⟩ := I.fr
    have r1 : Room (n + 1) X.A.in1 := hr.in1
    refine codeAny_builtin PySem.F.entry_list_repr_loop ?_
    show wpAny _ _ (Builtin.«list.__repr__.loop» ⟨[.ref a, .int (done.length : Nat) 0, .ref P, .int ((piled ts : Nat) : Int) 0], []⟩) _ _ s
    rw [repr_loop_tree]
    refine wpAny_bind (wpAny_listItems ea rfl ?_)
    have hsome : its.toArray[((done.length : Nat) : Int).toNat]? = some (Value.ref b) := by simpa using hu
    simp only [hsome]
    rw [Int.toNat_natCast]
    have rl := room_loop r1 ⟨[.ref a, .int (done.length : Nat) 0, .ref P, .int ((piled ts : Nat) : Int) 0], []⟩
    have hun : (X.A.in1.under (.builtin "list.__repr__.loop" ⟨[.ref a, .int (done.length : Nat) 0, .ref P, .int ((piled ts : Nat) : Int) 0], []⟩)).units < cLine := by have := rl.un; omega
    refine wpAny_bind (wpAny_holding (PySem.W.reprUnder_K hz1 hun hF I.ok.mod.kin J o.hs o.hf ?_))
    refine ownTextQ_run F (rest := [.int (done.length : Nat) 0, .ref P, .int ((piled ts : Nat) : Int) 0]) (guards_under_guard (isGuard_list_loop _) (show X.A.in1.guards = some [] from gu)) rl hb I (env_loop (I.env0.in1) _) hsp fun t H' s' I' q => ?_
    obtain ⟨hlt, ha', hP', hrest⟩ := q
    refine wpAny_bind (wpAny_mkStr ?_ hlt)
    refine wpAny_bind ?_
    show wpAny _ _ (updateSeq P _) _ _ _
    obtain ⟨_, acc, nP, rP, eP⟩ := I'.hok P _ hP'
    obtain ⟨d, rfl, hd⟩ := strs_vals rP
    have hsz : (strValues d).toArray.size ≤ sizeLine := by
      rw [List.size_toArray, ← rP.length, List.length_map]
      omega
    refine wpAny_updateSeq eP rfl (wpAny_pure ⟨PySem.F.quiet_list_repr_loop _, ?_⟩) hsz
    have e1 : (((done.length : Nat) : Int) + 1) = (((done ++ [V.ref b]).length : Nat) : Int) := by rw [List.length_append]; rfl
    have e2 : ((piled ts + (t.length + 2) : Nat) : Int) = ((piled (ts ++ [t]) : Nat) : Int) := by
      rw [piled_append, piled_cons, piled_nil]
    rw [e1]
    rw [show rawInt ((piled ts + (t.length + 2) : Nat) : Int) = rawInt ((piled (ts ++ [t]) : Nat) : Int) from by rw [e2]]
    refine ih (done ++ [V.ref b]) (ts ++ [t]) (upd H' P (.lst ((ts ++ [t]).map V.str))) _ (by rw [hall]; simp) (by simp [hlen]) ?_ (by rw [upd_ne ne]; exact ha') upd_same hrest
    refine (I'.tok _).write (x := P) (by rw [hP']; trivial) (.inl rfl) (fun b u nb e => (Heap.get?_update_other _ _ (fun h : P = b => nb h.symm)).trans e) ⟨_, Heap.get?_update_self _ eP rfl⟩ ?_
    have eU := Heap.get?_update_self (h := s'.heap) (Obj.mapSeq fun x => x.push (Value.str t s'.toks)) eP rfl
    have eL : (strValues d).toArray.push (Value.str t s'.toks) = (strValues d ++ [Value.str t s'.toks]).toArray := by simp
    have eM : Obj.mapSeq (fun x => x.push (Value.str t s'.toks)) { cls := Value.type "list", data := Data.seq (strValues d).toArray nP } = { cls := Value.type "list", data := Data.seq ((strValues d ++ [Value.str t s'.toks]).toArray) (match Obj.mapSeq (fun x => x.push (Value.str t s'.toks)) { cls := Value.type "list", data := Data.seq (strValues d).toArray nP } with | ⟨_, _, .seq _ n, _⟩ => n | _ => 0) } := by
      rw [← eL]
      rfl
    refine ⟨by rw [List.length_map, List.length_append]; show ts.length + 1 ≤ _; omega, strValues d ++ [.str t s'.toks], _, ?_, eU.trans (congrArg some eM)⟩
    rw [List.map_append]
    exact rP.append (.cons ⟨_, rfl⟩ .nil)
def rReprOL (C : Addr) (sp : Addr → Sp) : List V → Hp → VK → Prop := fun xs H Q => ∃ (a : Addr) (all : List V), xs = [.ref a] ∧ H a = some (.lst all) ∧ 0 < all.length ∧ ∀ P, H P = none → tReprs C sp a P all Q all [] (upd H P (.lst []))
theorem call_reprOL (F : FnQ X.prog X.w X.K X.mg X.base n f fd ps sp) (gu : X.A.guards = some []) (hr : Room (n + 2) X.A) (o : OwnText X.K C "__repr__" f) (hb : Binds X.K fd ps []) : CallR X (.builtin "repr") (rReprOL C sp) := by
  intro pins s σ H xs us Q I r h
  obtain ⟨a, all, rfl, ha, h0, h⟩ := h
  obtain ⟨u, rfl, ru⟩ := r.one
  cases (show u = Value.ref a from ru)
  obtain ⟨_, its, na, rv, ea⟩ := I.hok a _ ha
  have hun := hr.un
  cases rv with
  | nil => exact absurd h0 (Nat.lt_irrefl _)
  | cons r0 rs =>
    rename_i v0 u0 vs us
    have pn : H s.heap.objs.size = none := I.hok.fresh (Nat.le_refl _)
    have ne : a ≠ s.heap.objs.size := ne_of_none ha pn
    refine call_repr_slot (by omega) ⟨_, ea, rfl⟩ PySem.F.slot_list_repr.toG (wpAny_call (codeAny_call_builtin PySem.F.slot_list_repr.plain PySem.F.entry_list_repr (PySem.F.slot_list_repr.check _ _ _ _ _ _ _ _ ⟨_, ea, rfl⟩ (PySem.F.args_list_repr_1 _) ?_)))
    refine wpAny_list_repr_head (A := X.A.in1.in1) (b := 0) (show X.A.in1.in1.guards = some [] from gu) (fun v rest kw hm => absurd hm List.not_mem_nil) ea rfl ?_
    refine wpAny_bind (m := newList []) (wpAny_newObj_type ?_)
    refine wpAny_pure ⟨PySem.F.quiet_list_repr_loop _, ?_⟩
    have I1 : Inv X pins σ (upd H s.heap.objs.size (.lst [])) { s with heap := s.heap.push { cls := .type "list", data := .seq #[] 0 } } :=
      I.laid (t' := s.toks) (fun _ _ q => Heap.get?_push_of_some _ q) (Nat.le_refl _) ⟨Nat.zero_le _, [], 0, .nil, Heap.get?_push_size _ rfl⟩
    exact loopQ F o hb gu hr ne _ [] [] _ _ rfl rfl I1 (by rw [upd_ne ne]; exact ha) upd_same (h _ pn)
end
section
variable {α : Type} {e : α → D} {C : Addr} {ns : List Str} {ms : List Addr} {H : Hp} {M : α → (Str → Prop) → Prop} {sp : Addr → Sp} {Q : VK} {KM : List Str → Prop}
theorem sum_le : ∀ {ts : List Str}, (∀ t ∈ ts, t.length ≤ 4000000) → (ts.map (·.length)).sum ≤ ts.length * 4000000 ∧ piled ts ≤ ts.length * 4000002
  | [], _ => ⟨Nat.zero_le _, Nat.zero_le _⟩
  | t :: ts, h => by
    obtain ⟨h1, h2⟩ := sum_le (ts := ts) fun u hu => h u (List.mem_cons_of_mem _ hu)
    have h3 := h t List.mem_cons_self
    rw [List.map_cons, List.sum_cons, piled_cons, List.length_cons]
    omega
theorem reprs_of {a P : Addr} {all : List V} (he : ∀ y, ∃ ds, e y = .ins C ns ds) (hs : ∀ (y : α) (u : V) (ms' : List Addr) (H' : Hp) (KM' : Str → Prop) (Q' : VK), NoRd H' a → Wd ms' [] [] H' H' → rep ms' H' (e y) u → M y KM' → (∀ (t : Str) (H1 : Hp), KM' t → Ret [] H' H1 → Q' (.str t) H1) → sp a [u] H' Q' E0)
    (hp : H P = none) (ha : H a = some (.lst all)) (nr : NoRd H a) (htr : ∀ m ∈ ms, H m ≠ none) (q : ∀ ts H', KM ts → Ext H H' → Q (.str (listText ts)) H') :
    ∀ (xs : List α) (vs : List V) (ts : List Str) (H' : Hp), ts.length + xs.length ≤ 3 → (∀ t ∈ ts, t.length ≤ 4000000) → (∀ b o, H b = some o → H' b = some o) → H' P = some (.lst (ts.map V.str)) → repL (P :: ms) H' (xs.map e) vs →
      mapC (fun y k => M y fun t => t.length ≤ 4000000 ∧ k t) xs ts KM → tReprs C sp a P all Q vs ts H' := by
  have sz : sizeLine = 16777216 := sizeLine_eq
  intro xs
  induction xs with
  | nil =>
    intro vs ts H' hl hb kp hP hr hM
    have ev := repL_empty hr
    subst ev
    obtain ⟨h1, _⟩ := sum_le hb
    have h2 := listText_len_le ts
    have h3 : ts.length ≤ 3 := by simpa using hl
    exact ⟨by omega, q ts H' hM ⟨fun b o _ h => kp b o h, fun _ h => absurd h List.not_mem_nil, fun b h => by
      cases z : H b with
      | none => exact absurd z h
      | some o => rw [kp b o z]; exact fun z => nomatch z⟩⟩
  | cons x xs ih =>
    intro vs ts H' hl hb kp hP hr hM
    obtain ⟨u, us, rfl, h1, h2⟩ := repL_uncons hr
    obtain ⟨_, hpl⟩ := sum_le hb
    have hl' : ts.length + (xs.length + 1) ≤ 3 := hl
    obtain ⟨ds, ed⟩ := he x
    obtain ⟨b, dx, fs, eb, hbI⟩ := rep_insA (by rw [← ed]; exact h1)
    subst eb
    refine ⟨by omega, by omega, b, dx, fs, rfl, hbI, ?_⟩
    have e0 : Ext H H' := ⟨fun b o _ h => kp b o h, fun _ h => absurd h List.not_mem_nil, fun b h => by
      cases z : H b with
      | none => exact absurd z h
      | some o => rw [kp b o z]; exact fun z => nomatch z⟩
    have w : Wd (P :: ms) [] [] H' H' := ⟨fun _ _ _ h => h, fun _ h => h, fun m hm => by
      rcases List.mem_cons.mp hm with z | z
      · rw [z, hP]; exact fun z => nomatch z
      · exact e0.grow m (htr m z), fun _ h => absurd h List.not_mem_nil, fun _ h => absurd h List.not_mem_nil, fun _ h => absurd h List.not_mem_nil⟩
    refine hs x _ (P :: ms) H' _ _ (nr.ext e0) w h1 hM fun t H1 ⟨ht, hk⟩ r1 => ?_
    refine ⟨t, rfl, by omega, r1.keep (e0.keep ha), r1.keep hP, ?_⟩
    have lm : P ∈ P :: ms := List.mem_cons_self
    refine ih us (ts ++ [t]) _ (by rw [List.length_append]; show ts.length + 1 + xs.length ≤ 3; omega) (fun z hz => ?_) (fun c o hc => ?_) upd_same (repL_put lm (repL_ext r1 h2)) hk
    · rcases List.mem_append.mp hz with z' | z'
      · exact hb z z'
      · rw [List.mem_singleton.mp z']; exact ht
    · rw [upd_ne (ne_of_none hc hp)]
      exact r1.keep (kp c o hc)
theorem rep_reprOL {ps : List PEn} {cs : List (Addr × List V)} {H0 : Hp} {x : V} {xs : List α} (he : ∀ y, ∃ ds, e y = .ins C ns ds) (h : rep ms H (.lst (xs.map e)) x) (n0 : 0 < xs.length) (n1 : xs.length ≤ 3) (hW : Wd ms ps cs H0 H) (hM : mapC (fun y k => M y fun t => t.length ≤ 4000000 ∧ k t) xs [] KM)
    (hs : ∀ (a : Addr) (y : α) (u : V) (ms' : List Addr) (H' : Hp) (KM' : Str → Prop) (Q' : VK), NoRd H' a → Wd ms' [] [] H' H' → rep ms' H' (e y) u → M y KM' → (∀ (t : Str) (H1 : Hp), KM' t → Ret [] H' H1 → Q' (.str t) H1) → sp a [u] H' Q' E0)
    (q : ∀ ts H', KM ts → Ext H H' → Q (.str (listText ts)) H') : rReprOL C sp [x] H Q := by
  obtain ⟨a, vs, rfl, na, ha, hr⟩ := rep_lstAt h
  have hl := repL_len hr
  rw [List.length_map] at hl
  have nr : NoRd H a := by
    cases xs with
    | nil => exact absurd n0 (Nat.lt_irrefl _)
    | cons y ys =>
      obtain ⟨u, us, rfl, h1, _⟩ := repL_uncons hr
      obtain ⟨ds, ed⟩ := he y
      obtain ⟨b, dx, fs, eb, hbI⟩ := rep_insA (by rw [← ed]; exact h1)
      subst eb
      exact ⟨_, b, C, dx, fs, ha, List.mem_cons_self, hbI⟩
  refine ⟨a, vs, rfl, ha, by omega, fun P hP => ?_⟩
  have up : ∀ b o, H b = some o → upd H P (.lst []) b = some o := fun b o hb => by rw [upd_ne (ne_of_none hb hP)]; exact hb
  refine reprs_of (ms := ms) (KM := KM) he (hs a) hP ha nr hW.tr q xs vs [] _ (by simpa using n1) (fun t ht => absurd ht List.not_mem_nil) up upd_same ?_ hM
  exact repL_map (fun p o n hp => ⟨fun z => (List.mem_cons.mp z).elim (ne_of_none hp hP) n, up p o hp⟩) _ _ hr
end
end Rx
namespace PySem.W
open Lean Elab Tactic Meta PySem PySem.Calls PyProof.Rows
section
variable {prog : Program} {w : World} {A : Around} {E : Value → Shared → Prop} {s : Shared} {K : Frag} {x y C L f : Addr} {h₀ : Heap} {m : Str → Option Value} {ox oy : Obj} {od oe : Option Obj}
theorem noFillI {M : Model} {h : Heap} {cd : ClassData} {nm : String} {add : Bool} (X : K.In h) (hc : clsIn K C = some cd) (hm : cd.mro = [.ref C, .type "object"]) (hs : findIn K (.ref C) (dunderI nm) = some none)
    (ho : typeLookup (.type "object") (dunderI nm) = pure none) : Looks M h (fillsInplaceSlot (.ref C) nm add) false := by
  intro A Q E s k q
  have Lm : Looks M h (mroOf (.ref C)) cd.mro := (looks_clsIn X hc).andThen (f := fun cd => pure cd.mro) .now
  have Lm' := Lm.keeps k
  obtain ⟨hh, g, d, tt, os⟩ := s
  have X' : K.In hh := X.keeps k
  have L1 : Looks M hh (typeLookup (.ref C) (dunderI nm)) none := looks_findIn X' hs
  have L2 : Looks M hh (typeLookup (.type "object") (dunderI nm)) none := Looks.of_pure ho
  unfold fillsInplaceSlot
  refine wpAny_bind (Lm'.at ?_)
  rw [hm, List.anyM_cons]
  refine wpAny_bind ?_
  refine wpAny_bind (L1.at ?_)
  refine wpAny_pure ?_
  show wpAny _ _ (List.anyM _ _) _ _ _
  rw [List.anyM_cons]
  refine wpAny_bind ?_
  refine wpAny_bind (L2.at ?_)
  refine wpAny_pure ?_
  show wpAny _ _ (List.anyM _ _) _ _ _
  rw [List.anyM_nil]
  exact wpAny_pure q
theorem own_inC {op : Operator} {cd : ClassData} {Q : Value → Shared → Prop} (F : Fr h₀ L s.heap m) (X₀ : K.In h₀) (I : InstAt s.heap x ox C od) (I2 : InstAt s.heap y oy C oe) (hcd : clsIn K C = some cd) (hm : cd.mro = [.ref C, .type "object"])
    (hi : findIn K (.ref C) (dunderI op.info.2) = some none) (ho : typeLookup (.type "object") (dunderI op.info.2) = pure none)
    (hs : findIn K (.ref C) (PySem.dunder op.info.2) = some (some (.ref f))) (hf : isFn K (.ref f) = true)
    (h : wpAny (model prog w) A (call (.ref f) [.ref x, .ref y]) (CmpBack Q) E s) : wpAny (model prog w) A (inplaceOp op (.ref x) (.ref y)) Q E s := by
  have X := X₀.keeps F.keep
  rcases hi' : op.info with ⟨sym, nm'⟩
  rw [hi'] at hs hi ho
  dsimp only at hs hi ho
  have one := ksp_try X I hs hf h
  obtain ⟨hh, g, d, tt, os⟩ := s
  have L1 : Looks (model prog w) hh (typeOf (.ref x)) (.ref C) := I.type
  have L2 : Looks (model prog w) hh (typeOf (.ref y)) (.ref C) := I2.type
  have L3 : Looks (model prog w) hh (fillsNumberSlot (.ref C) nm') true := fills_K X hcd hm hs
  have L4 : Looks (model prog w) hh (fillsInplaceSlot (.ref C) nm' (op == .Add)) false := noFillI X hcd hm hi ho
  unfold inplaceOp
  simp only [hi']
  refine wpAny_holding ?_
  refine wpAny_bind (L1.at (wpAny_bind (L4.at ?_)))
  simp only [Bool.false_eq_true, if_false]
  first
    | refine wpAny_bind ?_
    | skip
  unfold binaryOp1
  first
    | refine wpAny_bind (L1.at (wpAny_bind (L2.at (wpAny_bind (L3.at ?_)))))
    | refine wpAny_bind (wpAny_pure (wpAny_bind (wpAny_bind (L1.at (wpAny_bind (L2.at (wpAny_bind (L3.at ?_))))))))
  simp only [beq_self_eq_true, if_true, Bool.and_false, Bool.false_eq_true, if_false]
  repeat ((fail_if_success (with_reducible show wpAny _ _ (tryMethod _ _ _) _ _ _)); lk)
  refine wpAny_mono one (fun r s' hr' => ?_) fun _ _ e => e
  obtain ⟨v, rfl, hq⟩ := hr'
  repeat ((fail_if_success (with_reducible show wpAny _ _ (tryMethod _ _ _) _ _ _)); lk)
  exact hq
end
end PySem.W
namespace Rx
open PySem PySem.Spec PyProof.Rows L2
theorem objI_add : typeLookup (.type "object") (dunderI "add") = pure none := by rw [typeLookup_type, builtinLookup_eq_fast]; kernel_rfl
theorem objI_sub : typeLookup (.type "object") (dunderI "sub") = pure none := by rw [typeLookup_type, builtinLookup_eq_fast]; kernel_rfl
theorem objI_mul : typeLookup (.type "object") (dunderI "mul") = pure none := by rw [typeLookup_type, builtinLookup_eq_fast]; kernel_rfl
/-- C has op, and no op= -/
structure OwnIn (K : PySem.W.Frag) (C : Addr) (op : Operator) (f : Addr) : Prop extends OwnBin K C op f where
  mro : ∃ cd, PySem.W.clsIn K C = some cd ∧ cd.mro = [.ref C, .type "object"]
  hi : PySem.W.findIn K (.ref C) (dunderI op.info.2) = some none
theorem ip_own {X : Cx} {K : PySem.W.Frag} (hK : X.K = K) {op : Operator} {n : Nat} {CX : CXT} {C f : Addr} {fd : FuncData} {ps : List Str} {sp : Sp} {E : XK} (F : FnOk X.prog X.w X.K X.mg X.base CX n f fd ps sp) (hr : Room n X.A)
    (o : OwnIn K C op f) (ho : typeLookup (.type "object") (dunderI op.info.2) = pure none) (hb : Binds X.K fd ps []) (hx : Passes CX X E) : PIp X op (rOwnBin C sp E) := by
  subst hK
  intro pins s σ H x y v u Q I rx ry d
  obtain ⟨a, dx, fs, b, dy, gs, rfl, ha, rfl, hb', hsp⟩ := d
  cases rx
  cases ry
  obtain ⟨mA, J, _⟩ := ins_get I.hok ha
  obtain ⟨od, J, _⟩ := J.look
  obtain ⟨mB, J2, _⟩ := ins_get I.hok hb'
  obtain ⟨oe, J2, _⟩ := J2.look
  obtain ⟨m, hF⟩ := I.fr
  obtain ⟨cd, hcd, hm⟩ := o.mro
  refine PySem.W.own_inC hF I.ok.mod.kin J J2 hcd hm o.hi ho o.hs o.hf ?_
  have hl := F.len _ _ _ _ hsp
  have r2 : Vals [V.ref a, V.ref b] [Value.ref a, Value.ref b] := .cons rfl (.cons rfl .nil)
  refine wpAny_call (codeAny_mono (F.run X.A X.stack s H ⟨[.ref a, .ref b], []⟩ [.ref a, .ref b] [.ref a, .ref b] _ E hr I.env0 (by
    have := hb s [.ref a, .ref b] I.kIn (by simpa using hl)
    simpa using this) r2 hsp) fun r s' hq => ?_)
  cases r with
  | error e => exact hx pins σ H s e s' I hq
  | ok fl =>
    cases fl with
    | ret w =>
      obtain ⟨z, H', I', rz, ⟨r, ez, q⟩⟩ := I.after hq
      subst ez
      cases (show w = Value.ref r from rz)
      exact ⟨.ref r, H', I', rfl, q⟩
    | next => exact False.elim hq
    | brk => exact False.elim hq
    | cont => exact False.elim hq
/-- C.m is a static method: its record at p, its def at g -/
structure SMet (K : PySem.W.Frag) (C : Addr) (m : Str) (g : Addr) : Prop where
  mc : ∃ mc, ClX.CRead K C mc ∧ ∃ p, PySem.W.findCls K (.ref C) mc m = some (.get (.builtin "staticmethod.__get__") (.ref p) .none (.ref C)) ∧ ∃ rest, PySem.W.recIn K p "staticmethod" = some (.ref g :: rest)
def tSMeth (C : Addr) (sp : Sp) (E : XK) (ta : TE) (t : TA) : TE := fun σ H Q => ta σ H fun x H1 => x = .ref C ∧ t σ H1 fun vs H2 => sp vs H2 Q E
section
variable {X : Cx} {CX : CXT} {k : Nat} {C g : Addr} {fd : FuncData} {ps : List Str} {sp : Sp} {E : XK} {o e : Expr} {es : List Expr} {m : Str} {pos apos : Pos} {ta : TE} {t : TA}
theorem pe_smeth {pl : Sem Bool} (he : PE X o ta) (c : SMet X.K C m g) (F : FnOk X.prog X.w X.K X.mg X.base CX k g fd ps sp) (hr : Room k X.A) (hk : PySem.W.keepIn X.K (.ref g) = true) (hb : Binds X.K fd ps []) (hx : Passes CX X E) (ha : PA X (e :: es) t)
    (hst : starEach (e :: es) X.env = (false, eval e X.env) :: starEach es X.env := by rfl) (hpl : (backTo pos (starEach es X.env)).any (·.1) = false := by rfl)
    (ht : eval (.Call (.Attribute o m apos) (e :: es) [] pos) X.env = (do
      let ov ← eval o X.env
      standAt apos.atName
      let (f, first) ← holding [ov] (getMethod ov m pl)
      callWith pos f first (backTo pos (starEach (e :: es) X.env)) (backToKw pos (keywordEach [] X.env))) := by rfl) :
    PE X (.Call (.Attribute o m apos) (e :: es) [] pos) (tSMeth C sp E ta t) := by
  obtain ⟨mc, r, p, hf, rest, hp⟩ := c.mc
  refine ⟨fun pins s σ H Q I h => ?_⟩
  refine PySem.W.methodCall_KW (pl := pl) (thn (he.run pins s σ H _ I h) fun u s1 ⟨x, H1, I1, rx, ex, q⟩ => ?_) ht
  subst ex
  obtain rfl : u = Value.ref C := rx
  refine PySem.W.method_cls I1.kIn r.ga (PySem.W.cls_bind I1.kIn r.rd hf ?_)
  refine wpAny_call (PySem.W.sm_get (s := { s1 with toks := s1.toks + 1 }) I1.kIn hp (PySem.W.handed_on rfl ?_))
  refine PySem.W.callWith_K (h₀ := X.base) I1.ok.mod.kin hk (thn (ha.run pos pins _ σ H1 _ (I1.tok _) q) fun us s2 ⟨vs, H2, I2, rv, q2⟩ => ⟨I2.kIn, ?_⟩) hst hpl
  exact run_fn F hr hb .nil hx I2 rv (by rw [List.append_nil]; exact q2)
end
end Rx
namespace Rx
open PySem PySem.Spec PyProof.Rows L2
/-! data that cannot lie at one address -/
def Apart (d e : D) : Prop := ∀ (ms ms' : List Addr) (H : Hp) (u : V), rep ms H d u → rep ms' H e u → False
def flatV : V → Bool
  | .ref _ => false
  | _ => true
section
variable {x : V} {ds es : List D} {C C' : Addr} {ns ns' : List Str}
theorem Apart.symm {d e : D} (h : Apart d e) : Apart e d := fun ms ms' H u a b => h ms' ms H u b a
theorem ap_vl (h : flatV x = true) : Apart (.v x) (.lst ds) := fun ms ms' H u a b => by
  rw [of_v a] at b
  simp only [rep] at b
  obtain ⟨p, _, e, _⟩ := b
  rw [e] at h
  cases h
theorem ap_vt (h : flatV x = true) : Apart (.v x) (.tup ds) := fun ms ms' H u a b => by
  rw [of_v a] at b
  simp only [rep] at b
  obtain ⟨p, _, e, _⟩ := b
  rw [e] at h
  cases h
theorem ap_vi (h : flatV x = true) : Apart (.v x) (.ins C ns ds) := fun ms ms' H u a b => by
  rw [of_v a] at b
  simp only [rep] at b
  obtain ⟨p, _, _, e, _⟩ := b
  rw [e] at h
  cases h
theorem ap_tl : Apart (.tup ds) (.lst es) := fun ms ms' H u a b => by
  simp only [rep] at a b
  obtain ⟨p, _, rfl, _, h, _⟩ := a
  obtain ⟨p', _, e, _, h', _⟩ := b
  cases e
  rw [h] at h'
  cases h'
theorem ap_il : Apart (.ins C ns ds) (.lst es) := fun ms ms' H u a b => by
  simp only [rep] at a b
  obtain ⟨p, _, _, rfl, _, h, _⟩ := a
  obtain ⟨p', _, e, _, h', _⟩ := b
  cases e
  rw [h] at h'
  cases h'
theorem ap_it : Apart (.ins C ns ds) (.tup es) := fun ms ms' H u a b => by
  simp only [rep] at a b
  obtain ⟨p, _, _, rfl, _, h, _⟩ := a
  obtain ⟨p', _, e, _, h', _⟩ := b
  cases e
  rw [h] at h'
  cases h'
theorem ap_tt {d e : D} (j : Nat) (hd : ds[j]? = some d) (he : es[j]? = some e) (h : Apart d e) : Apart (.tup ds) (.tup es) := fun ms ms' H u a b => by
  simp only [rep] at a b
  obtain ⟨p, vs, rfl, _, h1, r1⟩ := a
  obtain ⟨p', vs', e', _, h2, r2⟩ := b
  cases e'
  rw [h1] at h2
  cases h2
  obtain ⟨v, hv, q1⟩ := repL_get r1 hd
  obtain ⟨v', hv', q2⟩ := repL_get r2 he
  rw [hv] at hv'
  cases hv'
  exact h _ _ _ _ q1 q2
theorem ap_ll {α β : Type} {f : α → D} {g : β → D} {xs : List α} {ys : List β} (hy : 0 < ys.length) (h : ∀ x y, Apart (f x) (g y)) : Apart (.lst (xs.map f)) (.lst (ys.map g)) := fun ms ms' H u a b => by
  simp only [rep] at a b
  obtain ⟨p, vs, rfl, _, h1, r1⟩ := a
  obtain ⟨p', vs', e', _, h2, r2⟩ := b
  cases e'
  rw [h1] at h2
  cases h2
  cases ys with
  | nil => exact absurd hy (Nat.lt_irrefl _)
  | cons y ys =>
    obtain ⟨u, us, rfl, q2, _⟩ := repL_uncons r2
    cases xs with
    | nil =>
      have := repL_empty r1
      cases this
    | cons x xs =>
      obtain ⟨u', us', e, q1, _⟩ := repL_uncons r1
      cases e
      exact h x y _ _ _ _ q1 q2
end
mutual
/-- no list within d can be the one that tells e -/
def ApIn (e : D) : D → Prop
  | .v _ => True
  | .lst ds => Apart (.lst ds) e ∧ ApIns e ds
  | .tup ds => ApIns e ds
  | .ins _ _ ds => ApIns e ds
  | .dct _ _ => False
  | .dcT _ _ => False
def ApIns (e : D) : List D → Prop
  | [] => True
  | d :: ds => ApIn e d ∧ ApIns e ds
end
theorem apIns_map {α : Type} {e : D} {f : α → D} (h : ∀ x, ApIn e (f x)) : ∀ xs : List α, ApIns e (xs.map f)
  | [] => by simp only [List.map_nil, ApIns]
  | x :: xs => by
    simp only [List.map_cons, ApIns]
    exact ⟨h x, apIns_map h xs⟩
section
variable {ms ms' : List Addr} {ps : List PEn} {H0 H : Hp} {L : Addr} {es : List D}
theorem ne_dr {p : Addr} (dr : Drop ms L ms') (n : p ∉ ms') (q : p ≠ L) : p ∉ ms := fun z => (dr.ex p z).elim n q
mutual
theorem rep_liftA (dr : Drop ms L ms') (m : MutO ms ps H0 H L (.lst es)) : ∀ (d : D) (u : V), ApIn (.lst es) d → rep ms' H d u → rep ms H d u
  | .v x, u, _, h => by
    simp only [rep] at h ⊢
    exact h
  | .lst ds, u, n, h => by
    simp only [ApIn] at n
    have h0 := h
    simp only [rep] at h ⊢
    obtain ⟨p, vs, rfl, np, hp, hl⟩ := h
    refine ⟨p, vs, rfl, ne_dr dr np fun z => ?_, hp, repL_liftA dr m ds vs n.2 hl⟩
    rw [z] at h0
    exact n.1 _ _ _ _ h0 (mo_rep (ms' := []) (by simp) (fun a ha => absurd ha List.not_mem_nil) m)
  | .tup ds, u, n, h => by
    simp only [ApIn] at n
    simp only [rep] at h ⊢
    obtain ⟨p, vs, rfl, np, hp, hl⟩ := h
    refine ⟨p, vs, rfl, ne_dr dr np fun z => ?_, hp, repL_liftA dr m ds vs n hl⟩
    have := m.isMo
    rw [← z, hp] at this
    exact this
  | .ins C ns ds, u, n, h => by
    simp only [ApIn] at n
    simp only [rep] at h ⊢
    obtain ⟨p, dx, vs, rfl, np, hp, hn, hl⟩ := h
    refine ⟨p, dx, vs, rfl, ne_dr dr np fun z => ?_, hp, hn, repL_liftA dr m ds vs n hl⟩
    have := m.isMo
    rw [← z, hp] at this
    exact this
  | .dct _ ds, u, n, h => by
    simp only [ApIn] at n
  | .dcT _ ds, u, n, h => by
    simp only [ApIn] at n
theorem repL_liftA (dr : Drop ms L ms') (m : MutO ms ps H0 H L (.lst es)) : ∀ (ds : List D) (us : List V), ApIns (.lst es) ds → repL ms' H ds us → repL ms H ds us
  | [], us, _, h => by
    simp only [repL] at h ⊢
    exact h
  | d :: ds, us, n, h => by
    simp only [ApIns] at n
    simp only [repL] at h ⊢
    obtain ⟨u, ws, e, h1, h2⟩ := h
    exact ⟨u, ws, e, rep_liftA dr m d u n.1 h1, repL_liftA dr m ds ws n.2 h2⟩
end
end
end Rx
namespace Rx
open PySem PySem.Spec PyProof.Rows L2
/-! order of two tuples of three whole numbers -/
def gt3 (a b c a' b' c' : Int) : Bool := if a = a' then (if b = b' then decide (c' < c) else decide (b' < b)) else decide (a' < a)
def rGtT (K : PySem.W.Frag) : R2 := fun x y H Q => ∃ (a b : Addr) (p q r p' q' r' : Int), x = .ref a ∧ y = .ref b ∧ SqT K H a [.int p, .int q, .int r] ∧ SqT K H b [.int p', .int q', .int r'] ∧ Q (.bl (gt3 p q r p' q' r')) H
theorem vals3 {p q r : Int} {its : List Value} (h : Vals [V.int p, V.int q, V.int r] its) : ∃ t u v, its = [.int p t, .int q u, .int r v] := by
  cases h with
  | cons a h =>
    cases h with
    | cons b h =>
      cases h with
      | cons c h =>
        cases h
        obtain ⟨t, rfl⟩ := a
        obtain ⟨u, rfl⟩ := b
        obtain ⟨v, rfl⟩ := c
        exact ⟨t, u, v, rfl⟩
theorem op_gtT {X : Cx} {K : PySem.W.Frag} (hK : X.K = K) (hu : X.A.units < cLine) : OpR X (compareOp .Gt) (rGtT K) := by
  subst hK
  intro pins s σ H x y v u Q I rx ry d
  obtain ⟨a, b, p, q, r, p', q', r', rfl, rfl, ha, hb, k⟩ := d
  cases rx
  cases ry
  obtain ⟨its, rv, h1, _⟩ := I.tuple ha
  obtain ⟨its2, rv2, h2, _⟩ := I.tuple hb
  obtain ⟨t, u, v, rfl⟩ := vals3 rv
  obtain ⟨t', u', v', rfl⟩ := vals3 rv2
  have e : gt3 p q r p' q' r' = Ob.lexAt (fun j => [p == p', q == q', r == r'].getD j false) (fun j => [decide (p' < p), decide (q' < q), decide (r' < r)].getD j false) (decide (3 > 3)) 0 (min 3 3) := by
    show _ = Ob.lexAt _ _ _ 0 3
    rw [Ob.lexAt_succ, Ob.lexAt_succ, Ob.lexAt_succ, Ob.lexAt_zero]
    simp only [gt3, List.getD_cons_zero, List.getD_cons_succ, beq_iff_eq]
    by_cases z : p = p'
    · by_cases z2 : q = q'
      · by_cases z3 : r = r'
        · simp [z, z2, z3]
        · simp [z, z2, z3]
      · simp [z, z2]
    · simp [z]
  have w := Ob.RcOp.tuples_gt (A := X.A) h1 h2 hu (e := fun j => [p == p', q == q', r == r'].getD j false) (r := fun j => [decide (p' < p), decide (q' < q), decide (r' < r)].getD j false) (fun j z1 z2 => match j, z1 with
    | 0, _ => SeqAt.EqAt.int_int _ _ _ _
    | 1, _ => SeqAt.EqAt.int_int _ _ _ _
    | 2, _ => SeqAt.EqAt.int_int _ _ _ _) (fun j z1 z2 _ => match j, z1 with
    | 0, _ => Ob.RcOp.gt_int _ _ _ _
    | 1, _ => Ob.RcOp.gt_int _ _ _ _
    | 2, _ => Ob.RcOp.gt_int _ _ _ _)
  show wpAny _ _ (richCompare .Gt _ _) _ _ _
  refine w X.prog X.w _ _ ⟨.bl (gt3 p q r p' q' r'), H, I, ?_, k⟩
  rw [e]
  rfl
theorem rep_gtT {K : PySem.W.Frag} {ms ms' : List Addr} {H : Hp} {x y : V} {Q : VK} {p q r p' q' r' : Int} (h1 : rep ms H (.tup [.v (.int p), .v (.int q), .v (.int r)]) x) (h2 : rep ms' H (.tup [.v (.int p'), .v (.int q'), .v (.int r')]) y)
    (k : Q (.bl (gt3 p q r p' q' r')) H) : rGtT K x y H Q := by
  simp only [rep] at h1 h2
  obtain ⟨a, vs, rfl, _, ha, hv⟩ := h1
  obtain ⟨b, us, rfl, _, hb, hu⟩ := h2
  simp only [repL, rep] at hv hu
  obtain ⟨_, _, rfl, rfl, _, _, rfl, rfl, _, _, rfl, rfl, rfl⟩ := hv
  obtain ⟨_, _, rfl, rfl, _, _, rfl, rfl, _, _, rfl, rfl, rfl⟩ := hu
  exact ⟨a, b, p, q, r, p', q', r', rfl, rfl, SqT.of ha, SqT.of hb, k⟩
end Rx
namespace Rx
open PySem PySem.Spec PyProof.Rows L2
section
variable {e : D} {x : V} {C : Addr} {ns : List Str} {ds : List D}
theorem apIn_v : ApIn e (.v x) := by simp only [ApIn]
theorem apIn_l {α : Type} {f : α → D} {xs : List α} (h1 : Apart (.lst (xs.map f)) e) (h2 : ∀ x, ApIn e (f x)) : ApIn e (.lst (xs.map f)) := by
  simp only [ApIn]
  exact ⟨h1, apIns_map h2 xs⟩
theorem apIn_t (h : ApIns e ds) : ApIn e (.tup ds) := by
  simp only [ApIn]
  exact h
theorem apIn_i (h : ApIns e ds) : ApIn e (.ins C ns ds) := by
  simp only [ApIn]
  exact h
theorem apIns_nil : ApIns e [] := by simp only [ApIns]
theorem apIns_cons {d : D} (h : ApIn e d) (h2 : ApIns e ds) : ApIns e (d :: ds) := by
  simp only [ApIns]
  exact ⟨h, h2⟩
end
end Rx
namespace Rx
open PySem PySem.Spec PyProof.Rows L2
section
variable {α γ β : Type} {K : PySem.W.Frag} {H1 : Hp} {g : TG} {tt : TT} {te : TE} {vl : List Nat} {σ : L2.St} {Qd : Hp → Prop} {L : Addr}
theorem lc_zipMG {items : List α} {items2 : List γ} {e : α → D} {e2 : γ → D} {ms : List Addr} {a b : Addr} {body : (α × γ) → (β → Prop) → Prop} {KM : List β → Prop} (SI : Nat → List β → Hp → Prop) (mo : ∀ n ys H, SI n ys H → (∃ xs, H a = some (.lst xs) ∧ repL (L :: ms) H (items.map e) xs) ∧ ∃ zs, H b = some (.lst zs) ∧ repL (L :: ms) H (items2.map e2) zs)
    (tr : ∀ n ys H, SI n ys H → ∀ m ∈ L :: ms, H m ≠ none) (hM : (items.zip items2).length < 100000 ∧ mapC body (items.zip items2) [] KM) (h0 : SI 0 [] (upd H1 L (.lst [])))
    (hs : ∀ (x : α × γ) (u : V) (n : Nat) (ys : List β) (k : β → Prop) (H H2 : Hp), n < 100000 → SI n ys H → Ext H H2 → rep (L :: ms) H2 (.tup [e x.1, e2 x.2]) u → body x k → ∀ Nx : Hp → Prop, (∀ y H', k y → SI (n + 1) (ys ++ [y]) H' → Nx H') → Turn g tt te vl σ L u H2 Nx)
    (hd : ∀ n ys H, KM ys → SI n ys H → Qd H) :
    ∃ W : Nat → Nat → Hp → Prop, (∃ m, W 0 m (upd H1 L (.lst []))) ∧ ∀ i m H, W i m H →
      ((Itz K a b).stop i H ∧ Qd H) ∨ ((Itz K a b).go i H ∧ ∃ Nx : Hp → Prop, (∀ H', Nx H' → ∃ m', m' < m ∧ W (i + 1) m' H') ∧ ∀ x H', (Itz K a b).yld i H x H' → g x (wipe σ vl) H' fun σ2 H2 => wipe σ2 vl = wipe σ vl ∧ tt σ2 H2 fun b H3 =>
        if b = true then te σ2 H3 fun y H4 => ∃ acc, H4 L = some (.lst acc) ∧ acc.length < sizeLine ∧ Nx (upd H4 L (.lst (acc ++ [y]))) else Nx H3) := by
  obtain ⟨hn, hM⟩ := hM
  refine ⟨fun i m H => m = (items.zip items2).length - i ∧ i ≤ (items.zip items2).length ∧ ∃ ys, SI i ys H ∧ mapC body ((items.zip items2).drop i) ys KM, ⟨_, rfl, Nat.zero_le _, [], h0, hM⟩, ?_⟩
  rintro i m H ⟨rfl, hi', ys, T, q⟩
  obtain ⟨⟨xs, hA, hx⟩, zs, hB, hz⟩ := mo i ys H T
  have hl : items.length = xs.length := by
    have := repL_len hx
    rwa [List.length_map] at this
  have hl2 : items2.length = zs.length := by
    have := repL_len hz
    rwa [List.length_map] at this
  have zl : (items.zip items2).length = min xs.length zs.length := by rw [List.length_zip, hl, hl2]
  have w := walk_zip (K := K) (a := a) (b := b) (xs := xs) (ys := zs) (n := (items.zip items2).length) zl
  have hG : SqL K H a xs ∧ SqL K H b zs := ⟨.inl (.inl hA), .inl (.inl hB)⟩
  by_cases hlt : i < (items.zip items2).length
  · refine .inr ⟨w.goes i H hlt hG, fun H' => i + 1 ≤ (items.zip items2).length ∧ ∃ ys, SI (i + 1) ys H' ∧ mapC body ((items.zip items2).drop (i + 1)) ys KM, fun H' p' => ⟨_, by omega, rfl, p'⟩, fun x H' y => ?_⟩
    obtain ⟨T', x1, x2, rfl, nT, eH, e1, e3⟩ := w.yields i H x H' hlt hG y
    have l1 : i < items.length := by rw [zl] at hlt; omega
    have l2 : i < items2.length := by rw [zl] at hlt; omega
    have hit : (items.zip items2)[i]? = some (items[i]'l1, items2[i]'l2) := by
      rw [List.getElem?_zip_eq_some]
      exact ⟨List.getElem?_eq_getElem l1, List.getElem?_eq_getElem l2⟩
    rw [drop_cons' hit] at q
    obtain ⟨v, hv, rv⟩ := repL_get hx (j := i) (d := e (items[i]'l1)) (by rw [List.getElem?_map, List.getElem?_eq_getElem l1]; rfl)
    obtain ⟨v2, hv2, rv2⟩ := repL_get hz (j := i) (d := e2 (items2[i]'l2)) (by rw [List.getElem?_map, List.getElem?_eq_getElem l2]; rfl)
    have e1 : xs[i]? = some x1 := e1
    have e3 : zs[i]? = some x2 := e3
    rw [e1] at hv
    rw [e3] at hv2
    have ev : x1 = v := Option.some.inj hv
    have ev2 : x2 = v2 := Option.some.inj hv2
    subst ev
    subst ev2
    exact hs _ _ i ys _ H H' (by omega) T (by rw [eH]; exact Ext.new nT) (rep_pair (tr i ys H T) nT eH rv rv2) q _ fun y H'' k T' => ⟨hlt, _, T', k⟩
  · have ei : i = (items.zip items2).length := by omega
    refine .inl ⟨by rw [ei]; exact w.stops H hG, ?_⟩
    rw [List.drop_of_length_le (by omega)] at q
    exact hd _ ys H q T
theorem mo_valL {ms : List Addr} {ps : List PEn} {H0 H : Hp} {a : Addr} {ds : List D} (m : MutO ms ps H0 H a (.lst ds)) : ∃ xs, H a = some (.lst xs) ∧ repL ms H ds xs := m.val
theorem kp_valL {ms : List Addr} {H1 H : Hp} {a L : Addr} {ds : List D} {xs : List V} (nl : H1 L = none) (an : a ∉ ms) (ha : H1 a = some (.lst xs)) (hl : repL ms H1 ds xs) (k : Keep (L :: ms) H1 H) : ∃ xs, H a = some (.lst xs) ∧ repL (L :: ms) H ds xs :=
  ⟨xs, k a _ (nin_new nl an ha) ha, repL_keep k (repL_new nl hl)⟩
end
end Rx
namespace Rx
open PySem PySem.Spec PyProof.Rows L2
section
variable {α : Type} {K : PySem.W.Frag} {H1 : Hp} {ms : List Addr}
theorem wipe1 {σ : L2.St} {j : Nat} : L2.wipe σ [j] = σ.set j none := rfl
/-- [y for xs in l for y in xs], the items tuples of flat values -/
theorem lc2_flat {items : List α} {e : α → D} {f : α → List V} {xs : List V} {a : Addr} {i j : Nat} {σ : L2.St} {Qd : Addr → Hp → Prop}
    (he : ∀ y, e y = D.tup ((f y).map D.v)) (an : a ∉ ms) (ha : H1 a = some (.lst xs)) (hx : repL ms H1 (items.map e) xs) (hz : (items.flatMap f).length ≤ 16777216)
    (hi : i < σ.length) (hj : j < σ.length) (ij : i ≠ j) (q : ∀ L, H1 L = none → Qd L (upd H1 L (.lst (items.flatMap f)))) :
    ∀ D, H1 D = none → ∃ W : Nat → Nat → Hp → Prop, (∃ m, W 0 m (upd H1 D (.lst []))) ∧ ∀ i' m H, W i' m H →
      ((Itl K a).stop i' H ∧ Qd D H) ∨ ((Itl K a).go i' H ∧ ∃ Nx : Hp → Prop, (∀ H', Nx H' → ∃ m', m' < m ∧ W (i' + 1) m' H') ∧ ∀ x H', (Itl K a).yld i' H x H' → gName i x (wipe σ [i, j]) H' fun σ2 H2 => wipe σ2 [i, j] = wipe σ [i, j] ∧ tYes σ2 H2 fun b H3 =>
        if b = true then iTup K (tVar i) σ2 H3 fun J1 H4 => ∃ W1 : Nat → Nat → Hp → Prop, (∃ m, W1 0 m H4) ∧ ∀ j' k H, W1 j' k H →
          (J1.stop j' H ∧ Nx H) ∨ (J1.go j' H ∧ ∃ Nx1 : Hp → Prop, (∀ H', Nx1 H' → ∃ k', k' < k ∧ W1 (j' + 1) k' H') ∧ ∀ x H', J1.yld j' H x H' → gName j x (wipe σ2 [j]) H' fun σ3 H5 => wipe σ3 [j] = wipe σ2 [j] ∧ tYes σ3 H5 fun b H6 =>
            if b = true then tVar j σ3 H6 fun y H7 => ∃ acc, H7 D = some (.lst acc) ∧ acc.length < sizeLine ∧ Nx1 (upd H7 D (.lst (acc ++ [y]))) else Nx1 H6)
        else Nx H3) := by
  intro L nl
  have hl : items.length = xs.length := by
    have := repL_len hx
    rwa [List.length_map] at this
  have aL : a ≠ L := ne_of_none ha nl
  have hx1 : ∀ acc : List V, repL (L :: ms) (upd H1 L (.lst acc)) (items.map e) xs := fun acc => repL_map (fun p o n hp => ⟨fun z => by
    rcases List.mem_cons.mp z with z | z
    · exact ne_of_none hp nl z
    · exact n z, by rw [upd_ne (ne_of_none hp nl)]; exact hp⟩) _ _ hx
  refine ⟨fun i' m H => m = xs.length - i' ∧ i' ≤ xs.length ∧ H = upd H1 L (.lst ((items.take i').flatMap f)), ⟨_, rfl, Nat.zero_le _, rfl⟩, ?_⟩
  rintro i' m H ⟨rfl, hi', rfl⟩
  have hA : (upd H1 L (.lst ((items.take i').flatMap f))) a = some (.lst xs) := by rw [upd_ne aL]; exact ha
  by_cases hlt : i' < xs.length
  · refine .inr ⟨⟨xs, xs[i'], .inl (.inl hA), by simp [hlt]⟩, fun H' => H' = upd H1 L (.lst ((items.take (i' + 1)).flatMap f)), fun H' p' => ⟨_, by omega, rfl, hlt, p'⟩, fun x H' y => ?_⟩
    obtain ⟨e1, y⟩ := y
    subst e1
    have hxi := y xs (.inl (.inl hA))
    have hit : items[i']? = some (items[i']'(by omega)) := List.getElem?_eq_getElem (by omega)
    generalize items[i']'(by omega) = it at hit
    obtain ⟨v, hv, rv⟩ := repL_get (hx1 ((items.take i').flatMap f)) (j := i') (d := e it) (by rw [List.getElem?_map, hit]; rfl)
    rw [hxi] at hv
    obtain rfl : x = v := Option.some.inj hv
    rw [he] at rv
    simp only [rep] at rv
    obtain ⟨b, us, rfl, nb, hb, hr⟩ := rv
    obtain rfl : us = f it := repL_flat.mp hr
    have bL : b ≠ L := fun z => nb (by rw [z]; exact List.mem_cons_self)
    have hb1 : H1 b = some (.tup (f it)) := by rw [upd_ne bL] at hb; exact hb
    have tk : items.take (i' + 1) = items.take i' ++ [it] := by
      rw [List.take_add_one, hit]
      rfl
    have hz1 : ((items.take i').flatMap f).length + (f it).length ≤ 16777216 := by
      have : ((items.take (i' + 1)).flatMap f).length ≤ (items.flatMap f).length := by
        conv => rhs; rw [← List.take_append_drop (i' + 1) items, List.flatMap_append, List.length_append]
        exact Nat.le_add_right _ _
      rw [tk, List.flatMap_append, List.length_append] at this
      simp only [List.flatMap_cons, List.flatMap_nil, List.append_nil] at this
      omega
    have li : i < (wipe σ [i, j]).length := by rw [wipe_length]; exact hi
    show wipe ((wipe σ [i, j]).set i (some (.ref b))) [i, j] = wipe σ [i, j] ∧ _
    refine ⟨by rw [wipe_set (by simp), wipe_idem], ?_⟩
    unfold tYes
    simp only [if_true]
    refine ⟨.ref b, by rw [List.getElem?_set_self li], b, rfl, ⟨f it, .inl (.inl hb)⟩, ?_⟩
    refine ⟨fun j' k H => k = (f it).length - j' ∧ j' ≤ (f it).length ∧ H = upd H1 L (.lst ((items.take i').flatMap f ++ (f it).take j')), ⟨_, rfl, Nat.zero_le _, by simp⟩, ?_⟩
    rintro j' k H ⟨rfl, hj', rfl⟩
    have hB : (upd H1 L (.lst ((items.take i').flatMap f ++ (f it).take j'))) b = some (.tup (f it)) := by rw [upd_ne bL]; exact hb1
    by_cases hlt2 : j' < (f it).length
    · refine .inr ⟨⟨f it, (f it)[j'], .inl (.inl hB), by simp [hlt2]⟩, fun H' => H' = upd H1 L (.lst ((items.take i').flatMap f ++ (f it).take (j' + 1))), fun H' p' => ⟨_, by omega, rfl, hlt2, p'⟩, fun x H' y => ?_⟩
      obtain ⟨e1, y⟩ := y
      subst e1
      have hxj := y (f it) (.inl (.inl hB))
      have lj : j < (wipe ((wipe σ [i, j]).set i (some (.ref b))) [j]).length := by rw [wipe_length, List.length_set, wipe_length]; exact hj
      show wipe ((wipe ((wipe σ [i, j]).set i (some (.ref b))) [j]).set j (some x)) [j] = wipe ((wipe σ [i, j]).set i (some (.ref b))) [j] ∧ _
      refine ⟨by rw [wipe_set (by simp), wipe_idem], ?_⟩
      refine ⟨x, by rw [List.getElem?_set_self lj], _, upd_same, ?_, ?_⟩
      · rw [List.length_append, List.length_take, sizeLine_eq]
        omega
      · rw [upd_upd, List.append_assoc, List.take_add_one, hxj]
        rfl
    · refine .inl ⟨⟨f it, .inl (.inl hB), by omega⟩, ?_⟩
      show _ = _
      rw [tk, List.flatMap_append, List.take_of_length_le (l := f it) (by omega)]
      simp
  · refine .inl ⟨⟨xs, .inl (.inl hA), by omega⟩, ?_⟩
    rw [List.take_of_length_le (by omega)]
    exact q L nl
theorem lc2_flatC {β : Type} {items : List α} {e : α → D} {g : α → List β} {c : β → V} {xs : List V} {a : Addr} {i j : Nat} {σ : L2.St} {Qd : Addr → Hp → Prop}
    (he : ∀ y, e y = D.tup ((g y).map fun z => D.v (c z))) (an : a ∉ ms) (ha : H1 a = some (.lst xs)) (hx : repL ms H1 (items.map e) xs) (hz : (items.flatMap g).length ≤ 16777216)
    (hi : i < σ.length) (hj : j < σ.length) (ij : i ≠ j) (q : ∀ L, H1 L = none → Qd L (upd H1 L (.lst ((items.flatMap g).map c)))) :
    ∀ D, H1 D = none → ∃ W : Nat → Nat → Hp → Prop, (∃ m, W 0 m (upd H1 D (.lst []))) ∧ ∀ i' m H, W i' m H →
      ((Itl K a).stop i' H ∧ Qd D H) ∨ ((Itl K a).go i' H ∧ ∃ Nx : Hp → Prop, (∀ H', Nx H' → ∃ m', m' < m ∧ W (i' + 1) m' H') ∧ ∀ x H', (Itl K a).yld i' H x H' → gName i x (wipe σ [i, j]) H' fun σ2 H2 => wipe σ2 [i, j] = wipe σ [i, j] ∧ tYes σ2 H2 fun b H3 =>
        if b = true then iTup K (tVar i) σ2 H3 fun J1 H4 => ∃ W1 : Nat → Nat → Hp → Prop, (∃ m, W1 0 m H4) ∧ ∀ j' k H, W1 j' k H →
          (J1.stop j' H ∧ Nx H) ∨ (J1.go j' H ∧ ∃ Nx1 : Hp → Prop, (∀ H', Nx1 H' → ∃ k', k' < k ∧ W1 (j' + 1) k' H') ∧ ∀ x H', J1.yld j' H x H' → gName j x (wipe σ2 [j]) H' fun σ3 H5 => wipe σ3 [j] = wipe σ2 [j] ∧ tYes σ3 H5 fun b H6 =>
            if b = true then tVar j σ3 H6 fun y H7 => ∃ acc, H7 D = some (.lst acc) ∧ acc.length < sizeLine ∧ Nx1 (upd H7 D (.lst (acc ++ [y]))) else Nx1 H6)
        else Nx H3) := by
  have ef : items.flatMap (fun y => (g y).map c) = (items.flatMap g).map c := by rw [List.map_flatMap]
  refine lc2_flat (f := fun y => (g y).map c) (fun y => ?_) an ha hx ?_ hi hj ij ?_
  · rw [he, List.map_map]
    rfl
  · rw [ef, List.length_map]
    exact hz
  · rw [ef]
    exact q
end
/-! list(text) -/
section
theorem vals_signs : ∀ (cs : List Nat) (vs : List Value), cs.length = vs.length → (∀ (j : Nat) v, vs[j]? = some v → ∃ c t, cs[j]? = some c ∧ v = Value.str ⟨#[c]⟩ t) → Vals (cs.map fun c => V.str ⟨#[c]⟩) vs
  | [], [], _, _ => .nil
  | [], _ :: _, h, _ => by simp at h
  | _ :: _, [], h, _ => by simp at h
  | c :: cs, v :: vs, h, k => by
    obtain ⟨c', t, hc, rfl⟩ := k 0 v rfl
    cases hc
    exact .cons ⟨t, rfl⟩ (vals_signs cs vs (by simpa using h) fun j u hu => k (j + 1) u hu)
def rListS : List V → Hp → VK → Prop := fun xs H Q => ∃ x, xs = [V.str x] ∧ x.cps.size ≤ sizeLine ∧ ∀ p, H p = none → Q (.ref p) (upd H p (.lst ((signs x).map V.str)))
theorem call_listS {X : Cx} (hc : X.calm = true) : CallR X (.type "list") rListS := by
  intro pins s σ H xs us Q I r h
  obtain ⟨x, rfl, hz, q⟩ := h
  obtain ⟨u, rfl, rx⟩ := r.one
  obtain ⟨t, rfl⟩ := rx
  refine call_list_str (I.ok.hd hc) x t (fun h' tk acc' c' kp e it => ?_) hz
  have es : (signs x).map V.str = x.cps.toList.map fun c => V.str ⟨#[c]⟩ := by
    unfold signs
    rw [List.map_map]
    rfl
  have rv : Vals ((signs x).map V.str) acc'.toList := by
    rw [es]
    refine vals_signs _ _ (by rw [Array.length_toList, Array.length_toList]; exact it.1.symm) fun j v hv => ?_
    obtain ⟨c, u, hcx, ev⟩ := it.2 j v (by rw [← Array.getElem?_toList]; exact hv)
    exact ⟨c, u, by rw [Array.getElem?_toList]; exact hcx, ev⟩
  refine ⟨.ref s.heap.objs.size, _, I.laid (t' := tk) (o := .lst ((signs x).map V.str)) kp (Nat.le_refl _) ?_, rfl, q _ (I.hok.fresh (Nat.le_refl _))⟩
  exact ⟨by rw [List.length_map, signs_len]; exact hz, acc'.toList, c', rv, by rw [Array.toArray_toList]; exact e⟩
end
section
def rClearO : V → List V → Hp → VK → Prop := fun x vs H Q => ∃ l xs, x = .ref l ∧ vs = [] ∧ H l = some (.lst xs) ∧ Q .non (upd H l (.lst []))
theorem mt_clearO {X : Cx} : MtM X "list.clear" rClearO := by
  intro pins s σ H x vs v us Q I rx rv h
  obtain ⟨l, xs, rfl, rfl, hH, q⟩ := h
  cases rx
  have hus := rv.zero
  subst hus
  obtain ⟨z, its, n, r, hl, e⟩ := I.lstM hH
  refine call_meets PySem.F.slot_list_clear ⟨_, e, rfl⟩ PySem.F.entry_list_clear (PySem.F.args_list_clear_1 _) (AutoSeq1.list_clear_list_0 l its.toArray n (by rw [List.size_toArray]; omega)) ⟨e, ?_⟩
  exact ⟨.non, _, I.lset (its' := []) hH e rfl .nil (Nat.zero_le _), rfl, q⟩
end
section
variable {K : PySem.W.Frag} {ms : List Addr} {ps : List PEn} {H0 H : Hp} {x : V} {L : Addr} {ds : List D}
theorem mo_clearU {Q : VK} (m : MutO ms ps H0 H L (.lst ds)) (q : Q .non (upd H L (.lst []))) : rClearO (.ref L) [] H Q := by
  obtain ⟨vs, h1, h2⟩ := m.val
  exact ⟨L, vs, rfl, rfl, h1, q⟩
theorem pi_tupK {X : Cx} {tg l : PySem.Expr} {tl : TE} (hK : X.K = K) (hl : PE X l tl) : PI X tg l (iTup K tl) := by
  subst hK
  exact pi_tup hl
theorem pi_listK {X : Cx} {tg l : PySem.Expr} {tl : TE} (hK : X.K = K) (hl : PE X l tl) : PI X tg l (iList K tl) := by
  subst hK
  exact pi_list hl
theorem blkOk_in {X : Cx} {sc sc1 scope : Scope} {N : List Str} {own : List (Str × Nat)} (hN : X.N = N) (h : BlkOk N sc1 scope own) (hf : (scope.names.all fun y => match y.2 with | .free => false | _ => true) = true) :
    BlkOk X.N sc scope own := by
  subst hN
  refine ⟨h.kind, h.uniq, h.ix, fun y hy e => ?_, h.own⟩
  have := List.all_eq_true.mp hf y hy
  rw [e] at this
  cases this
theorem repL_strsM {xs : List Str} : repL ms H (xs.map fun y_ : Str => D.v (V.str y_)) (xs.map V.str) := by
  have e1 : xs.map (fun y_ : Str => D.v (V.str y_)) = (xs.map V.str).map D.v := by
    rw [List.map_map]
    rfl
  rw [e1]
  exact repL_flat.mpr rfl
theorem cr_sortedPK {X : Cx} (hK : X.K = K) : CallR X (.builtin "sorted") (rSortedPO K) := by
  subst hK
  exact cr_sortedPO
theorem rep_cast {d d' : D} (e : d = d') (h : rep ms H d x) : rep ms H d' x := e ▸ h
abbrev encP2 (y : Int × Int) : D := D.tup [D.v (V.int y.1), D.v (V.int y.2)]
def keyP (H : Hp) : V → Int × Int
  | .ref t => match H t with
    | some (.tup [.int i, .int j]) => (i, j)
    | _ => (0, 0)
  | _ => (0, 0)
theorem rep_p2 {y : Int × Int} {v : V} (h : rep ms H (encP2 y) v) : keyP H v = y ∧ ∃ t, v = .ref t ∧ H t = some (.tup [.int y.1, .int y.2]) := by
  simp only [rep] at h
  obtain ⟨p, vs, rfl, _, hp, hr⟩ := h
  obtain ⟨u1, r1, rfl, h1, hr⟩ := repL_uncons hr
  obtain ⟨u2, r2, rfl, h2, hr⟩ := repL_uncons hr
  obtain rfl := repL_empty hr
  obtain rfl := of_v h1
  obtain rfl := of_v h2
  refine ⟨?_, p, rfl, hp⟩
  unfold keyP
  simp only [hp]
theorem repL_keysP : ∀ {xs : List (Int × Int)} {vs : List V}, repL ms H (xs.map encP2) vs → vs.map (keyP H) = xs ∧ ∀ v ∈ vs, rep ms H (encP2 (keyP H v)) v
  | [], vs, h => by
    obtain rfl := repL_empty h
    exact ⟨rfl, fun v hv => absurd hv List.not_mem_nil⟩
  | y :: xs, vs, h => by
    obtain ⟨u, us, rfl, h1, h2⟩ := repL_uncons h
    obtain ⟨e, f⟩ := repL_keysP h2
    have k1 := (rep_p2 h1).1
    refine ⟨by rw [List.map_cons, e, k1], fun v hv => ?_⟩
    rcases List.mem_cons.mp hv with rfl | hv
    · rw [k1]
      exact h1
    · exact f v hv
theorem repL_of_keysP : ∀ {vs : List V}, (∀ v ∈ vs, rep ms H (encP2 (keyP H v)) v) → repL ms H ((vs.map (keyP H)).map encP2) vs
  | [], _ => repL_nil
  | v :: vs, h => repL_cons (h v List.mem_cons_self) (repL_of_keysP fun u hu => h u (List.mem_cons_of_mem _ hu))
/-- pairs of ints in order -/
def lePI (a b : Int × Int) : Prop := a.1 < b.1 ∨ (a.1 = b.1 ∧ a.2 ≤ b.2)
theorem lexB_le {a b : Int × Int} (h : SrtO.lexB b a = false) : lePI a b := by
  have := SrtO.lexB_no.mp h
  unfold lePI
  omega
theorem rep_sortP {xs : List (Int × Int)} {P : List V → Addr → Prop} (h : rep ms H (.lst (xs.map encP2)) x)
    (q : ∀ (ys : List (Int × Int)) (zs : List V), ys.Perm xs → ys.Pairwise lePI → repL ms H (ys.map encP2) zs → ∀ p, H p = none → P zs p) :
    ∃ (a : Addr) (vs : List V) (k : V → Int × Int), [x] = [V.ref a] ∧ SqL K H a vs ∧ (∀ x ∈ vs, ∃ t, x = V.ref t ∧ H t = some (.tup [.int (k x).1, .int (k x).2])) ∧
      ∀ (zs : List V) (p : Addr), SrtO.Srtd (ltP k) zs → SrtO.Stb (ltP k) zs vs → H p = none → P zs p := by
  simp only [rep] at h
  obtain ⟨p, vs, rfl, _, hp, hr⟩ := h
  obtain ⟨e, f⟩ := repL_keysP hr
  refine ⟨p, vs, keyP H, rfl, .inl (.inl hp), fun v hv => (rep_p2 (f v hv)).2, fun zs l srt stb nl => ?_⟩
  refine q (zs.map (keyP H)) zs ?_ ?_ (repL_of_keysP fun v hv => f v (stb.perm.mem_iff.mp hv)) l nl
  · rw [← e]
    exact stb.perm.map _
  · refine List.pairwise_map.mpr (List.Pairwise.imp ?_ srt)
    intro a b hab
    exact lexB_le hab
end
/-! lists compared whose items are plain data or dicts without entries -/
section
def okX : D → D → Bool
  | .dct ks _, .dct ls _ => ks.isEmpty && ls.isEmpty
  | d, e => plainD d && plainD e && (pyOf d).canLay0 && (pyOf e).canLay0 && decide ((pyOf d).depth ≤ 60)
def eqX : D → D → Bool
  | .dct _ _, .dct _ _ => true
  | d, e => PyData.eqv (pyOf d) (pyOf e)
theorem okX_cases {d e : D} (h : okX d e = true) : (∃ ds es, d = .dct [] ds ∧ e = .dct [] es ∧ eqX d e = true) ∨ (plainD d = true ∧ plainD e = true ∧ (pyOf d).canLay0 = true ∧ (pyOf e).canLay0 = true ∧ (pyOf d).depth ≤ 60 ∧ eqX d e = PyData.eqv (pyOf d) (pyOf e)) := by
  cases d with
  | dct ks ds =>
    cases e with
    | dct ls es =>
      simp only [okX, Bool.and_eq_true, List.isEmpty_iff] at h
      obtain ⟨rfl, rfl⟩ := h
      exact .inl ⟨_, _, rfl, rfl, rfl⟩
    | _ => exact absurd h (by simp [okX, plainD])
  | _ =>
    simp only [okX, Bool.and_eq_true, decide_eq_true_eq] at h
    exact .inr ⟨h.1.1.1.1, h.1.1.1.2, h.1.1.2, h.1.2, h.2, by simp only [eqX]⟩
section
variable {X : Cx} {pins : List (Addr × Obj)} {σ : L2.St} {H : Hp} {s : Shared} {ms : List Addr}
theorem edict_of {h : Heap} {a : Addr} {o : Obj} {n : Nat} (ho : h.get? a = some o) (hc : o.ExactDict) (hd : o.data = .dict #[] n) (P : Program) (w : World) : h.DictOf (mixKind P w) a [] := by
  refine ⟨o, #[], n, ho, hc, hd, ?_, ?_, ?_⟩
  · first | exact fun _ z => nomatch z | (intro i en hi; simp at hi) | (unfold KeysOf; simp)
  · first | exact .nil | (unfold Pairs; simp)
  · exact List.nodup_nil
theorem eqAtX (I : L2.Inv X pins σ H s) {d e : D} {u v : V} {vu vv : Value} {A : Around} (hu : A.units + 61 < cLine) (h1 : rep ms H d u) (h2 : rep ms H e v) (r1 : RelV u vu) (r2 : RelV v vv) (ok : okX d e = true) : SeqAt.EqAt A s vu vv (eqX d e) := by
  rcases okX_cases ok with ⟨ds, es, rfl, rfl, eq⟩ | ⟨p1, p2, c1, c2, dp, eq⟩
  · rw [eq]
    simp only [rep] at h1 h2
    obtain ⟨a, vs, rfl, _, hp, _, _⟩ := h1
    obtain ⟨b, us, rfl, _, hq, _, _⟩ := h2
    cases r1
    cases r2
    by_cases ab : a = b
    · rw [ab]
      exact SeqAt.EqAt.same _
    · obtain ⟨_, la, ws, kv, o, es1, ep, h1, h2, h3, _, h5, _⟩ := dk_of I.hok hp
      obtain ⟨_, lb, ws', kv', o', es', ep', g1, g2, g3, _, g5, _⟩ := dk_of I.hok hq
      cases kv
      cases kv'
      have e1 : es1 = #[] := Array.toList_eq_nil_iff.mp (by generalize es1.toList = l at h5; cases h5; rfl)
      have e2 : es' = #[] := Array.toList_eq_nil_iff.mp (by generalize es'.toList = l at g5; cases g5; rfl)
      subst e1 e2
      refine SeqAt.EqAt.of_refs ab fun prog w E Q hq => ?_
      exact PySem.W.rcP_dicts (knd := mixKind prog w) (ka := []) (kb := []) (r := true) la lb (edict_of h1 h2 h3 prog w) (edict_of g1 g2 g3 prog w) (by omega) (fun _ => .nil) E Q hq
  · rw [eq]
    obtain ⟨as, q1⟩ := Dp.reads I _ u vu (dp_of (K := X.K) d u p1 h1) r1
    obtain ⟨bs, q2⟩ := Dp.reads I _ v vv (dp_of (K := X.K) e v p2 h2) r2
    exact SeqAt.eqAt_reads _ _ A s vu vv as bs q1 q2 c1 c2 (by omega)
end
def rNeL (K : PySem.W.Frag) : R2 := fun x y H Q => ∃ (ms : List Addr) (a b : Addr) (vs us : List V) (ds es : List D), x = .ref a ∧ y = .ref b ∧ SqL K H a vs ∧ SqL K H b us ∧ repL ms H ds vs ∧ repL ms H es us ∧ ds.length = es.length ∧
  (∀ p ∈ List.zip ds es, okX p.1 p.2 = true) ∧ Q (.bl (!((List.zip ds es).all fun p => eqX p.1 p.2))) H
theorem all_range {α : Type} (f : α → Bool) (d0 : α) : ∀ l : List α, (List.range l.length).all (fun j => f (l.getD j d0)) = l.all f
  | [] => rfl
  | x :: l => by
    rw [List.length_cons, List.range_succ_eq_map, List.all_cons, List.all_map, List.all_cons, ← all_range f d0 l]
    rfl
theorem op_neL {X : Cx} {K : PySem.W.Frag} (hK : X.K = K) (hu : X.A.units + 64 < cLine) : OpR X (compareOp .NotEq) (rNeL K) := by
  subst hK
  intro pins s σ H x y v u Q I rx ry h
  obtain ⟨ms, a, b, vs, us, ds, es, rfl, rfl, sa, sb, ra, rb, hl, ok, q⟩ := h
  obtain rfl : v = Value.ref a := rx
  obtain rfl : u = Value.ref b := ry
  obtain ⟨its, rv, isl, small⟩ := I.list sa
  obtain ⟨its2, rv2, isl2, small2⟩ := I.list sb
  have l1 := repL_len ra
  have l2 := repL_len rb
  have l3 := rv.length
  have l4 := rv2.length
  have lz : (List.zip ds es).length = its.length := by rw [List.length_zip]; omega
  have key := SeqAt.RcNeAt.lists (A := X.A) (e := fun j => (fun p : D × D => eqX p.1 p.2) ((List.zip ds es).getD j (.v .non, .v .non))) isl.isList isl2.isList (by rw [List.size_toArray, List.size_toArray]; omega) (by omega) (fun j h1 h2 => by
    rw [List.size_toArray] at h1 h2
    have hj1 : j < ds.length := by omega
    have hj2 : j < es.length := by omega
    have gz : (List.zip ds es)[j]? = some (ds[j], es[j]) := by rw [List.getElem?_eq_getElem (by rw [List.length_zip]; omega), List.getElem_zip]
    have gd : (List.zip ds es).getD j (.v .non, .v .non) = (ds[j], es[j]) := by rw [List.getD_eq_getElem?_getD, gz]; rfl
    obtain ⟨v1, hv1, q1⟩ := repL_get ra (List.getElem?_eq_getElem hj1)
    obtain ⟨v2, hv2, q2⟩ := repL_get rb (List.getElem?_eq_getElem hj2)
    obtain ⟨w1, hw1, t1⟩ := rv.get hv1
    obtain ⟨w2, hw2, t2⟩ := rv2.get hv2
    have o := ok (ds[j], es[j]) (List.mem_of_getElem? gz)
    have e1 : its.toArray[j]'(by rw [List.size_toArray]; exact h1) = w1 := by
      rw [List.getElem?_eq_getElem h1] at hw1
      exact Option.some.inj hw1
    have e2 : its2.toArray[j]'(by rw [List.size_toArray]; exact h2) = w2 := by
      rw [List.getElem?_eq_getElem h2] at hw2
      exact Option.some.inj hw2
    rw [e1, e2]
    show SeqAt.EqAt _ _ _ _ (eqX ((List.zip ds es).getD j (.v .non, .v .non)).1 ((List.zip ds es).getD j (.v .non, .v .non)).2)
    rw [gd]
    exact eqAtX I (A := X.A.in1) (by show X.A.units + 1 + 61 < _; omega) q1 q2 t1 t2 o)
  refine key X.prog X.w X.xe _ ?_
  rw [List.size_toArray, ← lz, all_range (fun p : D × D => eqX p.1 p.2)]
  exact ⟨.bl _, H, I, rfl, q⟩
theorem rep_neL {K : PySem.W.Frag} {ms : List Addr} {H : Hp} {x y : V} {ds es : List D} {Q : VK} (h1 : rep ms H (.lst ds) x) (h2 : rep ms H (.lst es) y) (hl : ds.length = es.length ∧ ∀ p ∈ List.zip ds es, okX p.1 p.2 = true) (q : Q (.bl (!((List.zip ds es).all fun p => eqX p.1 p.2))) H) : rNeL K x y H Q := by
  simp only [rep] at h1 h2
  obtain ⟨a, vs, rfl, _, hp, hr⟩ := h1
  obtain ⟨b, us, rfl, _, hq, hs⟩ := h2
  exact ⟨ms, a, b, vs, us, ds, es, rfl, rfl, .inl (.inl hp), .inl (.inl hq), hr, hs, hl.1, hl.2, q⟩
end
end Rx
namespace Rx
open PySem PySem.Spec PyProof.Rows L2
theorem frs_lt {X : Cx} {pins : List (Addr × Obj)} {σ : L2.St} {H : Hp} {s : Shared} (I : L2.Inv X pins σ H s) : ∀ b ∈ frs X.stack, b < s.heap.objs.size := fun b hb => by
  obtain ⟨_, o, ho, _⟩ := I.env0.funs.mem hb
  exact Heap.lt_size ho
/-- as LamX.lam_make2, for one table, and all else stays -/
theorem lam_make3 {X : Cx} {pins : List (Addr × Obj)} {σ : L2.St} {H : Hp} {s : Shared} {c P : Addr} {params : Arguments} {body : PySem.Expr} {scope : PySem.Scope} {pos : Pos} {E Q : Value → Shared → Prop}
    (I : L2.Inv X pins σ H s) (TB : LamX.TabB X.base X.mg c P) (hc : X.env.code = .ref c) (ht : LamX.TabS H P (X.env.qual ++ "<lambda>")) (hd : defaultsOf params X.env = ([], []))
    (hfree : ∀ y ∈ scope.names, y.2 = NameKind.free → ∃ c, List.lookup y.1 X.env.cells = some c)
    (k : ∀ (f c' : Addr) (pm ctv : Value) (H1 : Hp) (s' : Shared), L2.Inv X pins σ H1 s' → (∀ b o, b ≠ P → H b = some o → H1 b = some o) → LamX.TabS H1 P (X.env.qual ++ "<lambda>") →
      s'.heap.get? f = some (PySem.W.kla_obj "<lambda>" (X.env.qual ++ "<lambda>") params body scope (cloFrom X.env.cells scope.names []) pm c' ctv) → H1 f = none → f ∉ frs X.stack →
      H1 c' = some (LamX.CodeO c' (X.env.qual ++ "<lambda>")) → Q (.ref f) s') :
    wpAny (model X.prog X.w) X.A (eval (.Lambda params body scope pos) X.env) Q E s := by
  obtain ⟨ps, hP, htr, hco⟩ := ht
  obtain ⟨m, F⟩ := I.fr
  have hg : s.heap.get? P = some (PySem.W.tabObj ps) := by
    have h := I.hok P _ hP
    simp only [ObjOk] at h
    exact h
  have cl := L2.closure_ok (scope := scope) (env := X.env) hfree
  have ns : s.heap.Ns mainGlobals X.mg := I.ok.mod.glob.keeps F.keep
  have cd := TB.code.keeps F.keep
  have bm := TB.bm.keeps F.keep
  have pl : P < s.heap.objs.size := Heap.lt_size hg
  have fl := frs_lt I
  refine PySem.W.kla_eval hd ?_
  cases hcase : codeAmong pos ps.toList with
  | some cv =>
    obtain ⟨c', rfl, hc'⟩ := hco pos cv hcase
    refine PySem.W.kla_makeFunctionHit cl I.ok.glob ns hc cd hg htr hcase bm fun ctv h' tk hk hsz => ?_
    refine k h'.objs.size c' ((X.mg "__name__").getD .none) ctv H _ (I.kept fun b u hb => ?_) (fun b o _ h => h) ⟨ps, hP, htr, hco⟩ ?_ (I.hok.fresh hsz) (fun z => ?_) hc'
    · exact Heap.get?_push_of_some _ (hk b u hb)
    · exact Heap.get?_push_at rfl rfl
    · exact Nat.lt_irrefl _ (Nat.lt_of_lt_of_le (fl _ z) hsz)
  | none =>
    refine PySem.W.kla_makeFunction cl I.ok.glob ns hc cd hg htr hcase TB.gP bm fun c' ctv h' tk hx hc1 hc2 hrec hP' => ?_
    have hsz : s.heap.objs.size ≤ h'.objs.size := Nat.le_of_lt (Nat.lt_of_le_of_lt hc1 hc2)
    have nc : c' ≠ P := Nat.ne_of_gt (Nat.lt_of_lt_of_le pl hc1)
    have hf1 : h'.objs.size ≠ c' := Nat.ne_of_gt hc2
    have hf2 : h'.objs.size ≠ P := Nat.ne_of_gt (Nat.lt_of_lt_of_le pl hsz)
    obtain ⟨c2, oc, vs, t, e1, e2, e3, e4⟩ := hrec
    cases e1
    have I1 := LamX.inv_table (c := c') (q := X.env.qual ++ "<lambda>") (more := #[rawInt ↑pos.line, rawInt ↑pos.col, Value.ref c']) (t' := tk)
      (h' := h'.push (PySem.W.kla_obj "<lambda>" (X.env.qual ++ "<lambda>") params body scope (cloFrom X.env.cells scope.names []) ((X.mg "__name__").getD .none) c' ctv))
      I hP (fun b o nb hb => Heap.get?_push_of_some _ (hx b o nb hb)) (Heap.get?_push_of_some _ hP') hc1 ⟨oc, vs, t, Heap.get?_push_of_some _ e2, e3, e4⟩
    have hcn : H c' = none := I.hok.fresh hc1
    refine k h'.objs.size c' _ ctv _ _ I1 (fun b o nb hb => ?_) ⟨ps ++ #[rawInt ↑pos.line, rawInt ↑pos.col, Value.ref c'], ?_, ?_, fun pos2 cv hcv => ?_⟩ (Heap.get?_push_at rfl rfl) ?_ (fun z => ?_) upd_same
    · have : b ≠ c' := fun z => by rw [z, hcn] at hb; cases hb
      rw [upd_ne this, upd_ne nb]
      exact hb
    · rw [upd_ne nc.symm, upd_same]
    · rw [Array.toList_append]
      exact TriplesOk_snoc _ _ _ _ htr
    · rw [Array.toList_append] at hcv
      rcases LamX.among_app ps.toList htr hcv with h | h
      · obtain ⟨c3, h1, h2⟩ := hco pos2 cv h
        refine ⟨c3, h1, ?_⟩
        have n1 : c3 ≠ c' := fun z => by rw [z, hcn] at h2; cases h2
        have n2 : c3 ≠ P := fun z => by rw [z, hP] at h2; cases h2
        rw [upd_ne n1, upd_ne n2]
        exact h2
      · exact ⟨c', h, upd_same⟩
    · rw [upd_ne hf1, upd_ne hf2]
      exact I.hok.fresh hsz
    · exact Nat.lt_irrefl _ (Nat.lt_of_lt_of_le (fl _ z) hsz)
end Rx
namespace Rx
open PySem PySem.Spec PyProof.Rows L2
section
variable {ms : List Addr} {ps ps' : List PEn} {cs : List (Addr × List V)} {H0 H H' : Hp}
/-- a call that changes some entries, told as one that may change all -/
theorem Ret.upW (hs : ∀ a ∈ ps', a ∈ ps) (hu : ∀ p ∈ ps, p.1 ∈ ad ps' → p ∈ ps') (w : Wd ms ps cs H0 H) (e : Ret ps' H H') : Ret ps H H' where
  kp := fun a o n h => e.kp a o (fun z => n (ad_mem hs z)) h
  pot := (w.ret hs hu e).pot
  grow := e.grow
theorem Ret.upS (hs : ∀ a ∈ ps', a ∈ ps) (hk : ∀ a ∈ ps', a.2 = none) (w : Wd ms ps cs H0 H) (e : Ret ps' H H') : Ret ps H H' where
  kp := fun a o n h => e.kp a o (fun z => n (ad_mem hs z)) h
  pot := (w.retS hs hk e).pot
  grow := e.grow
/-- all tables are among what the call may change -/
theorem Ret.upX (hs : ∀ a ∈ ps', a ∈ ps) (ht : ∀ a ∈ ps, a.2 ≠ none → a ∈ ps') (w : Wd ms ps cs H0 H) (e : Ret ps' H H') : Ret ps H H' := e.upW hs (fun p h z => by
  obtain ⟨p2, h2, e2⟩ := List.mem_map.mp z
  have a1 := w.pot p h
  have a2 := w.pot p2 (hs p2 h2)
  obtain ⟨a, k⟩ := p
  obtain ⟨b, k'⟩ := p2
  cases e2
  cases k with
  | some q => exact ht _ h (by simp)
  | none =>
    cases k' with
    | none => exact h2
    | some q =>
      obtain ⟨i, j, h1, _⟩ := a1
      obtain ⟨xs, h3, _⟩ := a2
      rw [h1] at h3
      cases h3) w
end
end Rx
namespace Rx
open PySem PySem.Spec PyProof.Rows L2
def tLam3 (P : Addr) (q : Str) (TT : (XK → Hp → VK → Prop) → Hp → VK → Prop) (t : XK → TE) : TE := fun σ H Q =>
  LamX.TabS H P q ∧ ∀ H1, (∀ b o, b ≠ P → H b = some o → H1 b = some o) → LamX.TabS H1 P q → TT (fun E H' Q' => t E σ H' Q') H1 Q
theorem pe_lamcall3 {X : Cx} {TT : (XK → Hp → VK → Prop) → Hp → VK → Prop} {x a : Str} {g c P : Addr} {k : Nat} {pg : Arguments} {bg : List Stmt} {sg : PySem.Scope} {dV kV doc pm cdv ct oc : Value} {an od : Option Addr} {osl : Array (Option Value)} {Ng : List Str}
    {params : Arguments} {body : PySem.Expr} {scope : PySem.Scope} {t : XK → TE} {p lpos pos : Pos}
    (hg : Gl X x) (hm : X.mg x = some (.ref g)) (hk : PySem.W.keepIn X.K (.ref g) = true)
    (lk : X.K.lookup g = some ⟨oc, od, .func (PySem.W.fnOf x x pg bg sg dV kV doc pm an cdv ct), osl⟩) (hcg : PySem.W.codeIn X.K cdv x = true)
    (hb : L2.Binds X.K (PySem.W.fnOf x x pg bg sg dV kV doc pm an cdv ct) [a] []) (Sg : FnScope Ng [a] sg) (hNg : Ng[0]? = some a) (hva : Vis sg a)
    (hG : LamX.GivesTo X Ng x sg g cdv bg a (X.env.qual ++ "<lambda>") TT) (TB : LamX.TabB X.base X.mg c P) (hcode : X.env.code = .ref c) (hr : Room (k + 2) X.A) (L : LamX.LamS X.env.scope scope)
    (hd : defaultsOf params X.env = ([], [])) (hbind : ∀ (q : Str) (cl : List (Str × Addr)) (pm cv ctv : Value), bindArgs (PySem.W.kla_fn "<lambda>" q params body scope cl pm cv ctv) ⟨[], []⟩ = pure [])
    (hbody : ∀ (A : Around) (outer : List Env) (s : Shared) (H : Hp) (E : XK) (f c' : Addr), Room k (A.deeper (LamX.lamEnv X scope s.heap.objs.size f c')) → PE (LamX.lamCx X A outer s H E scope f c') body (t E))
    (h1 : (x == "__debug__") = false := by rfl) (h2 : (a == "__debug__") = false := by rfl) (h3 : (a == "__classdict__") = false := by rfl) :
    PE X (.Call (.Name x p) [.Lambda params body scope lpos] [] pos) (tLam3 P (X.env.qual ++ "<lambda>") TT t) := by
  refine ⟨fun pins s σ H Q I h => ?_⟩
  obtain ⟨ht, hq⟩ := h
  refine Call_ (ld_glob I hg hm ?_ h1)
  refine PySem.W.callWith_K (h₀ := X.base) I.ok.mod.kin hk (wpAny_items_cons ?_)
  refine lam_make3 I TB hcode ht hd (fun y hy hf => L.has I.ok y hy hf) fun f c' pm' ctv H1 s' I1 hs ht1 hf hfn hfr hc' => ?_
  refine wpAny_pure ⟨I1.kIn, ?_⟩
  refine wpAny_call (codeAny_mono (LamX.run_ofS (CX := C8.CX0) (k := k + 1) (vs := [.ref f]) (us := [.ref f]) (Q := Q) (E := C8.E0) lk hcg Sg hr I1.env0 ?_ (.cons rfl .nil) rfl fun hr2 => ?_) fun r s2 hq2 => ?_)
  · have := hb s' [.ref f] I1.kIn rfl
    simpa using this
  · have hact : ∀ (W : WX) (pn : List (Addr × Obj)) (xe : Value → Shared → Prop) (E : XK) (p1 p2 : Pos), Takes ((cxOf C8.CX0 X.prog X.w X.K X.mg X.base Ng x sg g cdv X.A X.stack s' H1 C8.E0).tr pn xe) W →
        (∀ (cls : Value) (d : Option Addr) (σ' : L2.St) (H' : Hp), E cls d H' → W cls d σ' H') →
        PE ((cxOf C8.CX0 X.prog X.w X.K X.mg X.base Ng x sg g cdv X.A X.stack s' H1 C8.E0).tr pn xe) ((Expr.Name a p1).Call [] [] p2) fun σZ HZ Q =>
          σZ[0]? = some (some (V.ref f)) ∧ HZ c' = some (LamX.CodeO c' (X.env.qual ++ "<lambda>")) ∧ t E σ HZ Q := fun W pn xe E p1 p2 tk hW =>
      LamX.pe_act I1 L hf hfn hfr (hbind _ _ _ _ _) tk hW hr2 (fun A outer s H hr3 => hbody A outer s H E f c' hr3) hNg hva h2 h3
    obtain ⟨tt, p1, p2⟩ := hG f c' s' H1 Q (fun E H' Q' => t E σ H' Q') hact hc' (hq H1 hs ht1)
    exact ⟨tt, p1.nox, p2⟩
  · cases r with
    | error e => exact False.elim hq2
    | ok fl =>
      cases fl with
      | ret w => exact I1.after hq2
      | next => exact False.elim hq2
      | brk => exact False.elim hq2
      | cont => exact False.elim hq2
end Rx
namespace Rx
open PySem PySem.Spec PyProof.Rows L2
/-- an exception of the class C: its attributes, the newest first -/
def excR (ms : List Addr) (H : Hp) (C : Addr) (ns : List Str) (ds : List D) (cls : Value) (d : Option Addr) : Prop :=
  cls = .ref C ∧ ∃ (dd : Addr) (vs : List V), d = some dd ∧ H dd = some (.xd (ns.zip vs)) ∧ ns.length = vs.length ∧ repL ms H ds vs
section
variable {ms ms' : List Addr} {ps : List PEn} {cs : List (Addr × List V)} {H0 H H1 H' : Hp} {C : Addr} {ns : List Str} {ds : List D} {cls : Value} {d : Option Addr}
theorem excR_sub (hs : ∀ a ∈ ms', a ∈ ms) (h : excR ms H C ns ds cls d) : excR ms' H C ns ds cls d := by
  obtain ⟨e, dd, vs, e2, h1, h2, h3⟩ := h
  exact ⟨e, dd, vs, e2, h1, h2, repL_map (fun p o n hp => ⟨fun z => n (hs p z), hp⟩) ds vs h3⟩
/-! raise C(v), whose __init__ keeps v -/
def sp_exi (C : Addr) (n : Str) : Sp := fun vs H Q _ => ∃ (a : Addr) (y : V), vs = [.ref a, y] ∧ H a = some (exo a C none) ∧ ∀ dx, H dx = none → dx ≠ a → Q .non (upd (upd H dx (exd dx [(n, y)])) a (exo a C (some dx)))
theorem exc_mk1 {n : Str} {v : V} {Q : XK} (h : ∀ d, H1 d = none → Q (.ref C) (some d) (upd H1 d (.xd [(n, v)]))) :
    [v].length ≤ 1000 ∧ ∀ a, H1 a = none → sp_exi C n (.ref a :: ([v] ++ [])) (upd H1 a (exo a C none))
      (fun w H2 => w = .non ∧ ∃ (x : Addr) (fs : List (Str × V)), H2 a = some (exo a C (some x)) ∧ H2 x = some (exd x fs) ∧ H1 x = none ∧ Q (.ref C) (some x) (upd (del H2 a) x (.xd fs))) (fun _ _ _ => False) := by
  refine ⟨(by show 1 ≤ 1000; decide), fun a na => ⟨a, v, rfl, upd_same, fun dx nd ne => ?_⟩⟩
  have nd' : H1 dx = none := by
    rw [upd_ne ne] at nd
    exact nd
  refine ⟨rfl, dx, [(n, v)], upd_same, by rw [upd_ne ne, upd_same], nd', ?_⟩
  have e : upd (del (upd (upd (upd H1 a (exo a C none)) dx (exd dx [(n, v)])) a (exo a C (some dx))) a) dx (.xd [(n, v)]) = upd H1 dx (.xd [(n, v)]) := by
    funext b
    by_cases h1 : b = dx
    · rw [h1, upd_same, upd_same]
    · rw [upd_ne h1, upd_ne h1]
      by_cases h2 : b = a
      · rw [h2, del_same, na]
      · rw [del_ne h2, upd_ne h2, upd_ne h1, upd_ne h2]
  rw [e]
  exact h dx nd'
/-- what a raise leaves -/
theorem exc_out {n : Str} {v : V} {dv : D} (w : Wd ms ps cs H0 H1) (hr : rep ms H1 dv v) {dx : Addr} (nd : H1 dx = none) : Ret ps H0 (upd H1 dx (.xd [(n, v)])) ∧ excR ms (upd H1 dx (.xd [(n, v)])) C [n] [dv] (.ref C) (some dx) := by
  have e : Rx.Ext H1 (upd H1 dx (.xd [(n, v)])) := Rx.Ext.new nd
  exact ⟨(w.ret0 e).out, rfl, dx, [v], rfl, upd_same, rfl, repL_cons (rep_ext e hr) repL_nil⟩
end
/-! isinstance(e, c), e the exception that the suite holds, with its own attributes -/
def rIsX (K : PySem.W.Frag) (cls : Value) (d : Option Addr) (a : Addr) : List V → Hp → VK → Prop := fun xs H Q => ∃ (D : Addr) (c : V) (cv : Value) (b : Bool) (dd : Addr) (fs : List (Str × V)),
  xs = [.ref a, c] ∧ cls = .ref D ∧ ExcC K D ∧ (∀ u, RelV c u → u = cv) ∧ PySem.W.kitOne K (.ref D) cv = some b ∧ d = some dd ∧ H dd = some (.xd fs) ∧ Q (.bl b) H
theorem call_isX {X : Cx} {a : Addr} {oe : Obj} {cls : Value} {d : Option Addr} {pn : List (Addr × Obj)} (hz : Zc cls d oe) (hf : ∃ vs, oe.data = .fields vs) : CallR (X.suite a ((a, oe) :: pn)) (.builtin "isinstance") (rIsX X.K cls d a) := by
  intro pins s σ H xs us Q I r h
  obtain ⟨D, c, cv, b, dd, fs, rfl, rfl, C, hcv, kb, rfl, hdd, q⟩ := h
  cases r with
  | cons ra rr =>
    cases rr with
    | cons rc rr2 =>
      cases rr2
      cases ra
      obtain rfl := hcv _ rc
      obtain ⟨here, _⟩ := I.pin (a, oe) (List.mem_append.mpr (.inl List.mem_cons_self))
      obtain ⟨vs, hv⟩ := hf
      have hxd : ObjOk X.prog X.w H s.heap dd (.xd fs) := I.hok dd _ hdd
      obtain ⟨mA, hns, _⟩ := hxd
      obtain ⟨od, ho, _⟩ := lookIn_ns hns
      have J : PySem.W.InstAt s.heap a oe D (some od) := ⟨here, hz.1, (by unfold PySem.W.notCls; rw [hv] <;> rfl), by rw [hz.2]; exact ho⟩
      have hcl : (PySem.W.clsIn X.K D).isSome = true := by
        obtain ⟨cd, hc, _⟩ := PySem.W.any_some C.hd
        rw [hc]
        rfl
      exact PySem.W.kia_one (PySem.W.kitx_exc hcl C.hg C.hk C.hs C.ha C.hn C.ht C.hm) I.kIn J kb (fun z => nomatch z) fun tk => ⟨.bl b, H, I.kept (t' := tk) fun _ _ z => z, rfl, q⟩
/-- e.n, the class told where it is read -/
theorem xf_rd {a C : Addr} {cls : Value} {d : Option Addr} {dd : Addr} {fs : List (Str × V)} {v : V} {f : Str} {H : Hp} {Q : VK} (e1 : cls = .ref C) (e2 : d = some dd) (h : H dd = some (.xd fs)) (l : fs.lookup f = some v) (q : Q v H) :
    V.ref a = .ref a ∧ cls = .ref C ∧ ∃ (x : Addr) (gs : List (Str × V)) (y : V), d = some x ∧ H x = some (.xd gs) ∧ gs.lookup f = some y ∧ Q y H := ⟨rfl, e1, dd, fs, v, e2, h, l, q⟩
theorem isX_rd {K : PySem.W.Frag} {a D : Addr} {cls : Value} {d : Option Addr} {dd : Addr} {fs : List (Str × V)} {c : V} {cv : Value} {b : Bool} {H : Hp} {P : Bool → Prop} (e1 : cls = .ref D) (C : ExcC K D) (e2 : d = some dd) (h : H dd = some (.xd fs)) (hcv : ∀ u, RelV c u → u = cv)
    (kb : PySem.W.kitOne K (.ref D) cv = some b) (q : P b) : ∃ (D' : Addr) (c' : V) (cv' : Value) (b' : Bool) (x : Addr) (gs : List (Str × V)),
      [V.ref a, c] = [.ref a, c'] ∧ cls = .ref D' ∧ ExcC K D' ∧ (∀ u, RelV c' u → u = cv') ∧ PySem.W.kitOne K (.ref D') cv' = some b' ∧ d = some x ∧ H x = some (.xd gs) ∧ P b' :=
  ⟨D, c, cv, b, dd, fs, rfl, e1, C, hcv, kb, e2, h, q⟩
/-! several clauses, each with a name for the exception -/
def wAll (K : PySem.W.Frag) (i : Nat) (Wout : WX) (D : Ends) : List (Value × (Addr → Value → Option Addr → TS)) → WX
  | [] => Wout
  | (c, ts) :: r => fun cls d σ H => ∃ b, PySem.W.exmOne K cls c = some b ∧
      (b = true → ∀ a, H a = none → ts a cls d { nx := fun σ' H' => D.nx (σ'.set i none) H', rt := D.rt, bk := fun σ' H' => D.bk (σ'.set i none) H', ct := fun σ' H' => D.ct (σ'.set i none) H' } (σ.set i (some (.ref a))) H) ∧ (b = false → wAll K i Wout D r cls d σ H)
inductive ClsOk (X : Cx) (n : Str) : List ExceptHandler → List (Value × (Addr → Value → Option Addr → TS)) → Prop
  | nil : ClsOk X n [] []
  | cons {x : Str} {c : Value} {ts : Addr → Value → Option Addr → TS} {st1 : Stmt} {suite : List Stmt} {np pos' : Pos} {hds : List ExceptHandler} {l : List (Value × (Addr → Value → Option Addr → TS))} (names : Names X x c)
      (each : ∀ (a : Addr) (oe : Obj) (cls : Value) (d : Option Addr) (pn : List (Addr × Obj)), Zc cls d oe → (∃ vs, oe.data = .fields vs) → PSs (X.suite a ((a, oe) :: pn)) (st1 :: suite) (ts a cls d)) (r : ClsOk X n hds l) :
      ClsOk X n (.ExceptHandler (some (.Name x np)) (some n) (st1 :: suite) pos' :: hds) ((c, ts) :: l)
theorem ps_try_all {X : Cx} {n : Str} {i : Nat} {body : List Stmt} {hd1 : ExceptHandler} {hds : List ExceptHandler} {l : List (Value × (Addr → Value → Option Addr → TS))} {pos : Pos} {tb : WX → TS} {Wout : WX}
    (stk : X.stack = X.env :: X.outer) (own : X.env.frame = some X.env.locals) (nd : X.N.Nodup) (hi : X.N[i]? = some n) (loc : X.env.kindOf n = some .local) (tk : Takes X Wout)
    (inner : ∀ (W : WX) (pn : List (Addr × Obj)) (xe : Value → Shared → Prop), Takes (X.tr pn xe) W → PassesOwn (model X.prog X.w) X.A X.env xe → PSs (X.tr pn xe) body (tb W)) (hh : ClsOk X n (hd1 :: hds) l) :
    PS X (.Try body (hd1 :: hds) [] [] pos) (fun D σ H => tb (wAll X.K i Wout D l) D σ H) := by
  refine ⟨fun pins s σ H D I h => ?_⟩
  have ok := I.ok
  have frames : X.A.frames = some (X.env :: X.outer) := by rw [ok.frames, stk]
  have lo : Loc X.env.scope n := .inl loc
  refine wpAny_Try_except ?_
  refine wpAny_mono ((inner (wAll X.K i Wout D l) (X.pn ++ pins) (fun e u1 => wpAny (model X.prog X.w) X.A (noteFrame e X.env) (fun _ u2 => wpAny (model X.prog X.w) X.A (setFlight e none) (fun _ u3 =>
    wpAny (model X.prog X.w) X.A (handleBy e X.env (hd1 :: hds)) (SP X pins D) X.xe u3) X.xe u2) X.xe u1) (fun u s' there => ?_) PassesOwn.looking).run [] s σ H D (I.toTry _) h) (fun f s1 went => ?_) (fun _ _ z => z)
  · obtain ⟨a, B, sI, pins', σ', H', cls, d, rfl, K', nb, up, sky, na, os, ag, w⟩ := there
    have J : Inv X pins σ' H' sI := K'.ofTry ok
    have sk : Sky B (X.env :: X.outer) a (Zc cls d) X.env.locals s'.heap := stk ▸ sky
    show wpAny (model X.prog X.w) X.A (noteFrame (.ref a) X.env) _ _ _
    refine Sky.land Zc.steady frames own sk fun h3 fl3 up3 => ?_
    have J3 : Inv X pins σ' H' { s' with heap := h3 } := J.landed nb fl3.1 (up.trans up3) os ag
    obtain ⟨oe3, vs3, at3, z3, d3⟩ := fl3.there
    have notIn : a ∉ frs (X.env :: X.outer) := fun hm => by
      obtain ⟨_, o', e', noF⟩ := fl3.2.2.1.mem hm
      rw [at3] at e'
      cases e'
      exact noF _ d3
    have aL : a ≠ X.env.locals := fun z => notIn (List.mem_filterMap.mpr ⟨X.env, List.mem_cons_self, own.trans (by rw [z])⟩)
    have aF : a ∉ X.fs := fun hm => by
      obtain ⟨e, he, q⟩ := List.mem_filterMap.mp hm
      exact notIn (List.mem_filterMap.mpr ⟨e, List.mem_cons_of_mem _ he, q⟩)
    have S3 := J3.suite at3 d3 na aL aF
    suffices go : ∀ (gs : List ExceptHandler) (m : List (Value × (Addr → Value → Option Addr → TS))), ClsOk X n gs m → wAll X.K i Wout D m cls d σ' H' →
        wpAny (model X.prog X.w) X.A (handleBy (.ref a) X.env gs) (SP X pins D) X.xe { s' with heap := h3 } from go _ _ hh w
    intro gs m hk
    induction hk with
    | nil =>
      intro out
      refine wpAny_handleBy_nil ?_
      obtain ⟨_, _, _, oe, vs, T, oT, ts', at_, hz, hd, one, hr⟩ := id fl3
      unfold PySem.passOn
      refine wpAny_bind (wpAny_field at_ hd one ?_)
      rw [if_neg (by simp : ¬ ((Value.ref T == Value.none) = true))]
      have fin : wpAny (model X.prog X.w) X.A (setFlight (.ref a) X.env.frame) (fun _ u4 => wpAny (model X.prog X.w) X.A (throw (.ref a) : Sem Flow) (SP X pins D) X.xe u4) X.xe { s' with heap := h3 } := by
        rw [own]
        refine HandSPX.setFlight_upZ fl3 fun h4 hh4 up4 => wpAny_throw (tk _ _ ⟨a, B, sI, pins, σ', H', cls, d, rfl, J, nb, ?_, ?_, na, os, ag, out⟩)
        · exact (up.trans up3).trans up4
        · exact .inr (.inr (stk ▸ hh4))
      first
        | exact wpAny_bind (wpAny_pure (wpAny_bind fin))
        | exact wpAny_bind fin
    | @cons x c ts st1 suite np pos' hds2 l2 names each r ih =>
      rintro ⟨b, hb1, yes, no⟩
      refine wpAny_handleBy_cons (codeAny_handlers_test ?_) (by intro q; cases q)
      have lt : PySem.W.Looks (model X.prog X.w) h3 (typeOf (.ref a)) cls := fun A Q E u k q => wpAny_typeOf_ref (k _ _ at3) (z3.1.symm ▸ q)
      have lm := PySem.W.exm_one (M := model X.prog X.w) (J3.kIn) lt hb1
      have named : ∀ {Q : Value → Shared → Prop} {E : Value → Shared → Prop}, Q c { s' with heap := h3 } → wpAny (model X.prog X.w) (X.A.mark (some (.ref a))) (eval (.Name x np) X.env) Q E { s' with heap := h3 } := fun {Q E} q => by
        obtain ⟨hg, hdbg, hm | ⟨hm, hv, hnn⟩⟩ := names
        · exact ld_glob (X := X.suite a ((a, oe3) :: (X.pn ++ pins))) S3 hg hm q hdbg
        · exact ld_blt (X := X.suite a ((a, oe3) :: (X.pn ++ pins))) S3 hg hm hv q hnn hdbg
      refine named (lm.here ?_)
      cases b with
      | false =>
        show wpAny _ X.A (handleBy (.ref a) X.env hds2) _ _ _
        exact ih (no rfl)
      | true =>
        refine codeAny_handlers_suite_as (HandSPX.lands_againZ fl3 fun h4 fl4 up4 => ?_)
        have J4 : Inv X pins σ' H' { s' with heap := h4 } := J.landed nb fl4.1 ((up.trans up3).trans up4) os ag
        obtain ⟨oe4, vs4, at4, z4, d4⟩ := fl4.there
        have S4 := J4.suite at4 d4 na aL aF
        refine store_ok (X := X.suite a ((a, oe4) :: (X.pn ++ pins))) (v := .ref a) S4 nd hi lo rfl (fun s5 S5 => ?_) (.inr loc)
        refine wpAny_mono ((each a oe4 cls d (X.pn ++ pins) z4 ⟨_, d4⟩).run [] s5 _ H' _ S5 (yes rfl a na)) (fun f s6 went => ?_) (fun _ _ z => z.elim)
        have fin : ∀ {σ6 : L2.St} {H6 : Hp} {Q : Shared → Prop}, Inv (X.suite a ((a, oe4) :: (X.pn ++ pins))) [] σ6 H6 s6 → (∀ s7, Inv X pins (σ6.set i none) H6 s7 → Q s7) →
            wpAny (model X.prog X.w) X.A (do bindName X.env n .none; unbindBehindTheSuite X.env n pos') (fun _ s7 => Q s7) X.xe s6 := fun {σ6 H6 Q} S6 hq => gone_ok (S6.unsuite ok) nd hi loc hq
        rcases f with _ | _ | _ | u
        · obtain ⟨σ6, H6, S6, q6⟩ := went
          exact fin S6 fun s7 J7 => ⟨_, _, J7, q6⟩
        · obtain ⟨σ6, H6, S6, q6⟩ := went
          exact fin S6 fun s7 J7 => ⟨_, _, J7, q6⟩
        · obtain ⟨σ6, H6, S6, q6⟩ := went
          exact fin S6 fun s7 J7 => ⟨_, _, J7, q6⟩
        · obtain ⟨v6, σ6, H6, S6, r6, q6⟩ := went
          exact fin S6 fun s7 J7 => ⟨_, _, _, J7, r6, q6⟩
  · rcases f with _ | _ | _ | u
    · obtain ⟨σ2, H2, J, q⟩ := went
      exact wpAny_execs_nil ⟨σ2, H2, J.ofTry ok, q⟩
    · obtain ⟨σ2, H2, J, q⟩ := went
      exact ⟨σ2, H2, J.ofTry ok, q⟩
    · obtain ⟨σ2, H2, J, q⟩ := went
      exact ⟨σ2, H2, J.ofTry ok, q⟩
    · obtain ⟨v, σ2, H2, J, r, q⟩ := went
      exact ⟨v, σ2, H2, J.ofTry ok, r, q⟩
end Rx
namespace Rx
open PySem PySem.Spec PyProof.Rows L2
section
variable {X : Cx} {pins : List (Addr × Obj)} {σ : L2.St} {H : Hp} {s : Shared}
/-- a(), in the def that was handed the lambda; what becomes of an exception is said where it is called -/
theorem pe_actS {T0 : CXT} {E0' : XK} {Ng : List Str} {qg a : Str} {sg scope : PySem.Scope} {g f c' : Addr} {cdg pm ctv : Value} {params : Arguments} {body : PySem.Expr} {k i : Nat} {pn : List (Addr × Obj)} {xe : Value → Shared → Prop} {W : WX} {tb : XK → TE} {p1 p2 : Pos}
    (I : L2.Inv X pins σ H s) (L : LamX.LamS X.env.scope scope) (obj : s.heap.get? f = some (PySem.W.kla_obj "<lambda>" (X.env.qual ++ "<lambda>") params body scope (cloFrom X.env.cells scope.names []) pm c' ctv)) (fn : H f = none) (fr : f ∉ frs X.stack)
    (none_ : bindArgs (PySem.W.kla_fn "<lambda>" (X.env.qual ++ "<lambda>") params body scope (cloFrom X.env.cells scope.names []) pm (.ref c') ctv) ⟨[], []⟩ = pure [])
    (tk : Takes ((cxOf T0 X.prog X.w X.K X.mg X.base Ng qg sg g cdg X.A X.stack s H E0').tr pn xe) W) (hr : Room (k + 1) (X.A.deeper (envOfC qg sg s.heap.objs.size g cdg)))
    (inner : ∀ (A : Around) (outer : List Env) (s : Shared) (H : Hp) (E : XK), Room k (A.deeper (LamX.lamEnv X scope s.heap.objs.size f c')) → PE (LamX.lamCx X A outer s H E scope f c') body (tb E))
    (hN : Ng[i]? = some a) (hv : Vis sg a) (h1 : (a == "__debug__") = false) (h2 : (a == "__classdict__") = false) :
    PE ((cxOf T0 X.prog X.w X.K X.mg X.base Ng qg sg g cdg X.A X.stack s H E0').tr pn xe) (.Call (.Name a p1) [] [] p2)
      (fun σZ HZ Q => σZ[i]? = some (some (.ref f)) ∧ HZ c' = some (LamX.CodeO c' (X.env.qual ++ "<lambda>")) ∧ ∃ E : XK, (∀ cls d H', E cls d H' → W cls d σZ H') ∧ tb E σ HZ Q) := by
  refine ⟨fun pinsZ sZ σZ HZ Q IZ ⟨at_i, code, E, out, told⟩ => ?_⟩
  refine wpAny_Call_Name_kw (thn ((pe_var (pos := p1) (i := i) hN hv h1 h2).run pinsZ sZ σZ HZ (fun v H1 => v = .ref f ∧ H1 = HZ) IZ ⟨.ref f, at_i, rfl, rfl⟩) fun u s1 ⟨v, H1, I1, r1, ev, eH⟩ => ?_)
  subst ev
  subst eH
  obtain rfl : u = Value.ref f := r1
  have now : s1.heap.get? f = some (PySem.W.kla_obj "<lambda>" (X.env.qual ++ "<lambda>") params body scope (cloFrom X.env.cells scope.names []) pm c' ctv) := I1.base.keep f _ obj fn fr (fun z => nomatch (show f ∈ ([] : List Addr) from z))
  refine PySem.W.callWith_F0 ⟨_, _, _, _, now⟩ ?_
  obtain ⟨⟨oc, vs, t, hoc, hdc, hvc⟩, _, _⟩ := I1.hok c' _ code
  have same : Un (frs X.stack) [] H H1 s.heap s1.heap := I1.base
  have run : codeAny (model X.prog X.w) (X.A.deeper (envOfC qg sg s.heap.objs.size g cdg)) (.call (.ref f) ⟨[], []⟩) (CR (L2.CX X.prog X.w) (envOfC qg sg s.heap.objs.size g cdg :: X.stack) X.prog X.w H1 s1 Q E) s1 := by
    refine PySem.W.kla_callFunE hr.depth now rfl L.co L.gen rfl ⟨c', oc, vs, t, rfl, hoc, hdc, hvc⟩ ?_
    rw [none_]
    refine wpAny_pure (wpAny_newFunctionEnv (fun y hy => (L.own y hy).2) (fun y hy => absurd hy (by simp)) (fun h' hns hsb => ⟨I1.nolimit.fresh _ hsb, ?_⟩) L.kind)
    show codeAny _ _ (.expr body (LamX.lamEnv X scope s1.heap.objs.size f c')) _ _
    have kept : ∀ b o, s1.heap.get? b = some o → h'.get? b = some o := fun b o z => hsb.extBut b o (Nat.ne_of_lt (Heap.lt_size z)) (Heap.get?_push_of_some _ z)
    have J := LamX.lam_start2 (E := E) (f := f) (c' := c') (tk := s1.toks + ([] : List (Str × Value)).length) I L I1.env0 hr.hd same hns kept
    refine PySem.W.kla_codeExpr (wpAny_mono ((inner (X.A.deeper (envOfC qg sg s.heap.objs.size g cdg)) _ s1 H1 E (hr.deeper _)).run [] _ _ H1 Q J told) (fun v s' ⟨w', H', J', rv, q⟩ => ?_) fun _ _ z => z)
    exact ⟨w', H', J'.os, J'.bare, J'.base, J'.hok, rv, q⟩
  refine wpAny_call (codeAny_mono run fun r s' hq => ?_)
  rcases r with e | fl
  · exact tk e s' (XE.of_call I1 out hq)
  · rcases fl with _ | _ | _ | u
    · exact hq.elim
    · exact hq.elim
    · exact hq.elim
    · exact I1.after hq
/-- what the def that is handed a lambda makes of the lambda's reading -/
def Gives (X : Cx) (Ng : List Str) (x : Str) (sg : PySem.Scope) (g : Addr) (cdg : Value) (bg : List Stmt) (a q : Str) (TT : (XK → Hp → VK → Prop) → Hp → VK → Prop) : Prop :=
  ∀ (f c' : Addr) (s : Shared) (H : Hp) (Q : VK) (tl : XK → Hp → VK → Prop), Room 1 (X.A.deeper (envOfC x sg s.heap.objs.size g cdg)) →
    (∀ (W : WX) (pn : List (Addr × Obj)) (xe : Value → Shared → Prop) (p1 p2 : Pos), Takes ((cxOf C8.CX0 X.prog X.w X.K X.mg X.base Ng x sg g cdg X.A X.stack s H C8.E0).tr pn xe) W →
      PE ((cxOf C8.CX0 X.prog X.w X.K X.mg X.base Ng x sg g cdg X.A X.stack s H C8.E0).tr pn xe) (.Call (.Name a p1) [] [] p2)
        (fun σZ HZ Q => σZ[0]? = some (some (.ref f)) ∧ HZ c' = some (LamX.CodeO c' q) ∧ ∃ E : XK, (∀ cls d H', E cls d H' → W cls d σZ H') ∧ tl E HZ Q)) →
    H c' = some (LamX.CodeO c' q) → TT tl H Q →
    ∃ t, PSs (cxOf C8.CX0 X.prog X.w X.K X.mg X.base Ng x sg g cdg X.A X.stack s H C8.E0).nox bg t ∧ t { nx := fun _ H' => Q .non H', rt := Q } (L2.start Ng [.ref f]) H
theorem pe_lamcall4 {TT : (XK → Hp → VK → Prop) → Hp → VK → Prop} {x a : Str} {g c P : Addr} {k : Nat} {pg : Arguments} {bg : List Stmt} {sg : PySem.Scope} {dV kV doc pm cdv ct oc : Value} {an od : Option Addr} {osl : Array (Option Value)} {Ng : List Str}
    {params : Arguments} {body : PySem.Expr} {scope : PySem.Scope} {t : XK → TE} {p lpos pos : Pos}
    (hg : Gl X x) (hm : X.mg x = some (.ref g)) (hk : PySem.W.keepIn X.K (.ref g) = true)
    (lk : X.K.lookup g = some ⟨oc, od, .func (PySem.W.fnOf x x pg bg sg dV kV doc pm an cdv ct), osl⟩) (hcg : PySem.W.codeIn X.K cdv x = true)
    (hb : L2.Binds X.K (PySem.W.fnOf x x pg bg sg dV kV doc pm an cdv ct) [a] []) (Sg : FnScope Ng [a] sg) (hNg : Ng[0]? = some a) (hva : Vis sg a)
    (hG : Gives X Ng x sg g cdv bg a (X.env.qual ++ "<lambda>") TT) (TB : LamX.TabB X.base X.mg c P) (hcode : X.env.code = .ref c) (hr : Room (k + 3) X.A) (L : LamX.LamS X.env.scope scope)
    (hd : defaultsOf params X.env = ([], [])) (hbind : ∀ (q : Str) (cl : List (Str × Addr)) (pm cv ctv : Value), bindArgs (PySem.W.kla_fn "<lambda>" q params body scope cl pm cv ctv) ⟨[], []⟩ = pure [])
    (hbody : ∀ (A : Around) (outer : List Env) (s : Shared) (H : Hp) (E : XK) (f c' : Addr), Room k (A.deeper (LamX.lamEnv X scope s.heap.objs.size f c')) → PE (LamX.lamCx X A outer s H E scope f c') body (t E))
    (h1 : (x == "__debug__") = false := by rfl) (h2 : (a == "__debug__") = false := by rfl) (h3 : (a == "__classdict__") = false := by rfl) :
    PE X (.Call (.Name x p) [.Lambda params body scope lpos] [] pos) (tLam3 P (X.env.qual ++ "<lambda>") TT t) := by
  refine ⟨fun pins s σ H Q I ⟨ht, hq⟩ => ?_⟩
  refine Call_ (ld_glob I hg hm ?_ h1)
  refine PySem.W.callWith_K (h₀ := X.base) I.ok.mod.kin hk (wpAny_items_cons ?_)
  refine lam_make3 I TB hcode ht hd (fun y hy hf => L.has I.ok y hy hf) fun f c' pm' ctv H1 s' I1 hs ht1 hf hfn hfr hc' => ?_
  refine wpAny_pure ⟨I1.kIn, ?_⟩
  refine wpAny_call (codeAny_mono (LamX.run_ofS (CX := C8.CX0) (k := k + 2) (vs := [.ref f]) (us := [.ref f]) (Q := Q) (E := C8.E0) lk hcg Sg hr I1.env0 ?_ (.cons rfl .nil) rfl fun hr2 => ?_) fun r s2 hq2 => ?_)
  · have := hb s' [.ref f] I1.kIn rfl
    simpa using this
  · obtain ⟨tt, p1, p2⟩ := hG f c' s' H1 Q (fun E H' Q' => t E σ H' Q') (hr2.mono (by omega)) (fun W pn xe p1 p2 tk => pe_actS I1 L hf hfn hfr (hbind _ _ _ _ _) tk (hr2.mono (by omega)) (fun A outer s H E hr3 => hbody A outer s H E f c' hr3) hNg hva h2 h3) hc' (hq H1 hs ht1)
    exact ⟨tt, p1.nox, p2⟩
  · rcases r with e | fl
    · exact hq2.elim
    · rcases fl with _ | _ | _ | w
      · exact hq2.elim
      · exact hq2.elim
      · exact hq2.elim
      · exact I1.after hq2
end
/-! texts of plain data, the empty dict too -/
mutual
def pyX : D → PyData
  | .v .non => .none
  | .v (.bl b) => .bool b
  | .v (.int i) => .int i
  | .v (.str z) => .str z
  | .v _ => .none
  | .lst ds => .list (pyXs ds)
  | .tup ds => .tuple (pyXs ds)
  | .ins _ _ _ => .none
  | .dct _ _ => .dict []
  | .dcT _ _ => .none
def pyXs : List D → List PyData
  | [] => []
  | d :: ds => pyX d :: pyXs ds
def plainX : D → Bool
  | .v .non => true
  | .v (.bl _) => true
  | .v (.int _) => true
  | .v (.str _) => true
  | .v _ => false
  | .lst ds => plainXs ds
  | .tup ds => plainXs ds
  | .ins _ _ _ => false
  | .dct ks _ => ks.isEmpty
  | .dcT _ _ => false
def plainXs : List D → Bool
  | [] => true
  | d :: ds => plainX d && plainXs ds
end
section
variable {X : Cx} {pins : List (Addr × Obj)} {σ : L2.St} {H : Hp} {s : Shared} {ms : List Addr}
abbrev ShX (X : Cx) (s : Shared) (v : Value) (d : PyData) : Prop := ∃ as bs, Reads s.heap v d as ∧ ReadAtMost s.heap d.depth bs ∧ ReprK X.prog X.w bs s.heap d.depth v d.shown
abbrev ShXs (X : Cx) (s : Shared) (vs : List Value) (ds : List PyData) : Prop := ∃ as bs, ReadsAll s.heap vs ds as ∧ ReadAtMost s.heap (PyData.depthAll ds) bs ∧ ReprAllK X.prog X.w bs s.heap (PyData.depthAll ds) vs (PyData.shownAll ds)
theorem edict_at (I : L2.Inv X pins σ H s) {p : Addr} {vs : List V} (h : H p = some (.dK (([] : List Key).zip vs))) : (p == sysModules) = false ∧ ∃ o n, s.heap.get? p = some o ∧ o.cls = .type "dict" ∧ o.data = .dict #[] n := by
  obtain ⟨_, low, ws, kv, o, es, ep, h1, h2, h3, _, h5, _⟩ := dk_of I.hok h
  cases kv
  have e : es.toList = [] := by
    generalize es.toList = l at h5
    cases h5
    rfl
  have e2 : es = #[] := Array.toList_eq_nil_iff.mp e
  subst e2
  exact ⟨low, o, ep, h1, h2.1, h3⟩
theorem reads_nil {h : Heap} {xs : List PyData} {as : List Addr} (r : ReadsAll h [] xs as) : xs = [] := by
  cases r
  rfl
mutual
theorem shX (I : L2.Inv X pins σ H s) : ∀ (d : D) (u : V) (v : Value), plainX d = true → rep ms H d u → RelV u v → (pyX d).showable = true → (pyX d).shown.length ≤ sizeLine → ShX X s v (pyX d)
  | .v x, u, v, p, h, r, sh, sz => by
    obtain rfl := of_v h
    cases u <;> simp only [plainX, pyX] at p sh sz ⊢
    case non =>
      cases r
      exact ⟨_, [], .none, (fun _ z => nomatch z), by simp only [PyData.shown]; exact .of_is ReprIs.none _ _ _⟩
    case bl b =>
      cases r
      exact ⟨_, [], .bool b, (fun _ z => nomatch z), by simp only [PyData.shown]; exact .of_is (ReprIs.bool b) _ _ _⟩
    case int i =>
      obtain ⟨t, rfl⟩ := r
      exact ⟨_, [], .int i t, (fun _ z => nomatch z), by simp only [PyData.shown]; exact .of_is (ReprIs.int t (by simpa [PyData.showable] using sh)) _ _ _⟩
    case str z =>
      obtain ⟨t, rfl⟩ := r
      exact ⟨_, [], .str z t, (fun _ z => nomatch z), by simp only [PyData.shown]; exact .of_is (ReprIs.str z t (by simpa only [PyData.shown] using sz)) _ _ _⟩
    all_goals cases p
  | .lst ds, u, v, p, h, r, sh, sz => by
    simp only [rep] at h
    obtain ⟨a, vs, rfl, _, hp, hl⟩ := h
    cases r
    obtain ⟨its, rv, ⟨o, n, ho, hc, _, hd⟩, _⟩ := I.list (.inl (.inl hp))
    simp only [plainX] at p
    simp only [pyX, PyData.showable, PyData.shown] at sh sz ⊢
    obtain ⟨as, bs, rd, most, all⟩ := shXs I ds vs its p hl rv sh (fun t ht => Nat.le_trans (listText_mem_le ht) sz)
    have rl : Reads s.heap (.ref a) (.list (pyXs ds)) _ := Reads.list ho hc hd rd
    have na : a ∉ bs := not_mem_of_deeper rl (by simp only [PyData.depth]; omega) most
    refine ⟨_, a :: bs, rl, ReadAtMost.cons rl (by simp only [PyData.depth]; omega) most, ?_⟩
    simp only [PyData.depth, PyData.shown]
    cases its with
    | nil =>
      rw [reads_nil rd]
      simp only [PyData.shownAll, listText_nil]
      exact ReprK.listEmpty ho hc hd
    | cons y l => exact ReprK.list ho hc hd na (by simpa using all.length_eq) (fun j z e => all.item j z (by simpa using e))
  | .tup ds, u, v, p, h, r, sh, sz => by
    simp only [rep] at h
    obtain ⟨a, vs, rfl, _, hp, hl⟩ := h
    cases r
    obtain ⟨its, rv, ⟨o, ho, hc, n, hd⟩, _⟩ := I.tuple (.inl (.inl hp))
    simp only [plainX] at p
    simp only [pyX, PyData.showable, PyData.shown] at sh sz ⊢
    obtain ⟨as, bs, rd, most, all⟩ := shXs I ds vs its p hl rv sh (fun t ht => Nat.le_trans (tupleText_mem_le ht) sz)
    have rl : Reads s.heap (.ref a) (.tuple (pyXs ds)) _ := Reads.tuple ho hc hd rd
    have na : a ∉ bs := not_mem_of_deeper rl (by simp only [PyData.depth]; omega) most
    refine ⟨_, a :: bs, rl, ReadAtMost.cons rl (by simp only [PyData.depth]; omega) most, ?_⟩
    simp only [PyData.depth, PyData.shown]
    exact ReprK.tuple ho hc hd na all
  | .ins _ _ _, u, v, p, h, r, sh, sz => by simp only [plainX] at p; cases p
  | .dct ks ds, u, v, p, h, r, sh, sz => by
    simp only [plainX, List.isEmpty_iff] at p
    subst p
    simp only [rep] at h
    obtain ⟨a, vs, rfl, _, hp, _, _⟩ := h
    cases r
    obtain ⟨low, o, n, ho, hc, hd⟩ := edict_at I hp
    simp only [pyX]
    have rl : Reads s.heap (.ref a) (.dict []) _ := Reads.dict ho hc hd .nil .nil
    refine ⟨_, [a], rl, ReadAtMost.cons (n := 0) rl (by simp only [PyData.depth]; omega) (fun _ z => nomatch z), ?_⟩
    simp only [PyData.depth, PyData.shown, PyData.shownKv, PyData.depthKv]
    exact ReprK.dict ho hc hd low (fun z => nomatch z) .nil
  | .dcT _ _, u, v, p, h, r, sh, sz => by simp only [plainX] at p; cases p
theorem shXs (I : L2.Inv X pins σ H s) : ∀ (ds : List D) (us : List V) (vs : List Value), plainXs ds = true → repL ms H ds us → Vals us vs → PyData.showableAll (pyXs ds) = true → (∀ t ∈ PyData.shownAll (pyXs ds), t.length ≤ sizeLine) → ShXs X s vs (pyXs ds)
  | [], us, vs, p, h, r, sh, sz => by
    obtain rfl := repL_empty h
    cases r
    simp only [pyXs]
    exact ⟨_, [], .nil, (fun _ z => nomatch z), by simp only [PyData.shownAll]; exact .nil⟩
  | d :: ds, us, vs, p, h, r, sh, sz => by
    obtain ⟨u, ws, rfl, h1, h2⟩ := repL_uncons h
    cases r with
    | cons r1 r2 =>
      simp only [plainXs, Bool.and_eq_true] at p
      simp only [pyXs, PyData.showableAll, PyData.shownAll, Bool.and_eq_true] at sh sz ⊢
      obtain ⟨a1, b1, d1, m1, k1⟩ := shX I d u _ p.1 h1 r1 sh.1 (sz _ List.mem_cons_self)
      obtain ⟨a2, b2, d2, m2, k2⟩ := shXs I ds ws _ p.2 h2 r2 sh.2 (fun t ht => sz t (List.mem_cons_of_mem _ ht))
      refine ⟨_, b1 ++ b2, .cons d1 d2, ?_, ?_⟩
      · simp only [PyData.depthAll]
        exact ReadAtMost.append (m1.mono (Nat.le_max_left _ _)) (m2.mono (Nat.le_max_right _ _))
      · simp only [PyData.depthAll]
        exact .cons ((k1.more fun _ z => List.mem_append_left _ z).level_le (Nat.le_max_left _ _)) (k2.more_le (fun _ z => List.mem_append_right _ z) (Nat.le_max_right _ _))
end
end
def rReprX (ms : List Addr) : List V → Hp → VK → Prop := fun xs H Q => ∃ (x : V) (d : D), xs = [x] ∧ rep ms H d x ∧ plainX d = true ∧ (pyX d).showable = true ∧ (pyX d).depth ≤ 60 ∧ (pyX d).shown.length ≤ sizeLine ∧ Q (.str (pyX d).shown) H
theorem call_reprX {X : Cx} {ms : List Addr} (gu : X.A.guards = some []) (un : X.A.units + 65 < cLine) : CallR X (.builtin "repr") (rReprX ms) := by
  intro pins s σ H xs us Q I r h
  obtain ⟨x, d, rfl, rp, pl, sh, dep, sz, q⟩ := h
  obtain ⟨u, rfl, ru⟩ := r.one
  have fin : ∀ (h' : Heap) (t2 : Tok) (tk : Nat), (∀ b o, s.heap.get? b = some o → h'.get? b = some o) → EP X pins σ Q (.str (pyX d).shown t2) { s with heap := h', toks := tk } := fun h' t2 tk keep => ⟨.str (pyX d).shown, H, I.kept keep, ⟨t2, rfl⟩, q⟩
  cases d with
  | v y =>
    obtain rfl := of_v rp
    cases x <;> simp only [plainX, pyX] at pl sh sz q fin ⊢
    case non =>
      cases ru
      exact P.repr_of_none ⟨.str PyData.none.shown, H, I.tok _, ⟨_, rfl⟩, q⟩
    case bl b =>
      cases ru
      exact P.repr_of_bool ⟨.str (PyData.bool b).shown, H, I.tok _, ⟨_, rfl⟩, q⟩
    case int i =>
      obtain ⟨t, rfl⟩ := ru
      exact P.repr_of_int (of_decide_eq_true sh) ⟨.str (PyData.int i).shown, H, I.tok _, ⟨_, rfl⟩, q⟩
    case str z =>
      obtain ⟨t, rfl⟩ := ru
      exact P.repr_of_str ⟨.str (PyData.str z).shown, H, I.tok _, ⟨_, rfl⟩, q⟩ sz
    all_goals cases pl
  | lst ds =>
    simp only [rep] at rp
    obtain ⟨a, vs, rfl, _, hp, hl⟩ := rp
    cases ru
    obtain ⟨its, rv, ⟨o, n, ho, hc, _, hd⟩, _⟩ := I.list (.inl (.inl hp))
    simp only [plainX] at pl
    simp only [pyX, PyData.showable, PyData.shown, PyData.depth] at sh sz dep fin ⊢
    obtain ⟨as, bs, rd, most, all⟩ := shXs I ds vs its pl hl rv sh (fun t ht => Nat.le_trans (listText_mem_le ht) sz)
    have rl : Reads s.heap (.ref a) (.list (pyXs ds)) _ := Reads.list ho hc hd rd
    have na : a ∉ bs := not_mem_of_deeper rl (by simp only [PyData.depth]; omega) most
    refine call_repr_slot (by omega) ⟨o, ho, hc⟩ F.slot_list_repr.toG ?_
    cases its with
    | nil =>
      rw [reads_nil rd] at fin
      simp only [PyData.shownAll, listText_nil] at fin
      exact call_list_repr_empty ⟨o, ho, hc⟩ ho hd ⟨_, _, rfl, fin s.heap _ _ fun _ _ e => e⟩
    | cons y l => exact call_list_reprK ho hc hd na (by simpa using all.length_eq) (fun j z e => all.item j z (by simpa using e)) gu (fun b _ => Clear.nil b) (by show X.A.units + 1 + _ < cLine; omega) (fun _ _ z => z) (fun h' t2 tk keep => ⟨_, _, rfl, fin h' t2 tk keep⟩) sz
  | tup ds =>
    simp only [rep] at rp
    obtain ⟨a, vs, rfl, _, hp, hl⟩ := rp
    cases ru
    obtain ⟨its, rv, ⟨o, ho, hc, n, hd⟩, _⟩ := I.tuple (.inl (.inl hp))
    simp only [plainX] at pl
    simp only [pyX, PyData.showable, PyData.shown, PyData.depth] at sh sz dep fin ⊢
    obtain ⟨as, bs, rd, most, all⟩ := shXs I ds vs its pl hl rv sh (fun t ht => Nat.le_trans (tupleText_mem_le ht) sz)
    have rl : Reads s.heap (.ref a) (.tuple (pyXs ds)) _ := Reads.tuple ho hc hd rd
    have na : a ∉ bs := not_mem_of_deeper rl (by simp only [PyData.depth]; omega) most
    refine call_repr_slot (by omega) ⟨o, ho, hc⟩ F.slot_tuple_repr ?_
    exact call_tuple_reprK ho hc hd na all gu (fun b _ => Clear.nil b) (by show X.A.units + 1 + _ < cLine; omega) (fun _ _ z => z) (fun h' t2 tk keep => ⟨_, _, rfl, fin h' t2 tk keep⟩) sz
  | ins _ _ _ => simp only [plainX] at pl; cases pl
  | dct ks ds =>
    simp only [plainX, List.isEmpty_iff] at pl
    subst pl
    simp only [rep] at rp
    obtain ⟨a, vs, rfl, _, hp, _, _⟩ := rp
    cases ru
    obtain ⟨low, o, n, ho, hc, hd⟩ := edict_at I hp
    simp only [pyX, PyData.shown, PyData.shownKv] at sz fin ⊢
    refine call_repr_slot (by omega) ⟨o, ho, hc⟩ F.slot_dict_repr ?_
    exact call_dict_reprK (d := 0) (as := []) ho hc hd low (fun z => nomatch z) .nil gu (fun b _ => Clear.nil b) (by show X.A.units + 1 + _ < cLine; omega) (fun _ _ z => z) (fun h' t2 tk keep => ⟨_, _, rfl, fin h' t2 tk keep⟩) sz
  | dcT _ _ => simp only [plainX] at pl; cases pl
end Rx
namespace Rx
open PySem PySem.Spec PyProof.Rows L2
section
variable {P : Program} {w : World} {K : PySem.W.Frag} {mg mb : Str → Option Value} {k : Nat} {fa a : Addr} {fd : FuncData} {x : Str} {sp : Sp} {s1 : Shared} {vs : List Value} {ns : List Int} {cs : List (Addr × Addr)}
abbrev tadr (cs : List (Addr × Addr)) : List Addr := cs.map (·.2)
/-- what the top leaves of the tables -/
structure TabT (K : PySem.W.Frag) (h : Heap) (cs : List (Addr × Addr)) : Prop where
  at_ : ∀ p ∈ cs, h.get? p.2 = some { cls := .none, data := .fields #[] }
  un : ∀ p ∈ cs, K.lookup p.2 = none
  cd : ∀ p ∈ cs, PySem.W.CodeHd h p.1 p.2
theorem tadr_at {h : Heap} (T : TabT K h cs) {b : Addr} (hb : b ∈ tadr cs) : h.get? b = some { cls := .none, data := .fields #[] } := by
  obtain ⟨p, hp, rfl⟩ := List.mem_map.mp hb
  exact T.at_ p hp
theorem callLG_at (inK : K.In s1.heap) (top : s1.heap.Ns mainGlobals mg) (bl : s1.heap.Ns builtinsNs mb) (blb : ∀ x : Str, x ≠ "__name__" → mb x = bootBuiltins x) (nl : s1.heap.NoLimit) (ng : s1.gens = #[]) (T : TabT K s1.heap cs)
    (bmod : ∃ (bm : Addr) (ob : Obj), mg "__builtins__" = some (.ref bm) ∧ bm ≠ builtinsNs ∧ s1.heap.get? bm = some ob ∧ ob.cls = .type "module" ∧ ob.dict = some builtinsNs ∧ ob.data = .plain)
    (obj : s1.heap.get? a = some { cls := .type "list", data := .seq vs.toArray }) (hr : Room k callerA)
    (F : ∀ base : Heap, K.In base → base.Ns mainGlobals mg → (∀ p ∈ cs, LamX.TabB base mg p.1 p.2) → FnG P w K mg base k fa fd [x] sp) (bind : ∀ (s : Shared) (u : Value), BindsTo s fd ⟨[u], []⟩ [(x, u)])
    {H : Hp} (tabs : ∀ p ∈ cs, H p.2 = some (.tbl #[])) (only : ∀ b, H b = none ∨ b ∈ tadr cs ∨ ∃ o xs, H b = some (.frz o (.lst xs))) (ok : HOk P w H s1.heap) (at_a : ∀ b, H b ≠ none → b = a ∨ b ∈ tadr cs) (own : H a ≠ none → K.lookup a = none)
    (q : sp [.ref a] H (fun v _ => v = .bl true) E0) : codeAny (model P w) callerA (.call (.ref fa) ⟨[.ref a], []⟩) (EndG s1.heap s1.os) s1 := by
  have told : ∀ b, H b = none ∨ b = a ∨ b ∈ tadr cs := fun b => (Classical.em (H b = none)).imp id (at_a b)
  have stays : ∀ {b : Addr} {o : Obj}, s1.heap.get? b = some o → (∀ us n, o.data ≠ .seq us n) → o.data ≠ .fields #[] → H b = none := fun {b o} e n1 n2 => by
    rcases told b with z | z | z
    · exact z
    · subst z
      rw [obj] at e
      cases e
      exact absurd rfl (n1 _ _)
    · rw [tadr_at T z] at e
      cases e
      exact absurd rfl n2
  have keepN : ∀ {b : Addr} {m : Str → Option Value}, s1.heap.Ns b m → (hidT s1.heap H).Ns b m := fun {b m} ⟨o, es, ep, e, d, r⟩ => ⟨o, es, ep, hidT_get e (stays e (fun us n z => by
    rw [d] at z
    cases z) fun z => by
    rw [d] at z
    cases z), d, r⟩
  have keepK : K.In (hidT s1.heap H) := fun b o e => hidT_get (inK b o e) (by
    rcases told b with z | z | z
    · exact z
    · subst z
      exact Classical.byContradiction fun n => by
        rw [own n] at e
        cases e
    · obtain ⟨p, hp, rfl⟩ := List.mem_map.mp z
      rw [T.un p hp] at e
      cases e)
  have md : Mod K mg (hidT s1.heap H) := ⟨keepK, keepN top, ⟨mb, keepN bl, blb⟩, nl.imp fun _ h => ⟨keepN h.1, h.2⟩⟩
  have tb : ∀ p ∈ cs, LamX.TabB (hidT s1.heap H) mg p.1 p.2 := fun p hp => by
    refine ⟨?_, ?_, fun z => ?_⟩
    · obtain ⟨o, us, file, tf, flags, tg, inF, text, tt, e1, r1, r2, r3, rest⟩ := T.cd p hp
      refine ⟨o, us, file, tf, flags, tg, inF, text, tt, hidT_get e1 (stays e1 (fun _ _ z => ?_) fun z => ?_), r1, r2, r3, rest⟩
      · rw [r2] at z
        cases z
      · rw [r2] at z
        cases z
        simp at r3
    · obtain ⟨bm, ob, b1, b2, b3, b4, b5, b6⟩ := bmod
      have n1 : bm ≠ mainGlobals := fun z => by
        obtain ⟨o, es, ep, e, d, _⟩ := top
        rw [z, e] at b3
        cases b3
        rw [d] at b6
        cases b6
      have n2 : bm ≠ p.2 := fun z => by
        rw [z, T.at_ p hp] at b3
        cases b3
        cases b6
      exact ⟨bm, ob, b1, b2, n1, n2, hidT_get b3 (stays b3 (fun _ _ z => by
        rw [b6] at z
        cases z) fun z => by
        rw [b6] at z
        cases z), b4, b5, b6⟩
    · obtain ⟨o, es, ep, e, d, _⟩ := top
      rw [z, T.at_ p hp] at e
      cases e
      cases d
  have en : Env0 P w K mg (hidT s1.heap H) callerA [] s1 H := ⟨rfl, md, fun b o e => of_hidT e, Nat.le_of_eq (hidT_size _ _), trivial, fun b hb => (List.not_mem_nil hb).elim, ok, .of_eq ng⟩
  refine codeAny_mono ((F _ keepK (keepN top) tb).run callerA rfl hr [] s1 H ⟨[.ref a], []⟩ [.ref a] [.ref a] _ _ en (bind s1 (.ref a)) (.cons rfl .nil) q) fun r s' h => ?_
  rcases r with e | fl
  · exact (show False from h).elim
  rcases fl with _ | _ | _ | u
  · exact (show False from h).elim
  · exact (show False from h).elim
  · exact (show False from h).elim
  obtain ⟨v, H', os, bare, un, ok', rv, qv⟩ := h
  cases (show v = .bl true from qv)
  cases (show u = Value.bool true from rv)
  have rest : ∀ b o, b ∉ tadr cs → s1.heap.get? b = some o → s'.heap.get? b = some o := fun b o nb e => by
    rcases only b with z | z | ⟨ob, xs, z⟩
    · exact un.keep b o e z (List.not_mem_nil) (List.not_mem_nil)
    · exact absurd z nb
    · have e1 := (ok b _ z).1
      have e2 := (ok' b _ (un.frzs b ob _ z)).1
      exact (Option.some.inj (e.symm.trans e1)) ▸ e2
  refine ⟨rfl, ⟨fun b o e => ?_, fun b o e => ?_⟩, os, bare⟩
  · by_cases hb : b ∈ tadr cs
    · obtain ⟨p, hp, rfl⟩ := List.mem_map.mp hb
      obtain ⟨more, z⟩ := un.tbls p.2 #[] (tabs p hp)
      rw [T.at_ p hp] at e
      cases e
      exact .inr (.inl ⟨((T.cd p hp).tab (T.at_ p hp)).isCodeTable, rfl, #[], more, rfl, (by
        have z2 := ok' p.2 _ z
        rw [Array.empty_append] at z2 ⊢
        exact z2)⟩)
    · exact .inl (rest b o hb e)
  · by_cases hb : b ∈ tadr cs
    · obtain ⟨p, hp, rfl⟩ := List.mem_map.mp hb
      obtain ⟨more, z⟩ := un.tbls p.2 #[] (tabs p hp)
      exact ⟨_, ok' p.2 _ z⟩
    · exact ⟨o, rest b o hb e⟩
theorem callLG (inK : K.In s1.heap) (top : s1.heap.Ns mainGlobals mg) (bl : s1.heap.Ns builtinsNs mb) (blb : ∀ x : Str, x ≠ "__name__" → mb x = bootBuiltins x) (nl : s1.heap.NoLimit) (ng : s1.gens = #[]) (T : TabT K s1.heap cs)
    (bmod : ∃ (bm : Addr) (ob : Obj), mg "__builtins__" = some (.ref bm) ∧ bm ≠ builtinsNs ∧ s1.heap.get? bm = some ob ∧ ob.cls = .type "module" ∧ ob.dict = some builtinsNs ∧ ob.data = .plain)
    (obj : s1.heap.get? a = some { cls := .type "list", data := .seq vs.toArray }) (its0 : IntsAre vs ns) (small : ns.length ≤ sizeLine) (hr : Room k callerA)
    (F : ∀ base : Heap, K.In base → base.Ns mainGlobals mg → (∀ p ∈ cs, LamX.TabB base mg p.1 p.2) → FnG P w K mg base k fa fd [x] sp) (bind : ∀ (s : Shared) (u : Value), BindsTo s fd ⟨[u], []⟩ [(x, u)])
    (q : ∀ H : Hp, (∀ p ∈ cs, H p.2 = some (.tbl #[])) → SqL K H a (ns.map V.int) → sp [.ref a] H (fun v _ => v = .bl true) E0) : codeAny (model P w) callerA (.call (.ref fa) ⟨[.ref a], []⟩) (EndG s1.heap s1.os) s1 := by
  have rv := vals_ints its0
  have lv := its0.length
  have aT : a ∉ tadr cs := fun z => by
    have e := tadr_at T z
    rw [obj] at e
    have e2 : Data.seq vs.toArray _ = Data.fields #[] := congrArg Obj.data (Option.some.inj e)
    cases e2
  have inT : ∀ p ∈ cs, p.2 ∈ tadr cs := fun p hp => List.mem_map.mpr ⟨p, hp, rfl⟩
  cases hk : K.lookup a with
  | some o =>
    have e := inK a o hk
    rw [obj] at e
    cases e
    generalize hH : (fun b => if b ∈ tadr cs then some (HO.tbl #[]) else none : Hp) = H
    have hin : ∀ b, b ∈ tadr cs → H b = some (.tbl #[]) := fun b hb => by rw [← hH]; exact if_pos hb
    have hno : ∀ b, b ∉ tadr cs → H b = none := fun b hb => by rw [← hH]; exact if_neg hb
    have sq : SqL K H a (ns.map V.int) := .inr ⟨_, vs.toArray, _, hk, rfl, rfl, rfl, by rw [List.size_toArray, lv]; exact small, by simpa using rv⟩
    refine callLG_at inK top bl blb nl ng T bmod obj hr F bind (H := H) (fun p hp => hin _ (inT p hp)) (fun b => ?_) (fun b u z => ?_) (fun b z => .inr (Classical.byContradiction fun n => z (hno b n))) (fun z => absurd (hno a aT) z) (q _ (fun p hp => hin _ (inT p hp)) sq)
    · exact (Classical.em (b ∈ tadr cs)).elim (fun h => .inr (.inl h)) fun h => .inl (hno b h)
    · by_cases hb : b ∈ tadr cs
      · rw [hin b hb] at z
        cases z
        exact tadr_at T hb
      · rw [hno b hb] at z
        cases z
  | none =>
    generalize hH : (fun b => if b = a then some (HO.frz { cls := .type "list", data := .seq vs.toArray } (.lst (ns.map V.int))) else if b ∈ tadr cs then some (HO.tbl #[]) else none : Hp) = H
    have here : H a = some (.frz { cls := .type "list", data := .seq vs.toArray } (.lst (ns.map V.int))) := by rw [← hH]; exact if_pos rfl
    have hin : ∀ b, b ∈ tadr cs → H b = some (.tbl #[]) := fun b hb => by rw [← hH]; exact (if_neg (fun z : b = a => aT (z ▸ hb))).trans (if_pos hb)
    have hno : ∀ b, b ≠ a → b ∉ tadr cs → H b = none := fun b n hb => by rw [← hH]; exact (if_neg n).trans (if_neg hb)
    refine callLG_at inK top bl blb nl ng T bmod obj hr F bind (H := H) (fun p hp => hin _ (inT p hp)) (fun b => ?_) (fun b u z => ?_) (fun b z => ?_) (fun _ => hk) (q _ (fun p hp => hin _ (inT p hp)) (.inl (.inr ⟨_, here⟩)))
    · by_cases e : b = a
      · exact .inr (.inr ⟨{ cls := .type "list", data := .seq vs.toArray }, ns.map V.int, by rw [e]; exact here⟩)
      · exact (Classical.em (b ∈ tadr cs)).elim (fun h => .inr (.inl h)) fun h => .inl (hno b e h)
    · by_cases e : b = a
      · subst e
        rw [here] at z
        cases z
        exact ⟨obj, by rw [List.length_map]; exact small, vs, _, rv, obj⟩
      · by_cases hb : b ∈ tadr cs
        · rw [hin b hb] at z
          cases z
          exact tadr_at T hb
        · rw [hno b e hb] at z
          cases z
    · by_cases e : b = a
      · exact .inl e
      · exact .inr (Classical.byContradiction fun n => z (hno b e n))
end
/-- the tables of some defs of the top -/
theorem walk_ofLG {l : PySem.W.OpenLaw} {n k : Nat} {q : Program} {loose : List Str} {XP : (Str → Option Value) → Heap → Prop} {YP : World → Heap → Prop} {d : DefRec} {K : Params → PySem.W.Frag} {x : Str}
    (most : l.most = some n) (small : n ≤ sizeLine) (plain : d.params.defaults = []) (hr : Room k callerA) (inK : ∀ (w : World) (h : Heap), YP w h → (K w.params).In h) (xs : List Str) (hxs : (xs.all fun y => (recsOf q).any fun e => e.name == y) = true)
    (F : ∀ (w : World) (mg : Str → Option Value) (fa : Addr) (h : Heap), (K w.params).In h → h.Ns mainGlobals mg → mg d.name = some (.ref fa) →
      ∃ (fd : FuncData) (cs : List (Addr × Addr)) (sp : Sp), (∀ (s : Shared) (u : Value), BindsTo s fd ⟨[u], []⟩ [(x, u)]) ∧
        (∀ p ∈ cs, (K w.params).lookup p.2 = none ∧ ∃ y ∈ xs, ∃ (f : Addr) (o : Obj) (gd : FuncData) (oc : Value) (od : Option Addr) (ws : Array Value) (sl : Array (Option Value)), mg y = some (.ref f) ∧ (K w.params).lookup f = some o ∧ o.data = .func gd ∧ gd.code = .ref p.1 ∧
          (K w.params).lookup p.1 = some ⟨oc, od, .fields ws, sl⟩ ∧ ws[11]? = some (.ref p.2)) ∧
        (∀ (H : Hp) (a : Addr) (ns : List Int), ns.length ≤ n → (∀ p ∈ cs, H p.2 = some (.tbl #[])) → SqL (K w.params) H a (ns.map V.int) → sp [.ref a] H (fun v _ => v = .bl true) E0) ∧
        ∀ base : Heap, (K w.params).In base → base.Ns mainGlobals mg → (∀ p ∈ cs, LamX.TabB base mg p.1 p.2) → FnG l.prog w (K w.params) mg base k fa fd [x] sp) :
    PySem.W.WalkO q loose XP YP l.row.toRowW d [] (fun f vs => PySem.call f vs) := by
  refine Att.attach_call most plain fun w s₀ s₁ mg mb fa o pm cd doc a vs ns G Y ho hd hcd hmg obj its0 len ng => ?_
  obtain ⟨fd, cs, sp, bind, tabs, enter, hF⟩ := F w mg fa _ (inK w _ Y) G.T.g hmg
  have own : ∀ p ∈ cs, PySem.W.CodeHd s₁.heap p.1 p.2 ∧ s₁.heap.get? p.2 = some { cls := .none, data := .fields #[] } := fun p hp => by
    obtain ⟨_, y, hy, f, o1, gd, oc, od, ws, sl, h1, h2, h3, h4, h5, h6⟩ := tabs p hp
    obtain ⟨dL, hm, hn1⟩ := List.any_eq_true.mp (List.all_eq_true.mp hxs y hy)
    obtain rfl : dL.name = y := beq_iff_eq.mp hn1
    obtain ⟨a', o', fd', c', P', g1, g2, g3, g4, g5, g6⟩ := G.T.tab dL hm
    rw [h1] at g1
    cases g1
    have z1 := inK w _ Y _ _ h2
    rw [z1] at g2
    cases g2
    rw [h3] at g3
    cases g3
    rw [h4] at g4
    cases g4
    have g5' := g5
    have g6' := g6
    obtain ⟨⟨oc', vc, e1, _, e3, e4⟩, hP⟩ := g6'
    have z2 := inK w _ Y _ _ h5
    rw [z2] at e1
    cases e1
    cases e3
    rw [h6] at e4
    cases e4
    exact ⟨PySem.W.CodeHd.of g5 g6, hP⟩
  exact callLG (inK w _ Y) G.T.g G.T.b G.T.builtins G.T.nolimit ng ⟨fun p hp => (own p hp).2, fun p hp => (tabs p hp).1, fun p hp => (own p hp).1⟩ G.T.bmain obj its0 (Nat.le_trans len small) hr hF bind fun H ht sq => enter H a ns len ht sq
end Rx
namespace Rx
open PySem PySem.Spec PyProof.Rows L2
section
variable {P : Program} {w : World} {K : PySem.W.Frag} {mg : Str → Option Value} {base : Heap}
/-- as okG; the code object of the def is told -/
theorem okGT {x qual : Str} {st : Stmt} {f : Addr} {fd : FuncData} {N ps : List Str} {k : Nat} {sp : Sp} (F : Fun K x qual st f fd) (S : FnScope N ps (defScope st)) (len : ∀ vs H Q E, sp vs H Q E → vs.length = ps.length)
    (hbody : ∀ (cdv : Value) (A : Around) (outer : List Env) (s : Shared) (H : Hp) (vs : List V) (Q : VK) (E : XK), fd.code = cdv → A.guards = some [] → Room k (A.deeper (envOfC qual (defScope st) s.heap.objs.size f cdv)) → sp vs H Q E →
      ∃ t, PSs (cxOf CX0 P w K mg base N qual (defScope st) f cdv A outer s H E).nox (defBody st) t ∧ t { nx := fun _ H' => Q .non H', rt := Q } (start N vs) H) : FnG P w K mg base (k + 1) f fd ps sp := by
  obtain ⟨oc, od, kV, doc, pm, an, cdv, ct, osl, e, lk, hcd⟩ := F.ex
  have hc : fd.code = cdv := by rw [e]
  subst e
  refine ⟨len, fun A gu hr outer s H args us vs Q E en bt rv hs => ?_⟩
  have inK : K.In s.heap := en.mod.kin.keeps fun b o h => (en.bs b o h).1
  have names : ∀ y ∈ ps.zip us, (defScope st).names.lookup y.1 = some .local ∨ ((defScope st).names.lookup y.1 = some .cell ∧ ((cellsFrom (s.heap.objs.size + 1) (defScope st).names []).lookup y.1).isSome = true) := by
    rintro ⟨n, v⟩ hy
    exact (S.par n (List.of_mem_zip hy).1).imp id fun q => ⟨q, PySem.W.cellsFrom_some _ _ _ (.inl q)⟩
  refine codeAny_call_function hr.depth (inK _ _ lk) rfl S.co S.gen rfl (PySem.W.codeRec_of inK hcd) (bt _ _ _ _ (wpAny_newFunctionEnv_cells S.kind names fun env he s1 inner => ?_))
  subst he
  refine ⟨(en.mod.nolimit.keeps fun b o h => (en.bs b o h).1).keeps inner.toInCall.keep, codeAny_func ?_⟩
  obtain ⟨t, ht, hq⟩ := hbody cdv A outer s H vs Q E hc gu (hr.deeper _) hs
  have start0 : Inv (cxOf CX0 P w K mg base N qual (defScope st) f cdv A outer s H E) [] (start N vs) H s1 := inv_start S hr.hd en (len _ _ _ _ hs) rv inner
  have leave : ∀ {σ' : L2.St} {H' : Hp} {v : V} {u : Value} {s' : Shared}, Inv (cxOf CX0 P w K mg base N qual (defScope st) f cdv A outer s H E) [] σ' H' s' → RelV v u → Q v H' → CE outer P w H s Q u s' :=
    fun {σ' H' v u s'} J r q => ⟨v, H', J.os, J.bare, J.base, J.hok, r, q⟩
  refine wpAny_mono (ht.nox.run [] s1 (start N vs) H _ start0 hq) (fun fl s' hs' => ?_) fun _ _ h => h
  rcases fl with _ | _ | _ | u
  · obtain ⟨σ', H', J, q⟩ := hs'
    exact leave (v := V.non) (u := Value.none) J rfl q
  · obtain ⟨_, _, _, q⟩ := hs'
    exact q.elim
  · obtain ⟨_, _, _, q⟩ := hs'
    exact q.elim
  · obtain ⟨v, σ', H', J, r, q⟩ := hs'
    exact leave J r q
end
/-- a call whose arguments never come to an end -/
theorem pe_callN {X : Cx} {x : Str} {f : Addr} {e : PySem.Expr} {es : List PySem.Expr} {p pos : Pos} {t : TA} (hg : Gl X x) (hm : X.mg x = some (.ref f)) (hk : PySem.W.keepIn X.K (.ref f) = true) (ha : PA X (e :: es) t)
    (hdb : (x == ("__debug__" : Str)) = false := by decide) (he : starEach (e :: es) X.env = (false, eval e X.env) :: starEach es X.env := by rfl) (hpl : (backTo pos (starEach es X.env)).any (·.1) = false := by rfl) :
    PE X (.Call (.Name x p) (e :: es) [] pos) (fun σ H _ => t σ H fun _ _ => False) := by
  refine ⟨fun pins s σ H Q I h => ?_⟩
  refine wpAny_Call_Name_kw (ld_glob I hg hm ?_ hdb)
  exact PySem.W.callWith_K (h₀ := X.base) I.ok.mod.kin hk (thn (ha.run pos pins s σ H _ I h) fun us s1 ⟨vs, H1, I1, r, q⟩ => q.elim) he hpl
theorem ret_tab {H H1 : Hp} {P : Addr} {q : Str} (k : ∀ b o, b ≠ P → H b = some o → H1 b = some o) (t : LamX.TabS H1 P q) : Ret [(P, some q)] H H1 where
  kp := fun a o n h => k a o (fun z => n (by rw [z]; exact List.mem_singleton.mpr rfl)) h
  pot := fun a h => by
    rw [List.mem_singleton.mp h]
    exact t
  grow := fun a h => by
    by_cases e : a = P
    · obtain ⟨xs, h1, _⟩ := t
      rw [e, h1]
      exact fun z => nomatch z
    · cases q2 : H a with
      | none => exact absurd q2 h
      | some o =>
        rw [k a o e q2]
        exact fun z => nomatch z
/-- what stands while a lambda runs -/
theorem rep_lam {ms ms' : List Addr} {H H1 : Hp} {d : D} {u : V} (hs : ∀ a ∈ ms', a ∈ ms ∨ H a = none) (e : Ext H H1) (h : rep ms H d u) : rep ms' H1 d u :=
  rep_map (fun p o n hp => ⟨fun z => (hs p z).elim n (fun y => by rw [y] at hp; cases hp), e.keep hp⟩) d u h
theorem repL_lam {ms ms' : List Addr} {H H1 : Hp} {d : List D} {u : List V} (hs : ∀ a ∈ ms', a ∈ ms ∨ H a = none) (e : Ext H H1) (h : repL ms H d u) : repL ms' H1 d u :=
  repL_map (fun p o n hp => ⟨fun z => (hs p z).elim n (fun y => by rw [y] at hp; cases hp), e.keep hp⟩) d u h
section
variable {X : Cx}
theorem pe_lamcall5 {TT : (XK → Hp → VK → Prop) → Hp → VK → Prop} {x a : Str} {g c P : Addr} {k : Nat} {st : Stmt} {fd : FuncData} {Ng : List Str} {params : Arguments} {body : PySem.Expr} {scope : PySem.Scope} {t : XK → TE} {p lpos pos : Pos}
    (hg : Gl X x) (hm : X.mg x = some (.ref g)) (F : Fun X.K x x st g fd) (hb : L2.Binds X.K fd [a] []) (Sg : FnScope Ng [a] (defScope st)) (hva : Vis (defScope st) a)
    (hG : ∀ cdv, Gives X Ng x (defScope st) g cdv (defBody st) a (X.env.qual ++ "<lambda>") TT) (TB : LamX.TabB X.base X.mg c P) (hcode : X.env.code = .ref c) (hr : Room (k + 3) X.A) (L : LamX.LamS X.env.scope scope)
    (hd : defaultsOf params X.env = ([], [])) (hbind : ∀ (q : Str) (cl : List (Str × Addr)) (pm cv ctv : Value), bindArgs (PySem.W.kla_fn "<lambda>" q params body scope cl pm cv ctv) ⟨[], []⟩ = pure [])
    (hbody : ∀ (A : Around) (outer : List Env) (s : Shared) (H : Hp) (E : XK) (f c' : Addr), Room k (A.deeper (LamX.lamEnv X scope s.heap.objs.size f c')) → PE (LamX.lamCx X A outer s H E scope f c') body (t E))
    (hNg : Ng[0]? = some a := by rfl) (h1 : (x == "__debug__") = false := by rfl) (h2 : (a == "__debug__") = false := by rfl) (h3 : (a == "__classdict__") = false := by rfl) :
    PE X (.Call (.Name x p) [.Lambda params body scope lpos] [] pos) (tLam3 P (X.env.qual ++ "<lambda>") TT t) := by
  obtain ⟨oc, od, kV, doc, pm, an, cdv, ct, osl, e, lk, hcd⟩ := F.ex
  subst e
  exact pe_lamcall4 hg hm F.kp lk hcd hb Sg hNg hva (hG cdv) TB hcode hr L hd hbind hbody h1 h2 h3
theorem pe_lamcall6 (qu : Str) {TT : (XK → Hp → VK → Prop) → Hp → VK → Prop} {x a : Str} {g c P : Addr} {k : Nat} {st : Stmt} {fd : FuncData} {Ng : List Str} {params : Arguments} {body : PySem.Expr} {scope : PySem.Scope} {t : XK → TE} {p lpos pos : Pos}
    (hq : X.env.qual = qu) (hg : Gl X x) (hm : X.mg x = some (.ref g)) (F : Fun X.K x x st g fd) (hb : L2.Binds X.K fd [a] []) (Sg : FnScope Ng [a] (defScope st)) (hva : Vis (defScope st) a)
    (hG : ∀ cdv, Gives X Ng x (defScope st) g cdv (defBody st) a (qu ++ "<lambda>") TT) (TB : LamX.TabB X.base X.mg c P) (hcode : X.env.code = .ref c) (hr : Room (k + 3) X.A) (L : LamX.LamS X.env.scope scope)
    (hd : defaultsOf params X.env = ([], [])) (hbind : ∀ (q : Str) (cl : List (Str × Addr)) (pm cv ctv : Value), bindArgs (PySem.W.kla_fn "<lambda>" q params body scope cl pm cv ctv) ⟨[], []⟩ = pure [])
    (hbody : ∀ (A : Around) (outer : List Env) (s : Shared) (H : Hp) (E : XK) (f c' : Addr), Room k (A.deeper (LamX.lamEnv X scope s.heap.objs.size f c')) → PE (LamX.lamCx X A outer s H E scope f c') body (t E))
    (hNg : Ng[0]? = some a := by rfl) (h1 : (x == "__debug__") = false := by rfl) (h2 : (a == "__debug__") = false := by rfl) (h3 : (a == "__classdict__") = false := by rfl) :
    PE X (.Call (.Name x p) [.Lambda params body scope lpos] [] pos) (tLam3 P (qu ++ "<lambda>") TT t) := by
  subst hq
  exact pe_lamcall5 hg hm F hb Sg hva hG TB hcode hr L hd hbind hbody hNg h1 h2 h3
end
/-- what becomes of an exception in a def -/
theorem tkE {X : Cx} {E : XK} (hs : X.stack = X.env :: X.outer) (hf : X.env.frame = some X.env.locals) (hex : X.ex = [])
    (hx : X.xe = fun e s' => wpAny (model X.prog X.w) X.A (leaving X.env e) (fun _ s'' => L2.CX X.prog X.w X.outer X.H_0 X.s_0 E e s'') (fun e' s'' => L2.CX X.prog X.w X.outer X.H_0 X.s_0 E e' s'') s') : Takes X (fun cls d _ H => E cls d H) := takes_of hs hf hex hx
theorem passE {X : Cx} {E : XK} (hs : X.stack = X.env :: X.outer) (hf : X.env.frame = some X.env.locals) (hex : X.ex = [])
    (hx : X.xe = fun e s' => wpAny (model X.prog X.w) X.A (leaving X.env e) (fun _ s'' => L2.CX X.prog X.w X.outer X.H_0 X.s_0 E e s'') (fun e' s'' => L2.CX X.prog X.w X.outer X.H_0 X.s_0 E e' s'') s') : Passes (L2.CX X.prog X.w) X E :=
  passes_call (tkE hs hf hex hx) fun _ _ _ _ h => h
/-- texts of plain data -/
theorem rep_reprX {ms : List Addr} {H : Hp} {x : V} {d : D} {Q : VK} (h : rep ms H d x) (p : plainX d = true ∧ (pyX d).showable = true ∧ (pyX d).depth ≤ 60 ∧ (pyX d).shown.length ≤ sizeLine) (q : Q (.str (pyX d).shown) H) : rReprX ms [x] H Q :=
  ⟨x, d, rfl, h, p.1, p.2.1, p.2.2.1, p.2.2.2, q⟩
end Rx
namespace Rx
open PySem PySem.Spec PyProof.Rows L2
def isT (d : D) (b : String) : Bool := (kitB (tyN d) b).getD false
theorem kitB_isT {d : D} (h : tyOk d = true) {b : String} (hb : b = "int" ∨ b = "bool" ∨ b = "str" ∨ b = "list" ∨ b = "tuple" ∨ b = "dict") : kitB (tyN d) b = some (isT d b) := by
  have key : ∀ a ∈ (["NoneType", "bool", "int", "str", "list", "tuple", "dict"] : List String), ∀ b ∈ (["int", "bool", "str", "list", "tuple", "dict"] : List String), (kitB a b).isSome = true := by decide +kernel
  have m : tyN d ∈ (["NoneType", "bool", "int", "str", "list", "tuple", "dict"] : List String) := by
    cases d with
    | v x => cases x <;> first | (simp only [tyOk] at h; done) | (cases h; done) | (simp [tyN])
    | ins _ _ _ => cases h
    | _ => simp [tyN]
  have n : b ∈ (["int", "bool", "str", "list", "tuple", "dict"] : List String) := by
    rcases hb with rfl | rfl | rfl | rfl | rfl | rfl <;> simp
  have := key _ m _ n
  unfold isT
  obtain ⟨r, hr⟩ := Option.isSome_iff_exists.mp this
  rw [hr]
  rfl
def rReprY : List V → Hp → VK → Prop := fun xs H Q => ∃ ms, rReprX ms xs H Q
theorem call_reprY {X : Cx} (gu : X.A.guards = some []) (un : X.A.units + 65 < cLine) : CallR X (.builtin "repr") rReprY := fun pins s σ H xs us Q I r ⟨ms, h⟩ => call_reprX gu un pins s σ H xs us Q I r h
theorem rep_reprY {ms : List Addr} {H : Hp} {x : V} {d : D} {Q : VK} (h : rep ms H d x) (p : plainX d = true ∧ (pyX d).showable = true ∧ (pyX d).depth ≤ 60 ∧ (pyX d).shown.length ≤ sizeLine) (q : Q (.str (pyX d).shown) H) : rReprY [x] H Q :=
  ⟨ms, rep_reprX h p q⟩
end Rx
namespace Rx
open PySem PySem.Spec PyProof.Rows L2
section
variable {ms : List Addr} {ps : List PEn} {H0 H H1 H' : Hp} {d : D} {u : V} {L : Addr}
theorem rep_retM (pm : ∀ a ∈ ad ps, a ∈ ms) (e : Ret ps H H') (h : rep ms H d u) : rep ms H' d u := rep_map (fun p o n hp => ⟨n, e.kp p o (fun z => n (pm p z)) hp⟩) d u h
theorem repL_retM {ds : List D} {us : List V} (pm : ∀ a ∈ ad ps, a ∈ ms) (e : Ret ps H H') (h : repL ms H ds us) : repL ms H' ds us := repL_map (fun p o n hp => ⟨n, e.kp p o (fun z => n (pm p z)) hp⟩) ds us h
theorem keep_retM (pm : ∀ a ∈ ad ps, a ∈ ms) (e : Ret ps H H') (k : Keep ms H1 H) : Keep ms H1 H' := fun a o n h => e.kp a o (fun z => n (pm a z)) (k a o n h)
theorem mo_retM (pm : ∀ a ∈ ad ps, a ∈ ms) (e : Ret ps H H') (m : MutO ms ps H0 H L d) : MutO ms ps H0 H' L d :=
  ⟨m.im, m.hp, m.h0, valO_map (fun p o n hp => ⟨n, e.kp p o (fun z => n (pm p z)) hp⟩) (fun o h => e.kp L o m.hp h) d m.val⟩
end
end Rx
namespace Rx
open PySem PySem.Spec PyProof.Rows L2
theorem sub1 {p : PEn} {ps : List PEn} (h : p ∈ ps) : ∀ a ∈ [p], a ∈ ps := fun a ha => by
  rw [List.mem_singleton.mp ha]
  exact h
theorem tab1 {ap : Addr} {p : PEn} : ∀ a ∈ ((ap, none) :: [p] : List PEn), a.2 ≠ none → a ∈ [p] := fun a ha n => by
  rcases List.mem_cons.mp ha with rfl | h
  · exact absurd rfl n
  · exact h
theorem tab0 {p : PEn} : ∀ a ∈ ([p] : List PEn), a.2 ≠ none → a ∈ [p] := fun a ha _ => ha
end Rx
namespace Rx
open PySem PySem.Spec PyProof.Rows L2
theorem qual_nox {CX : CXT} {P : Program} {w : World} {K : PySem.W.Frag} {mg : Str → Option Value} {base : Heap} {N : List Str} {qual : Str} {scope : PySem.Scope} {f : Addr} {cd : Value} {A : Around} {outer : List Env} {s : Shared} {H : Hp} {E : XK} :
    (cxOf CX P w K mg base N qual scope f cd A outer s H E).nox.env.qual = qual ++ (".<locals>." : Str) := rfl
end Rx
namespace Wm
open PySem PySem.Spec PyProof.Rows L2

abbrev L (z : Str) : List Nat := z.cps.toList
theorem len_L (z : Str) : z.length = (L z).length := by
  show z.cps.size = z.cps.toList.length
  simp
theorem L_mk (l : List Nat) : L ⟨l.toArray⟩ = l := by simp [L]
theorem mk_L (z : Str) : (⟨(L z).toArray⟩ : Str) = z := by
  cases z
  simp [L]
theorem L_ext {a b : Str} (h : L a = L b) : a = b := ext_toList h
theorem L_app (a b : Str) : L (a ++ b) = L a ++ L b := by
  show (a.cps ++ b.cps).toList = _
  simp [L]
theorem L_empty : L ("" : Str) = [] := by decide +kernel
theorem L_h : L ("h" : Str) = [104] := by decide +kernel
theorem L_a : L ("a" : Str) = [97] := by decide +kernel
theorem L_one (c : Nat) : L ⟨#[c]⟩ = [c] := by simp [L]
theorem h_mk : ("h" : Str) = ⟨#[104]⟩ := by decide +kernel
theorem a_mk : ("a" : Str) = ⟨#[97]⟩ := by decide +kernel
theorem eqS {a b : Str} : decide (V.str a = V.str b) = decide (L a = L b) := by
  by_cases h : a = b
  · subst h
    simp
  · rw [decide_eq_false (fun z => h (V.str.inj z)), decide_eq_false (fun z => h (L_ext z))]
theorem eqI {a b : Int} : decide (V.int a = V.int b) = decide (a = b) := by
  by_cases h : a = b
  · subst h
    simp
  · rw [decide_eq_false (fun z => h (V.int.inj z)), decide_eq_false h]

/-- how many signs c -/
def cn (c : Nat) (l : List Nat) : Int := ((l.count c : Nat) : Int)
theorem cn_nil (c : Nat) : cn c [] = 0 := rfl
theorem cn_app (c : Nat) (a b : List Nat) : cn c (a ++ b) = cn c a + cn c b := by
  unfold cn
  rw [List.count_append]
  omega
theorem cn_cons (c x : Nat) (l : List Nat) : cn c (x :: l) = (if x = c then 1 else 0) + cn c l := by
  unfold cn
  rw [List.count_cons]
  by_cases h : x = c
  · simp [h]
    omega
  · simp [h]
theorem cn_pos (c : Nat) (l : List Nat) : 0 ≤ cn c l := by
  unfold cn
  omega
theorem cn_le (c : Nat) (l : List Nat) : cn c l ≤ l.length := by
  unfold cn
  have := List.count_le_length (a := c) (l := l)
  omega
theorem cnt_cn (c : Nat) : ∀ l : List Nat, cnt c l = cn c l
  | [] => by rw [cn_nil]; rfl
  | x :: l => by rw [cn_cons, cnt_cons, cnt_cn c l]
theorem count_h (x : Str) : Txt.count x ("h" : Str) = cn 104 (L x) := by rw [h_mk, count_cnt, cnt_cn]
theorem count_a (x : Str) : Txt.count x ("a" : Str) = cn 97 (L x) := by rw [a_mk, count_cnt, cnt_cn]
theorem marks_all : ∀ l : List Nat, (∀ c ∈ l, c = 104 ∨ c = 97) → cn 104 l + cn 97 l = l.length
  | [], _ => rfl
  | x :: l, h => by
    have ih := marks_all l fun c hc => h c (List.mem_cons_of_mem _ hc)
    rw [cn_cons, cn_cons, List.length_cons]
    rcases h x List.mem_cons_self with e | e <;> subst e <;> simp <;> omega

/-- z[:k], 0 ≤ k -/
theorem cut_take (z : Str) {k : Int} (h : 0 ≤ k) : L (cutS z none (some k)) = (L z).take k.toNat := by
  unfold cutS
  rw [L_mk, HT.sIx_none, List.drop_zero, Nat.sub_zero]
  show List.take (if k < 0 then _ else min k.toNat z.length) z.cps.toList = _
  rw [if_neg (by omega)]
  rw [len_L]
  exact (List.take_eq_take_min).symm
theorem join_L (ys : List Str) : L (Txt.join ("" : Str) ys) = (ys.map L).flatten := by
  rw [TL.join_eq]
  show TL.tl (Str.join _ _) = _
  rw [TL.tl_join]
  show TL.joinL (L ("" : Str)) _ = _
  rw [L_empty]
  show _ = (ys.map TL.tl).flatten
  generalize ys.map TL.tl = ls
  induction ls with
  | nil => rfl
  | cons p ls ih =>
    cases ls with
    | nil => simp [TL.joinL]
    | cons q r =>
      show p ++ ([] ++ TL.joinL [] (q :: r)) = _
      rw [ih]
      simp

/-! ### the middle, said again and again -/
def cyc (m : List Nat) (k : Nat) : List Nat := (List.range k).map fun j => m.getD (j % m.length) 0
theorem cyc_len (m : List Nat) (k : Nat) : (cyc m k).length = k := by simp [cyc]
theorem cyc_get (m : List Nat) {k j : Nat} (h : j < k) : (cyc m k)[j]? = some (m.getD (j % m.length) 0) := by
  simp [cyc, List.getElem?_map, List.getElem?_range h]
theorem cyc_get' {m : List Nat} (hm : 0 < m.length) {k j : Nat} (h : j < k) : (cyc m k)[j]? = m[j % m.length]? := by
  rw [cyc_get m h]
  have := Nat.mod_lt j hm
  rw [List.getD_eq_getElem?_getD, List.getElem?_eq_getElem this]
  rfl
theorem cyc_take (m : List Nat) {k j : Nat} (h : j ≤ k) : (cyc m k).take j = cyc m j := by
  unfold cyc
  rw [← List.map_take, List.take_range, Nat.min_eq_left h]
theorem cyc_full {m : List Nat} : cyc m m.length = m := by
  apply List.ext_getElem?
  intro j
  by_cases h : j < m.length
  · rw [cyc_get' (by omega) h, Nat.mod_eq_of_lt h]
  · rw [List.getElem?_eq_none (by rw [cyc_len]; omega), List.getElem?_eq_none (by omega)]
theorem cyc_add {m : List Nat} (hm : 0 < m.length) (k : Nat) : cyc m (m.length + k) = m ++ cyc m k := by
  apply List.ext_getElem?
  intro j
  by_cases h : j < m.length
  · rw [cyc_get' hm (by omega), List.getElem?_append_left h, Nat.mod_eq_of_lt h]
  · rw [List.getElem?_append_right (by omega)]
    by_cases h2 : j < m.length + k
    · rw [cyc_get' hm h2, cyc_get' hm (by omega), Nat.mod_eq_sub_mod (by omega)]
    · rw [List.getElem?_eq_none (by rw [cyc_len]; omega), List.getElem?_eq_none (by rw [cyc_len]; omega)]
/-- how many c the first k of them have -/
def cyn (c : Nat) (m : List Nat) (k : Nat) : Int := ((k / m.length : Nat) : Int) * cn c m + cn c (m.take (k % m.length))
theorem cyn_eq (c : Nat) {m : List Nat} (hm : 0 < m.length) : ∀ k : Nat, cn c (cyc m k) = cyn c m k := by
  intro k
  induction k using Nat.strongRecOn with
  | ind k ih =>
    by_cases h : k < m.length
    · unfold cyn
      rw [Nat.div_eq_of_lt h, Nat.mod_eq_of_lt h]
      have e : cyc m k = m.take k := by
        have := cyc_take m (Nat.le_of_lt h)
        rw [cyc_full] at this
        exact this.symm
      rw [e]
      show _ = ((0 : Nat) : Int) * _ + _
      omega
    · obtain ⟨j, rfl⟩ : ∃ j, k = m.length + j := ⟨k - m.length, by omega⟩
      rw [cyc_add hm, cn_app, ih j (by omega)]
      unfold cyn
      rw [Nat.add_mod_left, Nat.add_div_left _ hm]
      rw [show (((j / m.length + 1 : Nat) : Int)) = ((j / m.length : Nat) : Int) + 1 by omega, Int.add_mul]
      omega
theorem cyn_add (c : Nat) {m : List Nat} (hm : 0 < m.length) (k : Nat) : cyn c m (k + m.length) = cyn c m k + cn c m := by
  rw [← cyn_eq c hm, ← cyn_eq c hm, Nat.add_comm, cyc_add hm, cn_app]
  omega
theorem cyn_mul (c : Nat) {m : List Nat} (hm : 0 < m.length) (k : Nat) : cyn c m (k * m.length) = (k : Int) * cn c m := by
  unfold cyn
  rw [Nat.mul_div_cancel _ hm, Nat.mul_mod_left, List.take_zero, cn_nil]
  omega

/-! ### rows -/
def row (h m t : List Nat) (n : Nat) : List Nat := h ++ cyc m (n - h.length - t.length) ++ t
section
variable {h m t : List Nat} {n : Nat}
theorem row_len (hn : h.length + t.length ≤ n) : (row h m t n).length = n := by
  unfold row
  rw [List.length_append, List.length_append, cyc_len]
  omega
theorem row_head {j : Nat} (hj : j < h.length) : (row h m t n)[j]? = h[j]? := by
  unfold row
  rw [List.append_assoc, List.getElem?_append_left hj]
theorem row_mid {j : Nat} (hm : 0 < m.length) (hn : h.length + t.length ≤ n) (h1 : h.length ≤ j) (h2 : j < n - t.length) : (row h m t n)[j]? = m[(j - h.length) % m.length]? := by
  unfold row
  rw [List.append_assoc, List.getElem?_append_right h1, List.getElem?_append_left (by rw [cyc_len]; omega), cyc_get' hm (by omega)]
theorem row_tail {j : Nat} (hn : h.length + t.length ≤ n) (h1 : n - t.length ≤ j) : (row h m t n)[j]? = t[j - (n - t.length)]? := by
  unfold row
  rw [List.getElem?_append_right (by rw [List.length_append, cyc_len]; omega)]
  congr 1
  rw [List.length_append, cyc_len]
  omega
/-- the homes of the first i places -/
def hom (c : Nat) (h m t : List Nat) (n i : Nat) : Int := cn c (h.take i) + cyn c m (min i (n - t.length) - h.length) + cn c (t.take (i - (n - t.length)))
theorem hom_eq (c : Nat) (hm : 0 < m.length) (hn : h.length + t.length ≤ n) (i : Nat) (hi : i ≤ n) : cn c ((row h m t n).take i) = hom c h m t n i := by
  unfold row hom
  rw [List.take_append, List.take_append, cn_app, cn_app, List.length_append, cyc_len]
  congr 2
  · rw [← cyn_eq c hm]
    by_cases h1 : i - h.length ≤ n - h.length - t.length
    · rw [cyc_take m h1]
      congr 2
      omega
    · rw [List.take_of_length_le (by rw [cyc_len]; omega)]
      congr 2
      omega
  · congr 1
    omega
theorem cn_succ (c : Nat) {l : List Nat} {i x : Nat} (hx : l[i]? = some x) : cn c (l.take (i + 1)) = cn c (l.take i) + (if x = c then 1 else 0) := by
  rw [List.take_add_one, hx, cn_app]
  show _ + cn c [x] = _
  rw [cn_cons, cn_nil]
  omega
end

theorem cyc_end {m : List Nat} (hm : 0 < m.length) (k : Nat) : cyc m (k * m.length) ++ m = cyc m ((k + 1) * m.length) := by
  apply List.ext_getElem?
  intro j
  by_cases h : j < k * m.length
  · rw [List.getElem?_append_left (by rw [cyc_len]; exact h), cyc_get' hm h, cyc_get' hm (by rw [Nat.succ_mul]; omega)]
  · rw [List.getElem?_append_right (by rw [cyc_len]; omega), cyc_len]
    by_cases h2 : j < (k + 1) * m.length
    · rw [cyc_get' hm h2]
      rw [Nat.succ_mul] at h2
      obtain ⟨i, rfl⟩ : ∃ i, j = i + k * m.length := ⟨j - k * m.length, by omega⟩
      rw [Nat.add_mul_mod_self_right, Nat.mod_eq_of_lt (by omega)]
      congr 1
      omega
    · rw [List.getElem?_eq_none (by rw [Nat.succ_mul] at h2; omega), List.getElem?_eq_none (by rw [cyc_len]; omega)]

/-! ### loops of mirrors -/
section
open Rx
variable {α β S : Type}
theorem mapC_ok {body : α → (β → Prop) → Prop} {k : List β → Prop} (g : α → β) : ∀ {xs : List α} {acc : List β}, (∀ x ∈ xs, ∀ k' : β → Prop, k' (g x) → body x k') → k (acc ++ xs.map g) → mapC body xs acc k
  | [], acc, _, q => by
    rw [List.map_nil, List.append_nil] at q
    exact q
  | x :: xs, acc, h, q => h x List.mem_cons_self _ (mapC_ok g (fun y hy => h y (List.mem_cons_of_mem _ hy)) (by rw [List.append_assoc]; exact q))
theorem mapC_any {body : α → (β → Prop) → Prop} {k : List β → Prop} (P : β → Prop) : ∀ {xs : List α} {acc : List β}, (∀ x ∈ xs, ∀ k' : β → Prop, (∀ y, P y → k' y) → body x k') → (∀ ys : List β, ys.length = xs.length → (∀ y ∈ ys, P y) → k (acc ++ ys)) → mapC body xs acc k
  | [], acc, _, q => by
    have := q [] rfl (fun _ h => absurd h List.not_mem_nil)
    rw [List.append_nil] at this
    exact this
  | x :: xs, acc, h, q => h x List.mem_cons_self _ fun y hy => mapC_any P (fun z hz => h z (List.mem_cons_of_mem _ hz)) fun ys hl hp => by
    rw [List.append_assoc]
    exact q (y :: ys) (congrArg Nat.succ hl) fun z hz => by
      rcases List.mem_cons.mp hz with e | hz
      · rw [e]
        exact hy
      · exact hp z hz
theorem filC_ok {body : α → (Option β → Prop) → Prop} {k : List β → Prop} (g : α → Option β) : ∀ {xs : List α} {acc : List β}, (∀ x ∈ xs, ∀ k' : Option β → Prop, k' (g x) → body x k') → k (acc ++ xs.filterMap g) → filC body xs acc k
  | [], acc, _, q => by
    rw [List.filterMap_nil, List.append_nil] at q
    exact q
  | x :: xs, acc, h, q => h x List.mem_cons_self _ (by
    show match g x with | some y => filC body xs (acc ++ [y]) k | none => filC body xs acc k
    cases e : g x with
    | none => exact filC_ok g (fun y hy => h y (List.mem_cons_of_mem _ hy)) (by rw [List.filterMap_cons_none e] at q; exact q)
    | some y => exact filC_ok g (fun y hy => h y (List.mem_cons_of_mem _ hy)) (by rw [List.filterMap_cons_some e] at q; rw [List.append_assoc]; exact q))
theorem forC_ok {body : α → S → (S → Prop) → Prop} {k : S → Prop} (I : S → Prop) : ∀ {xs : List α} {s0 : S}, (∀ x ∈ xs, ∀ (s : S) (k' : S → Prop), I s → (∀ s', I s' → k' s') → body x s k') → I s0 → (∀ s, I s → k s) → forC body xs s0 k
  | [], s0, _, i, q => q s0 i
  | x :: xs, s0, h, i, q => h x List.mem_cons_self s0 _ i fun s' i' => forC_ok I (fun y hy => h y (List.mem_cons_of_mem _ hy)) i' q
theorem whileC_ok {body : S → (S → Prop) → (S → Prop) → Prop} {k : S → Prop} (I : S → Prop) (μ : S → Nat) (h : ∀ (s : S) (k1 : S → Prop), I s → (∀ s', I s' → μ s' < μ s → k1 s') → body s k1 k) {s0 : S} (i : I s0) : ∃ n, whileC body n s0 k := by
  have go : ∀ (n : Nat) (s : S), μ s < n → I s → whileC body n s k := by
    intro n
    induction n with
    | zero => intro s hs; omega
    | succ n ih => intro s hs is; exact h s _ is fun s' is' hl => ih s' (by omega) is'
  exact ⟨_, go _ s0 (Nat.lt_succ_self _) i⟩
theorem rangeI_mem {lo hi x : Int} (h : x ∈ rangeI lo hi) : lo ≤ x ∧ x < hi := by
  unfold rangeI at h
  obtain ⟨i, hi', e⟩ := List.mem_map.mp h
  have := List.mem_range.mp hi'
  omega
end
end Wm
namespace Lw
open PySem PySem.Spec PyProof.Rows L2 Rx
abbrev St := L2.St
def topS (i : Nat) : Stmt := PySem.Challenge.pw_ringrows_k46_breaks_and_stays_of_rows.main.body.getD i (.Pass ⟨0, 0, 0, 0⟩)
abbrev s_draw : Stmt := (topS 37)
abbrev s_pick : Stmt := (topS 38)
abbrev s_marks : Stmt := (topS 44)
abbrev s_stays : Stmt := (topS 46)
abbrev s_is_marks : Stmt := (topS 14)
abbrev s_stays_in : Stmt := (topS 19)
abbrev s_breaks_in : Stmt := (topS 18)
abbrev s_other : Stmt := (topS 43)
abbrev s_row_right : Stmt := (topS 47)
abbrev s_joined_right : Stmt := (topS 48)
abbrev s_many : Stmt := (topS 40)
abbrev s_mixed : Stmt := (topS 39)
abbrev s_day : Stmt := (topS 41)
abbrev s_days : Stmt := (topS 42)
abbrev s_is_list : Stmt := (topS 13)
abbrev s_is_integer : Stmt := (topS 11)
abbrev s_is_meeting : Stmt := (topS 27)
abbrev s_is_round : Stmt := (topS 26)
abbrev s_check_rounds : Stmt := (topS 25)
abbrev s_Table_init : Stmt := (inClass (topS 24) 0)
abbrev s_Table_size : Stmt := (inClass (topS 24) 1)
abbrev s_is_count : Stmt := (topS 12)
abbrev s_check_team : Stmt := (topS 15)
abbrev s_mark_in : Stmt := (topS 28)
abbrev s_Table_row_of : Stmt := (inClass (topS 24) 5)
abbrev s_check_part : Stmt := (topS 33)
abbrev s_Word_init : Stmt := (inClass (topS 32) 0)
abbrev s_Word_least : Stmt := (inClass (topS 32) 4)
abbrev s_check_places : Stmt := (topS 34)
abbrev s_Word_row : Stmt := (inClass (topS 32) 5)
abbrev s_rows_of_others_right : Stmt := (topS 49)
abbrev s_told : Stmt := (topS 45)
abbrev s_refused_right : Stmt := (topS 50)
abbrev s_right : Stmt := (topS 51)
abbrev s_pot : Stmt := (topS 36)
abbrev s_law : Stmt := (topS 52)
abbrev s_InvalidMarks_init : Stmt := (inClass (topS 4) 0)
theorem sc_draw : FnScope ["_law_pot_here", "_law_many_here", "_law_digit"] ["_law_pot_here", "_law_many_here"] (defScope s_draw) := ⟨rfl, rfl, rfl, by decide +kernel, rfl, by decide +kernel, by decide +kernel⟩
theorem sc_pick : FnScope ["_law_pot_here", "_law_some"] ["_law_pot_here", "_law_some"] (defScope s_pick) := ⟨rfl, rfl, rfl, by decide +kernel, rfl, by decide +kernel, by decide +kernel⟩
theorem sc_marks : FnScope ["_law_pot_here", "_law_most", "_law_way", "_law_long", "_law_turn"] ["_law_pot_here", "_law_most"] (defScope s_marks) := ⟨rfl, rfl, rfl, by decide +kernel, rfl, by decide +kernel, by decide +kernel⟩
theorem sc_stays : FnScope ["_law_marks_now", "_law_cuts", "_law_at"] ["_law_marks_now"] (defScope s_stays) := ⟨rfl, rfl, rfl, by decide +kernel, rfl, by decide +kernel, by decide +kernel⟩
theorem sc_is_marks : FnScope ["value"] ["value"] (defScope s_is_marks) := ⟨rfl, rfl, rfl, by decide +kernel, rfl, by decide +kernel, by decide +kernel⟩
theorem sc_stays_in : FnScope ["marks", "starts", "at", "start", "end"] ["marks"] (defScope s_stays_in) := ⟨rfl, rfl, rfl, by decide +kernel, rfl, by decide +kernel, by decide +kernel⟩
theorem sc_breaks_in : FnScope ["marks", "length"] ["marks"] (defScope s_breaks_in) := ⟨rfl, rfl, rfl, by decide +kernel, rfl, by decide +kernel, by decide +kernel⟩
theorem sc_other : FnScope ["_law_marks_now", "_law_mark"] ["_law_marks_now"] (defScope s_other) := ⟨rfl, rfl, rfl, by decide +kernel, rfl, by decide +kernel, by decide +kernel⟩
theorem sc_row_right : FnScope ["_law_some", "_law_due", "_law_told_here"] ["_law_some"] (defScope s_row_right) := ⟨rfl, rfl, rfl, by decide +kernel, rfl, by decide +kernel, by decide +kernel⟩
theorem sc_joined_right : FnScope ["_law_some", "_law_more", "_law_both", "_law_meet", "_law_left", "_law_right_here", "_law_due"] ["_law_some", "_law_more"] (defScope s_joined_right) := ⟨rfl, rfl, rfl, by decide +kernel, rfl, by decide +kernel, by decide +kernel⟩
theorem sc_many : FnScope ["_law_pot_here"] ["_law_pot_here"] (defScope s_many) := ⟨rfl, rfl, rfl, by decide +kernel, rfl, by decide +kernel, by decide +kernel⟩
theorem sc_mixed : FnScope ["_law_pot_here", "_law_some", "_law_rest", "_law_found", "_law_turn"] ["_law_pot_here", "_law_some"] (defScope s_mixed) := ⟨rfl, rfl, rfl, by decide +kernel, rfl, by decide +kernel, by decide +kernel⟩
theorem sc_day : FnScope ["_law_pot_here", "_law_many_here", "_law_lot", "_law_k"] ["_law_pot_here", "_law_many_here"] (defScope s_day) := ⟨rfl, rfl, rfl, by decide +kernel, rfl, by decide +kernel, by decide +kernel⟩
theorem sc_days : FnScope ["_law_pot_here", "_law_many_here", "_law_most", "_law_found", "_law_turn", "_law_way", "_law_near", "_law_home", "_law_away"] ["_law_pot_here", "_law_many_here", "_law_most"] (defScope s_days) := ⟨rfl, rfl, rfl, by decide +kernel, rfl, by decide +kernel, by decide +kernel⟩
theorem sc_is_list : FnScope ["value"] ["value"] (defScope s_is_list) := ⟨rfl, rfl, rfl, by decide +kernel, rfl, by decide +kernel, by decide +kernel⟩
theorem sc_is_integer : FnScope ["value"] ["value"] (defScope s_is_integer) := ⟨rfl, rfl, rfl, by decide +kernel, rfl, by decide +kernel, by decide +kernel⟩
theorem sc_is_meeting : FnScope ["value"] ["value"] (defScope s_is_meeting) := ⟨rfl, rfl, rfl, by decide +kernel, rfl, by decide +kernel, by decide +kernel⟩
theorem sc_is_round : FnScope ["value", "meeting", "team"] ["value"] (defScope s_is_round) := ⟨rfl, rfl, rfl, by decide +kernel, rfl, by decide +kernel, by decide +kernel⟩
theorem sc_check_rounds : FnScope ["rounds", "position", "meetings"] ["rounds"] (defScope s_check_rounds) := ⟨rfl, rfl, rfl, by decide +kernel, rfl, by decide +kernel, by decide +kernel⟩
theorem sc_Table_init : FnScope ["self", "rounds", "meetings", "home", "away"] ["self", "rounds"] (defScope s_Table_init) := ⟨rfl, rfl, rfl, by decide +kernel, rfl, by decide +kernel, by decide +kernel⟩
theorem sc_Table_size : FnScope ["self"] ["self"] (defScope s_Table_size) := ⟨rfl, rfl, rfl, by decide +kernel, rfl, by decide +kernel, by decide +kernel⟩
theorem sc_is_count : FnScope ["value"] ["value"] (defScope s_is_count) := ⟨rfl, rfl, rfl, by decide +kernel, rfl, by decide +kernel, by decide +kernel⟩
theorem sc_check_team : FnScope ["team", "teams"] ["team", "teams"] (defScope s_check_team) := ⟨rfl, rfl, rfl, by decide +kernel, rfl, by decide +kernel, by decide +kernel⟩
theorem sc_mark_in : FnScope ["meetings", "team", "meeting"] ["meetings", "team"] (defScope s_mark_in) := ⟨rfl, rfl, rfl, by decide +kernel, rfl, by decide +kernel, by decide +kernel⟩
theorem sc_Table_row_of : FnScope ["self", "team", "meetings"] ["self", "team"] (defScope s_Table_row_of) := ⟨rfl, rfl, rfl, by decide +kernel, rfl, by decide +kernel, by decide +kernel⟩
theorem sc_check_part : FnScope ["marks"] ["marks"] (defScope s_check_part) := ⟨rfl, rfl, rfl, by decide +kernel, rfl, by decide +kernel, by decide +kernel⟩
theorem sc_Word_init : FnScope ["self", "head", "middle", "tail"] ["self", "head", "middle", "tail"] (defScope s_Word_init) := ⟨rfl, rfl, rfl, by decide +kernel, rfl, by decide +kernel, by decide +kernel⟩
theorem sc_Word_least : FnScope ["self"] ["self"] (defScope s_Word_least) := ⟨rfl, rfl, rfl, by decide +kernel, rfl, by decide +kernel, by decide +kernel⟩
theorem sc_check_places : FnScope ["word", "places"] ["word", "places"] (defScope s_check_places) := ⟨rfl, rfl, rfl, by decide +kernel, rfl, by decide +kernel, by decide +kernel⟩
theorem sc_Word_row : FnScope ["self", "places", "between"] ["self", "places"] (defScope s_Word_row) := ⟨rfl, rfl, rfl, by decide +kernel, rfl, by decide +kernel, by decide +kernel⟩
theorem sc_rows_of_others_right : FnScope ["_law_pot_here", "_law_many_here", "_law_made", "_law_rows_now", "_law_parts", "_law_found", "_law_who", "_law_turn", "_law_some"] ["_law_pot_here"] (defScope s_rows_of_others_right) := ⟨rfl, rfl, rfl, by decide +kernel, rfl, by decide +kernel, by decide +kernel⟩
theorem sc_told : FnScope ["_law_call", "_law_told_here", "e"] ["_law_call"] (defScope s_told) := ⟨rfl, rfl, rfl, by decide +kernel, rfl, by decide +kernel, by decide +kernel⟩
theorem sc_refused_right : FnScope ["_law_pot_here", "_law_good", "_law_odd", "_law_some"] ["_law_pot_here"] (defScope s_refused_right) := ⟨rfl, rfl, rfl, by decide +kernel, rfl, by decide +kernel, by decide +kernel⟩
theorem sc_right : FnScope ["_law_pot_here", "_law_some", "_law_more"] ["_law_pot_here"] (defScope s_right) := ⟨rfl, rfl, rfl, by decide +kernel, rfl, by decide +kernel, by decide +kernel⟩
theorem sc_pot : FnScope ["_law_script", "_law_k", "_law_cell"] ["_law_script", "_law_k"] (defScope s_pot) := ⟨rfl, rfl, rfl, by decide +kernel, rfl, by decide +kernel, by decide +kernel⟩
theorem sc_law : FnScope ["_law_script", "_law_k"] ["_law_script"] (defScope s_law) := ⟨rfl, rfl, rfl, by decide +kernel, rfl, by decide +kernel, by decide +kernel⟩
theorem sc_InvalidMarks_init : FnScope ["self", "value"] ["self", "value"] (defScope s_InvalidMarks_init) := ⟨rfl, rfl, rfl, by decide +kernel, rfl, by decide +kernel, by decide +kernel⟩
structure Ad where
  a_draw : Addr
  d_draw : FuncData
  a_pick : Addr
  d_pick : FuncData
  a_marks : Addr
  d_marks : FuncData
  a_stays : Addr
  d_stays : FuncData
  a_is_marks : Addr
  d_is_marks : FuncData
  a_stays_in : Addr
  d_stays_in : FuncData
  a_breaks_in : Addr
  d_breaks_in : FuncData
  a_other : Addr
  d_other : FuncData
  a_row_right : Addr
  d_row_right : FuncData
  a_joined_right : Addr
  d_joined_right : FuncData
  a_many : Addr
  d_many : FuncData
  a_mixed : Addr
  d_mixed : FuncData
  a_day : Addr
  d_day : FuncData
  a_days : Addr
  d_days : FuncData
  a_is_list : Addr
  d_is_list : FuncData
  a_is_integer : Addr
  d_is_integer : FuncData
  a_is_meeting : Addr
  d_is_meeting : FuncData
  a_is_round : Addr
  d_is_round : FuncData
  a_check_rounds : Addr
  d_check_rounds : FuncData
  a_Table_init : Addr
  d_Table_init : FuncData
  a_Table_size : Addr
  d_Table_size : FuncData
  a_is_count : Addr
  d_is_count : FuncData
  a_check_team : Addr
  d_check_team : FuncData
  a_mark_in : Addr
  d_mark_in : FuncData
  a_Table_row_of : Addr
  d_Table_row_of : FuncData
  a_check_part : Addr
  d_check_part : FuncData
  a_Word_init : Addr
  d_Word_init : FuncData
  a_Word_least : Addr
  d_Word_least : FuncData
  a_check_places : Addr
  d_check_places : FuncData
  a_Word_row : Addr
  d_Word_row : FuncData
  a_rows_of_others_right : Addr
  d_rows_of_others_right : FuncData
  a_told : Addr
  d_told : FuncData
  a_refused_right : Addr
  d_refused_right : FuncData
  a_right : Addr
  d_right : FuncData
  a_pot : Addr
  d_pot : FuncData
  a_law : Addr
  d_law : FuncData
  a_InvalidMarks_init : Addr
  d_InvalidMarks_init : FuncData
  c_Word : Addr
  c_Table : Addr
  pa_Table_size : Addr
  pa_Word_least : Addr
  c_InvalidMarks : Addr
  c_LeagueError : Addr
  k_refused_right : Addr
  t_refused_right : Addr
abbrev Ad.tbs (A : Ad) : List PEn := [(A.t_refused_right, some ((("_law_refused_right" : Str) ++ (".<locals>." : Str)) ++ ("<lambda>" : Str)))]
theorem tm_refused_right (A : Ad) : (A.t_refused_right, some ((("_law_refused_right" : Str) ++ (".<locals>." : Str)) ++ ("<lambda>" : Str))) ∈ A.tbs := List.mem_cons_self
structure Txt (w : World) (K : PySem.W.Frag) (mg : Str → Option Value) (base : Heap) (A : Ad) : Prop where
  g_InvalidMarks : mg "InvalidMarks" = some (.ref A.c_InvalidMarks)
  g_LeagueError : mg "LeagueError" = some (.ref A.c_LeagueError)
  ox_InvalidMarks : OexC K A.c_InvalidMarks
  ii_InvalidMarks : PySem.W.findIn K (.ref A.c_InvalidMarks) "__init__" = some (some (.ref A.a_InvalidMarks_init))
  ti_InvalidMarks : PySem.W.typeIn K (.ref A.a_InvalidMarks_init) = some (.type "function")
  no_InvalidMarks_value : PySem.W.findIn K (.ref A.c_InvalidMarks) "value" = some none
  xf_InvalidMarks : XfC K A.c_InvalidMarks
  xc_InvalidMarks : ExcC K A.c_InvalidMarks
  xm_InvalidMarks_InvalidMarks : PySem.W.exmOne K (.ref A.c_InvalidMarks) (.ref A.c_InvalidMarks) = some true
  xk_InvalidMarks_LeagueError : PySem.W.kitOne K (.ref A.c_InvalidMarks) (.ref A.c_LeagueError) = some true
  tb_refused_right : LamX.TabB base mg A.k_refused_right A.t_refused_right
  cd_refused_right : A.d_refused_right.code = .ref A.k_refused_right
  F_draw : Fun K "_law_draw" "_law_draw" s_draw A.a_draw A.d_draw
  b_draw : Binds K A.d_draw ["_law_pot_here", "_law_many_here"] []
  g_draw : mg "_law_draw" = some (.ref A.a_draw)
  F_pick : Fun K "_law_pick" "_law_pick" s_pick A.a_pick A.d_pick
  b_pick : Binds K A.d_pick ["_law_pot_here", "_law_some"] []
  g_pick : mg "_law_pick" = some (.ref A.a_pick)
  F_marks : Fun K "_law_marks" "_law_marks" s_marks A.a_marks A.d_marks
  b_marks : Binds K A.d_marks ["_law_pot_here", "_law_most"] []
  g_marks : mg "_law_marks" = some (.ref A.a_marks)
  F_stays : Fun K "_law_stays" "_law_stays" s_stays A.a_stays A.d_stays
  b_stays : Binds K A.d_stays ["_law_marks_now"] []
  g_stays : mg "_law_stays" = some (.ref A.a_stays)
  F_is_marks : Fun K "is_marks" "is_marks" s_is_marks A.a_is_marks A.d_is_marks
  b_is_marks : Binds K A.d_is_marks ["value"] []
  g_is_marks : mg "is_marks" = some (.ref A.a_is_marks)
  F_stays_in : Fun K "stays_in" "stays_in" s_stays_in A.a_stays_in A.d_stays_in
  b_stays_in : Binds K A.d_stays_in ["marks"] []
  g_stays_in : mg "stays_in" = some (.ref A.a_stays_in)
  F_breaks_in : Fun K "breaks_in" "breaks_in" s_breaks_in A.a_breaks_in A.d_breaks_in
  b_breaks_in : Binds K A.d_breaks_in ["marks"] []
  g_breaks_in : mg "breaks_in" = some (.ref A.a_breaks_in)
  F_other : Fun K "_law_other" "_law_other" s_other A.a_other A.d_other
  b_other : Binds K A.d_other ["_law_marks_now"] []
  g_other : mg "_law_other" = some (.ref A.a_other)
  F_row_right : Fun K "_law_row_right" "_law_row_right" s_row_right A.a_row_right A.d_row_right
  b_row_right : Binds K A.d_row_right ["_law_some"] []
  g_row_right : mg "_law_row_right" = some (.ref A.a_row_right)
  F_joined_right : Fun K "_law_joined_right" "_law_joined_right" s_joined_right A.a_joined_right A.d_joined_right
  b_joined_right : Binds K A.d_joined_right ["_law_some", "_law_more"] []
  g_joined_right : mg "_law_joined_right" = some (.ref A.a_joined_right)
  F_many : Fun K "_law_many" "_law_many" s_many A.a_many A.d_many
  b_many : Binds K A.d_many ["_law_pot_here"] []
  g_many : mg "_law_many" = some (.ref A.a_many)
  F_mixed : Fun K "_law_mixed" "_law_mixed" s_mixed A.a_mixed A.d_mixed
  b_mixed : Binds K A.d_mixed ["_law_pot_here", "_law_some"] []
  g_mixed : mg "_law_mixed" = some (.ref A.a_mixed)
  F_day : Fun K "_law_day" "_law_day" s_day A.a_day A.d_day
  b_day : Binds K A.d_day ["_law_pot_here", "_law_many_here"] []
  g_day : mg "_law_day" = some (.ref A.a_day)
  F_days : Fun K "_law_days" "_law_days" s_days A.a_days A.d_days
  b_days : Binds K A.d_days ["_law_pot_here", "_law_many_here", "_law_most"] []
  g_days : mg "_law_days" = some (.ref A.a_days)
  F_is_list : Fun K "is_list" "is_list" s_is_list A.a_is_list A.d_is_list
  b_is_list : Binds K A.d_is_list ["value"] []
  g_is_list : mg "is_list" = some (.ref A.a_is_list)
  F_is_integer : Fun K "is_integer" "is_integer" s_is_integer A.a_is_integer A.d_is_integer
  b_is_integer : Binds K A.d_is_integer ["value"] []
  g_is_integer : mg "is_integer" = some (.ref A.a_is_integer)
  F_is_meeting : Fun K "_is_meeting" "_is_meeting" s_is_meeting A.a_is_meeting A.d_is_meeting
  b_is_meeting : Binds K A.d_is_meeting ["value"] []
  g_is_meeting : mg "_is_meeting" = some (.ref A.a_is_meeting)
  F_is_round : Fun K "is_round" "is_round" s_is_round A.a_is_round A.d_is_round
  b_is_round : Binds K A.d_is_round ["value"] []
  g_is_round : mg "is_round" = some (.ref A.a_is_round)
  F_check_rounds : Fun K "_check_rounds" "_check_rounds" s_check_rounds A.a_check_rounds A.d_check_rounds
  b_check_rounds : Binds K A.d_check_rounds ["rounds"] []
  g_check_rounds : mg "_check_rounds" = some (.ref A.a_check_rounds)
  F_Table_init : Fun K "__init__" "Table.__init__" s_Table_init A.a_Table_init A.d_Table_init
  b_Table_init : Binds K A.d_Table_init ["self", "rounds"] []
  F_Table_size : Fun K "size" "Table.size" s_Table_size A.a_Table_size A.d_Table_size
  b_Table_size : Binds K A.d_Table_size ["self"] []
  p_Table_size : PropOf K A.c_Table "size" A.pa_Table_size A.a_Table_size
  F_is_count : Fun K "is_count" "is_count" s_is_count A.a_is_count A.d_is_count
  b_is_count : Binds K A.d_is_count ["value"] []
  g_is_count : mg "is_count" = some (.ref A.a_is_count)
  F_check_team : Fun K "check_team" "check_team" s_check_team A.a_check_team A.d_check_team
  b_check_team : Binds K A.d_check_team ["team", "teams"] []
  g_check_team : mg "check_team" = some (.ref A.a_check_team)
  F_mark_in : Fun K "_mark_in" "_mark_in" s_mark_in A.a_mark_in A.d_mark_in
  b_mark_in : Binds K A.d_mark_in ["meetings", "team"] []
  g_mark_in : mg "_mark_in" = some (.ref A.a_mark_in)
  F_Table_row_of : Fun K "row_of" "Table.row_of" s_Table_row_of A.a_Table_row_of A.d_Table_row_of
  b_Table_row_of : Binds K A.d_Table_row_of ["self", "team"] []
  m_Table_row_of : Meth K A.c_Table "row_of" A.a_Table_row_of
  F_check_part : Fun K "_check_part" "_check_part" s_check_part A.a_check_part A.d_check_part
  b_check_part : Binds K A.d_check_part ["marks"] []
  g_check_part : mg "_check_part" = some (.ref A.a_check_part)
  F_Word_init : Fun K "__init__" "Word.__init__" s_Word_init A.a_Word_init A.d_Word_init
  b_Word_init : Binds K A.d_Word_init ["self", "head", "middle", "tail"] []
  F_Word_least : Fun K "least" "Word.least" s_Word_least A.a_Word_least A.d_Word_least
  b_Word_least : Binds K A.d_Word_least ["self"] []
  p_Word_least : PropOf K A.c_Word "least" A.pa_Word_least A.a_Word_least
  F_check_places : Fun K "_check_places" "_check_places" s_check_places A.a_check_places A.d_check_places
  b_check_places : Binds K A.d_check_places ["word", "places"] []
  g_check_places : mg "_check_places" = some (.ref A.a_check_places)
  F_Word_row : Fun K "row" "Word.row" s_Word_row A.a_Word_row A.d_Word_row
  b_Word_row : Binds K A.d_Word_row ["self", "places"] []
  m_Word_row : Meth K A.c_Word "row" A.a_Word_row
  F_rows_of_others_right : Fun K "_law_rows_of_others_right" "_law_rows_of_others_right" s_rows_of_others_right A.a_rows_of_others_right A.d_rows_of_others_right
  b_rows_of_others_right : Binds K A.d_rows_of_others_right ["_law_pot_here"] []
  g_rows_of_others_right : mg "_law_rows_of_others_right" = some (.ref A.a_rows_of_others_right)
  F_told : Fun K "_law_told" "_law_told" s_told A.a_told A.d_told
  b_told : Binds K A.d_told ["_law_call"] []
  g_told : mg "_law_told" = some (.ref A.a_told)
  F_refused_right : Fun K "_law_refused_right" "_law_refused_right" s_refused_right A.a_refused_right A.d_refused_right
  b_refused_right : Binds K A.d_refused_right ["_law_pot_here"] []
  g_refused_right : mg "_law_refused_right" = some (.ref A.a_refused_right)
  F_right : Fun K "_law_right" "_law_right" s_right A.a_right A.d_right
  b_right : Binds K A.d_right ["_law_pot_here"] []
  g_right : mg "_law_right" = some (.ref A.a_right)
  F_pot : Fun K "_law_pot" "_law_pot" s_pot A.a_pot A.d_pot
  b_pot : Binds K A.d_pot ["_law_script", "_law_k"] []
  g_pot : mg "_law_pot" = some (.ref A.a_pot)
  F_law : Fun K "law" "law" s_law A.a_law A.d_law
  b_law : Binds K A.d_law ["_law_script"] []
  g_law : mg "law" = some (.ref A.a_law)
  F_InvalidMarks_init : Fun K "__init__" "InvalidMarks.__init__" s_InvalidMarks_init A.a_InvalidMarks_init A.d_InvalidMarks_init
  b_InvalidMarks_init : Binds K A.d_InvalidMarks_init ["self", "value"] []
  cl_Word : Cls K A.c_Word
  g_Word : mg "Word" = some (.ref A.c_Word)
  mk_Word : Mk K A.c_Word A.a_Word_init
  na_Word__head : NoAttr K A.c_Word "_head"
  na_Word__middle : NoAttr K A.c_Word "_middle"
  na_Word__tail : NoAttr K A.c_Word "_tail"
  cl_Table : Cls K A.c_Table
  g_Table : mg "Table" = some (.ref A.c_Table)
  mk_Table : Mk K A.c_Table A.a_Table_init
  na_Table__rounds : NoAttr K A.c_Table "_rounds"
  z_abs : mg "abs" = none
  z_all : mg "all" = none
  z_bool : mg "bool" = none
  z_dict : mg "dict" = none
  z_divmod : mg "divmod" = none
  z_enumerate : mg "enumerate" = none
  z_int : mg "int" = none
  z_isinstance : mg "isinstance" = none
  z_len : mg "len" = none
  z_list : mg "list" = none
  z_max : mg "max" = none
  z_min : mg "min" = none
  z_range : mg "range" = none
  z_repr : mg "repr" = none
  z_sorted : mg "sorted" = none
  z_str : mg "str" = none
  z_sum : mg "sum" = none
  z_tuple : mg "tuple" = none
  z_zip : mg "zip" = none
  c_FEWEST_MEETINGS : ∃ u, mg "FEWEST_MEETINGS" = some u ∧ RelV (.int 2) u
  c_MOST_MARKS : ∃ u, mg "MOST_MARKS" = some u ∧ RelV (.int 4) u
  c_MOST_MEETINGS : ∃ u, mg "MOST_MEETINGS" = some u ∧ RelV (.int 12) u
  c_MOST_PLACES : ∃ u, mg "MOST_PLACES" = some u ∧ RelV (.int 2000) u
  c_MOST_ROUNDS : ∃ u, mg "MOST_ROUNDS" = some u ∧ RelV (.int 60) u
  k_breaks_in_marks : KBn K A.d_breaks_in ["marks"] 0 ["marks"] (fun us ws => us ++ [ws.getD 0 .none]) (fun us ws => us ++ [ws.getD 0 .non])
  k_stays_in_marks : KBn K A.d_stays_in ["marks"] 0 ["marks"] (fun us ws => us ++ [ws.getD 0 .none]) (fun us ws => us ++ [ws.getD 0 .non])
abbrev ns_Word : List Str := ["_head", "_middle", "_tail"]
theorem nd_Word : ns_Word.Nodup := by decide +kernel
abbrev eWord (A : Ad) (x : (Str × Str × Str)) : D := .ins A.c_Word ns_Word [(D.v (V.str x.1)), (D.v (V.str x.2.1)), (D.v (V.str x.2.2))]
abbrev ns_Table : List Str := ["_rounds"]
theorem nd_Table : ns_Table.Nodup := by decide +kernel
abbrev eTable (A : Ad) (x : (List (List (Int × Int)))) : D := .ins A.c_Table ns_Table [(D.lst (x.map (fun y_ : (List (Int × Int)) => (D.lst (y_.map (fun y_ : (Int × Int) => (D.tup [(D.v (V.int y_.1)), (D.v (V.int y_.2))])))))))]
theorem ok_InvalidMarks_init {P : Program} {w : World} {K : PySem.W.Frag} {mg : Str → Option Value} {base : Heap} {A : Ad} (T : Txt w K mg base A) : FnOk P w K mg base CX0 1 A.a_InvalidMarks_init A.d_InvalidMarks_init ["self", "value"] (sp_exi A.c_InvalidMarks "value") := by
  refine T.F_InvalidMarks_init.ok sc_InvalidMarks_init (fun vs H Q E h => ?_) (fun cdv A_ outer s_ H_0 vs Q E hr h => ?_)
  · obtain ⟨a, y, rfl, _⟩ := h
    rfl
  · obtain ⟨a, y, rfl, ha, hQ⟩ := h
    refine ⟨_, pss_one (ps_ost (pv 0) (pv 1)), ?_⟩
    exact ⟨_, rfl, _, rfl, a, A.c_InvalidMarks, rfl, T.ox_InvalidMarks, T.no_InvalidMarks_value, .inl ⟨ha, fun dx n1 n2 => hQ dx n1 n2⟩⟩
/-! ### draws: any number below the size -/
def M_draw (x_size : Int) (KM : Int → Prop) : Prop := (0 < x_size ∧ x_size < 1073741824) ∧ ∀ d : Int, 0 ≤ d → d < x_size → KM d
def sp_draw (A : Ad) : Sp := fun vs H Q _ => ∃ (ms : List Addr) (ap : Addr) (x_size : Int) (KM : Int → Prop), vs = [.ref ap, V.int x_size] ∧ Wd ms [(ap, none)] [] H H ∧ M_draw x_size KM ∧ ∀ (r : Int) (u : V) (H1 : Hp), KM r → Ret [(ap, none)] H H1 → rep ms H1 (D.v (V.int r)) u → Q u H1
theorem ret_pot1 {H : Hp} {ap : Addr} {o : HO} {i j : Int} (ha : H ap = some o) (hj : j.natAbs < 4294967296) : Ret [(ap, none)] H (upd H ap (.lst [.int i, .int j])) := by
  refine ⟨fun a u n h => ?_, fun a h => ?_, fun a h => ?_⟩
  · rw [upd_ne (fun z => n (by rw [z]; exact List.mem_singleton.mpr rfl))]
    exact h
  · rw [List.mem_singleton.mp h]
    exact (⟨i, j, upd_same, hj⟩ : PotH _ _)
  · by_cases e : a = ap
    · rw [e, upd_same]
      exact fun z => nomatch z
    · rw [upd_ne e]
      exact h
theorem ret_pot2 {H : Hp} {ap p : Addr} {o u : HO} {i j : Int} (ha : H ap = some o) (np : H p = none) (hj : j.natAbs < 4294967296) : Ret [(ap, none)] H (upd (upd H p u) ap (.lst [.int i, .int j])) := by
  have e := Rx.Ext.new (o := u) np
  have h2 := ret_pot1 (i := i) (j := j) (e.keep ha) hj
  exact ⟨fun a w n h => h2.kp a w n (e.keep h), h2.pot, fun a h => h2.grow a (e.grow a h)⟩
theorem ok_draw {P : Program} {w : World} {K : PySem.W.Frag} {mg : Str → Option Value} {base : Heap} {A : Ad} (T : Txt w K mg base A) : FnOk P w K mg base CX0 1 A.a_draw A.d_draw ["_law_pot_here", "_law_many_here"] (sp_draw A) := by
  refine T.F_draw.ok sc_draw (fun vs H Q E h => ?_) (fun cdv A_ outer s_ H_0 vs Q E hr h => ?_)
  · obtain ⟨ms, ap, x_size, KM, rfl, _⟩ := h
    rfl
  · obtain ⟨ms, ap, n, KM, rfl, hW, ⟨⟨n0, n1⟩, hM⟩, hQ⟩ := h
    obtain ⟨i, j, hp, hj⟩ : PotH _ ap := hW.pot (ap, none) (List.mem_singleton.mpr rfl)
    refine ⟨_, pss_cons (ps_if (pt_cmpR op_gt (pe_ix ix_list (pv 0) pe_int (fun _ _ => rfl)) pe_int (nomark _))
        (pss_cons (ps_asg (pe_callB call_divmod (by rfl) T.z_divmod (by decide +kernel) (pa_cons (pe_ix ix_list (pv 0) pe_int (fun _ _ => rfl)) (pa_cons (pv 1) pa_nil)))
            (pg_tup rfl (pgs_cons (pg_sub (pv 0) pe_int set_list) (pgs_cons (pg_name (i := 2) sc_draw.nd rfl (.inl rfl)) pgs_nil)))) (pss_one (ps_ret (pv 2)))) pss_nil)
      (pss_cons (ps_asg (pe_op op_mod (pe_callTy call_int1 (by rfl) T.z_int (by decide +kernel) (pa_cons (pe_op op_add (pe_op op_mul (pe_ix ix_list (pv 0) pe_int (fun _ _ => rfl)) pe_int) pe_int) pa_nil)) pe_int) (pg_sub (pv 0) pe_int set_list))
      (pss_one (ps_ret (pe_op op_mod (pe_callTy call_int1 (by rfl) T.z_int (by decide +kernel) (pa_cons (pe_op op_fdiv (pe_op op_mod (pe_callTy call_int1 (by rfl) T.z_int (by decide +kernel)
          (pa_cons (pe_op op_mul (pe_ix ix_list (pv 0) pe_int (fun _ _ => rfl)) (pe_ix ix_list (pv 0) pe_int (fun _ _ => rfl))) pa_nil)) pe_int) pe_int) pa_nil)) (pv 1))))), ?_⟩
    refine ⟨_, rfl, ap, _, 0, .int i, rfl, rfl, .inl (.inl hp), rfl, _, _, rfl, rfl, _, rfl, ?_⟩
    refine ite2 (fun c => ?_) (fun c => ?_)
    · refine ⟨_, rfl, ap, _, 0, .int i, rfl, rfl, .inl (.inl hp), rfl, _, rfl, _, _, rfl, ⟨n0, n1⟩, fun p np => ?_⟩
      have npa : ap ≠ p := ne_of_none hp np
      refine ⟨p, _, rfl, .inl (.inl upd_same), rfl, _, _, rfl, _, rfl, ap, _, 0, 0, rfl, rfl, (by rw [upd_ne npa]; exact hp), rfl, _, _, rfl, rfl, _, rfl, ?_⟩
      exact hQ (i % n) _ _ (hM _ (Int.emod_nonneg _ (by omega)) (Int.emod_lt_of_pos _ n0)) (ret_pot2 hp np hj) rep_v
    · refine ⟨_, rfl, ap, _, 1, .int j, rfl, rfl, .inl (.inl hp), rfl, _, _, rfl, rfl, .inr ⟨by decide, by decide⟩, _, _, rfl, rfl, .inl ⟨_, rfl, _, _, rfl, rfl, (by show (0 : Int) < 2147483563; decide), ?_⟩⟩
      refine ⟨_, rfl, ap, _, 1, 1, rfl, rfl, hp, rfl, ?_⟩
      refine ⟨_, rfl, ap, _, 1, _, rfl, rfl, .inl (.inl upd_same), rfl, _, rfl, ap, _, 1, _, rfl, rfl, .inl (.inl upd_same), rfl, _, _, rfl, rfl, .inl ⟨?_, ?_⟩, .inl ⟨_, rfl, _, _, rfl, rfl, (by show (0 : Int) < 2147483477; decide), _, _, rfl, rfl, ⟨by decide, by decide⟩, .inl ⟨_, rfl, _, rfl, _, _, rfl, rfl, n0, ?_⟩⟩⟩
      · omega
      · omega
      · refine hQ _ _ _ (hM _ (Int.emod_nonneg _ (by omega)) (Int.emod_lt_of_pos _ n0)) (ret_pot1 (i := i) hp ?_) rep_v
        omega

def M_pick (x_some : (List Int)) (KM : Int → Prop) : Prop :=
  (M_draw (x_some.length : Int) fun r1 => (0 ≤ r1 ∧ ∃ g7 : Int.toNat r1 < x_some.length, ∀ x9, x9 = x_some[Int.toNat r1]'g7 → (KM x9)))
def sp_pick (A : Ad) : Sp := fun vs H Q _ => ∃ (ms : List Addr) (ap : Addr) (v_some : V) (x_some : (List Int)) (KM : Int → Prop), vs = [.ref ap, v_some] ∧ Wd ms [(ap, none)] [] H H ∧ rep ms H (D.lst (x_some.map (fun y_ : Int => (D.v (V.int y_))))) v_some ∧ M_pick x_some KM ∧ ∀ (r : Int) (u : V) (H1 : Hp), KM r → Ret [(ap, none)] H H1 → rep ms H1 (D.v (V.int r)) u → Q u H1
set_option maxHeartbeats 16000000 in
theorem ok_pick {P : Program} {w : World} {K : PySem.W.Frag} {mg : Str → Option Value} {base : Heap} {A : Ad} (T : Txt w K mg base A) : FnOk P w K mg base CX0 2 A.a_pick A.d_pick ["_law_pot_here", "_law_some"] (sp_pick A) := by
  refine T.F_pick.ok sc_pick (fun vs H Q E h => ?_) (fun cdv A_ outer s_ H_0 vs Q E hr h => ?_)
  · obtain ⟨ms, ap, v_some, x_some, KM, rfl, _⟩ := h
    rfl
  · obtain ⟨ms, ap, v_some, x_some, KM, rfl, hW, h_some, hM, hQ⟩ := h
    unfold M_pick at hM
    refine ⟨_, (pss_one (ps_ret (pe_ix (ix_listK (K := K) rfl) (pv 1) (pe_call (ok_draw T) (hr.mono (by decide)) (by rfl) T.g_draw T.F_draw.kp T.b_draw .nil pass0 (pa_cons (pv 0) (pa_cons (pe_callB (call_lenK (K := K) rfl) (by rfl) T.z_len PySem.boot_len (pa_cons (pv 1) pa_nil)) pa_nil))) (fun _ _ => rfl)))), ?_⟩
    refine ⟨_, rfl, ?_⟩
    refine ⟨_, rfl, ?_⟩
    refine ⟨_, rfl, ?_⟩
    apply rep_lenL (e := (fun y_ : Int => (D.v (V.int y_)))) (xs := x_some) h_some
    refine ⟨ms, ap, (x_some.length : Int), _, rfl, hW.enterP, hM, fun r1 u4 H5 hM e3 h2 => ?_⟩
    replace h_some := rep_ret hW e3 h_some
    replace hW := hW.retP e3
    obtain rfl := of_v h2
    obtain ⟨g6, g7, hM⟩ := hM
    apply rep_ixL (e := (fun y_ : Int => (D.v (V.int y_)))) (xs := x_some) h_some g6 g7
    intro u10 h8
    obtain ⟨x9, x9e⟩ : ∃ x_, x_ = x_some[Int.toNat r1]'g7 := ⟨_, rfl⟩
    rw [← x9e] at h8
    replace hM := hM x9 x9e
    obtain rfl := of_v h8
    exact hQ x9 _ _ hM hW.out rep_v
def M_pick_ps (x_some : Str) (KM : Str → Prop) : Prop :=
  (x_some.length ≤ sizeLine ∧ (M_draw (x_some.length : Int) fun r2 => (x_some.length ≤ sizeLine ∧ ∃ c8, atI x_some.cps.toList r2 = some c8 ∧ (KM (Str.mk #[c8])))))
def sp_pick_ps (A : Ad) : Sp := fun vs H Q _ => ∃ (ms : List Addr) (ap : Addr) (x_some : Str) (KM : Str → Prop), vs = [.ref ap, V.str x_some] ∧ Wd ms [(ap, none)] [] H H ∧ M_pick_ps x_some KM ∧ ∀ (r : Str) (u : V) (H1 : Hp), KM r → Ret [(ap, none)] H H1 → rep ms H1 (D.v (V.str r)) u → Q u H1
set_option maxHeartbeats 16000000 in
theorem ok_pick_ps {P : Program} {w : World} {K : PySem.W.Frag} {mg : Str → Option Value} {base : Heap} {A : Ad} (T : Txt w K mg base A) : FnOk P w K mg base CX0 2 A.a_pick A.d_pick ["_law_pot_here", "_law_some"] (sp_pick_ps A) := by
  refine T.F_pick.ok sc_pick (fun vs H Q E h => ?_) (fun cdv A_ outer s_ H_0 vs Q E hr h => ?_)
  · obtain ⟨ms, ap, x_some, KM, rfl, _⟩ := h
    rfl
  · obtain ⟨ms, ap, x_some, KM, rfl, hW, hM, hQ⟩ := h
    unfold M_pick_ps at hM
    refine ⟨_, (pss_one (ps_ret (pe_ix ix_str (pv 1) (pe_call (ok_draw T) (hr.mono (by decide)) (by rfl) T.g_draw T.F_draw.kp T.b_draw .nil pass0 (pa_cons (pv 0) (pa_cons (pe_callB call_len_str (by rfl) T.z_len PySem.boot_len (pa_cons (pv 1) pa_nil)) pa_nil))) (fun _ _ => rfl)))), ?_⟩
    refine ⟨_, rfl, ?_⟩
    refine ⟨_, rfl, ?_⟩
    refine ⟨_, rfl, ?_⟩
    obtain ⟨g1, hM⟩ := hM
    refine ⟨_, rfl, g1, ?_⟩
    refine ⟨ms, ap, (x_some.length : Int), _, rfl, hW.enterP, hM, fun r2 u5 H6 hM e4 h3 => ?_⟩
    replace hW := hW.retP e4
    obtain rfl := of_v h3
    obtain ⟨g7, hM⟩ := hM
    obtain ⟨c8, c8h, hM⟩ := hM
    refine ⟨_, _, _, rfl, rfl, g7, c8h, ?_⟩
    exact hQ (Str.mk #[c8]) _ _ hM hW.out rep_v
def M_marks (x_most : Int) (KM : Str → Prop) : Prop :=
  (M_draw (4 : Int) fun r1 => (M_draw x_most fun r6 => (if (decide (V.int r1 = V.int (0 : Int))) = true then (M_pick_ps ("ha" : Str) fun r11 => (MulOk r11 ((1 : Int) + r6) ∧ (KM (Txt.mul r11 ((1 : Int) + r6))))) else (if (decide (V.int r1 = V.int (1 : Int))) = true then (MulOk ("ha" : Str) ((1 : Int) + r6) ∧ (M_draw (2 : Int) fun r18 => ((Txt.mul ("ha" : Str) ((1 : Int) + r6)).length ≤ sizeLine ∧ ((cutS (Txt.mul ("ha" : Str) ((1 : Int) + r6)) (some r18) none).length ≤ sizeLine ∧ (KM (cutS (cutS (Txt.mul ("ha" : Str) ((1 : Int) + r6)) (some r18) none) none (some ((1 : Int) + r6)))))))) else ((rangeI (0 : Int) ((1 : Int) + r6)).length < 100000 ∧ mapC (fun (x36 : Int) (k29 : Str → Prop) => (M_pick_ps ("ha" : Str) fun r42 => (k29 r42))) (rangeI (0 : Int) ((1 : Int) + r6)) [] fun ys52 => ((ys52.map (·.length)).sum + ys52.length * ("" : Str).length ≤ 16777216 ∧ (KM (Txt.join ("" : Str) ys52))))))))
def sp_marks (A : Ad) : Sp := fun vs H Q _ => ∃ (ms : List Addr) (ap : Addr) (x_most : Int) (KM : Str → Prop), vs = [.ref ap, V.int x_most] ∧ Wd ms [(ap, none)] [] H H ∧ M_marks x_most KM ∧ ∀ (r : Str) (u : V) (H1 : Hp), KM r → Ret [(ap, none)] H H1 → rep ms H1 (D.v (V.str r)) u → Q u H1
set_option maxHeartbeats 16000000 in
theorem ok_marks {P : Program} {w : World} {K : PySem.W.Frag} {mg : Str → Option Value} {base : Heap} {A : Ad} (T : Txt w K mg base A) : FnOk P w K mg base CX0 3 A.a_marks A.d_marks ["_law_pot_here", "_law_most"] (sp_marks A) := by
  refine T.F_marks.ok sc_marks (fun vs H Q E h => ?_) (fun cdv A_ outer s_ H_0 vs Q E hr h => ?_)
  · obtain ⟨ms, ap, x_most, KM, rfl, _⟩ := h
    rfl
  · obtain ⟨ms, ap, x_most, KM, rfl, hW, hM, hQ⟩ := h
    unfold M_marks at hM
    refine ⟨_, (pss_cons (ps_par (i := 2) (j := 3) (by rfl) sc_marks.nd rfl rfl (by decide) rfl rfl (pa_cons (pe_call (ok_draw T) (hr.mono (by decide)) (by rfl) T.g_draw T.F_draw.kp T.b_draw .nil pass0 (pa_cons (pv 0) (pa_cons pe_int pa_nil))) (pa_cons (pe_op op_add pe_int (pe_call (ok_draw T) (hr.mono (by decide)) (by rfl) T.g_draw T.F_draw.kp T.b_draw .nil pass0 (pa_cons (pv 0) (pa_cons (pv 1) pa_nil)))) pa_nil)) (by rfl)) (pss_cons (ps_if (pt_cmpR op_eq (pv 2) pe_int (nomark _)) (pss_one (ps_ret (pe_op op_mulS (pe_call (ok_pick_ps T) (hr.mono (by decide)) (by rfl) T.g_pick T.F_pick.kp T.b_pick .nil pass0 (pa_cons (pv 0) (pa_cons pe_str pa_nil))) (pv 3)))) pss_nil) (pss_cons (ps_if (pt_cmpR op_eq (pv 2) pe_int (nomark _)) (pss_one (ps_ret (pe_slice sl_str (pe_slice sl_str (pe_op op_mulS pe_str (pv 3)) (po_some (pe_call (ok_draw T) (hr.mono (by decide)) (by rfl) T.g_draw T.F_draw.kp T.b_draw .nil pass0 (pa_cons (pv 0) (pa_cons pe_int pa_nil)))) po_none) po_none (po_some (pv 3))))) pss_nil) (pss_one (ps_ret (pe_join pe_str (pe_lc (own := [("_law_turn", 4)]) (g := gName 4) rfl sc_marks.nd (pi_rangeW1 (by rfl) T.z_range (pa_cons (pv 3) pa_nil)) (blkOk_by (N := ["_law_pot_here", "_law_most", "_law_way", "_law_long", "_law_turn"]) (sc := defScope s_marks) (by decide +kernel)) (fun _ _ _ _ _ => pg_name (i := 4) sc_marks.nd rfl (by first | exact Or.inl rfl | exact Or.inr rfl)) (fun _ _ _ _ _ => pts_nil) (fun _ _ _ _ _ => (pe_call (ok_pick_ps T) (hr.mono (by decide)) (by rfl) T.g_pick T.F_pick.kp T.b_pick .nil pass0 (pa_cons (pv 0) (pa_cons pe_str pa_nil))))))))))), ?_⟩
    refine ⟨_, rfl, ?_⟩
    refine ⟨ms, ap, (4 : Int), _, rfl, hW.enterP, hM, fun r1 u4 H5 hM e3 h2 => ?_⟩
    replace hW := hW.retP e3
    obtain rfl := of_v h2
    refine ⟨_, rfl, ?_⟩
    refine ⟨_, rfl, ?_⟩
    refine ⟨ms, ap, x_most, _, rfl, hW.enterP, hM, fun r6 u9 H10 hM e8 h7 => ?_⟩
    replace hW := hW.retP e8
    obtain rfl := of_v h7
    refine ⟨_, _, rfl, rfl, ?_⟩
    refine ⟨_, _, rfl, ?_⟩
    refine ⟨_, rfl, ?_⟩
    refine ⟨rfl, ?_⟩
    refine ⟨_, rfl, ?_⟩
    refine ite3 hM (fun hM => ?_) (fun hM => ?_)
    · skip
      refine ⟨_, rfl, ?_⟩
      refine ⟨ms, ap, ("ha" : Str), _, rfl, hW.enterP, hM, fun r11 u14 H15 hM e13 h12 => ?_⟩
      replace hW := hW.retP e13
      obtain rfl := of_v h12
      refine ⟨_, rfl, ?_⟩
      obtain ⟨g16, hM⟩ := hM
      refine ⟨_, _, rfl, rfl, g16, ?_⟩
      exact hQ (Txt.mul r11 ((1 : Int) + r6)) _ _ hM hW.out rep_v
    · skip
      refine ⟨_, rfl, ?_⟩
      refine ⟨rfl, ?_⟩
      refine ⟨_, rfl, ?_⟩
      refine ite3 hM (fun hM => ?_) (fun hM => ?_)
      · skip
        refine ⟨_, rfl, ?_⟩
        obtain ⟨g17, hM⟩ := hM
        refine ⟨_, _, rfl, rfl, g17, ?_⟩
        refine ⟨_, rfl, ?_⟩
        refine ⟨ms, ap, (2 : Int), _, rfl, hW.enterP, hM, fun r18 u21 H22 hM e20 h19 => ?_⟩
        replace hW := hW.retP e20
        obtain rfl := of_v h19
        refine ⟨_, rfl, ?_⟩
        obtain ⟨g23, hM⟩ := hM
        refine ⟨_, rfl, g23, ?_⟩
        refine ⟨_, rfl, ?_⟩
        refine ⟨_, rfl, ?_⟩
        obtain ⟨g24, hM⟩ := hM
        refine ⟨_, rfl, g24, ?_⟩
        exact hQ (cutS (cutS (Txt.mul ("ha" : Str) ((1 : Int) + r6)) (some r18) none) none (some ((1 : Int) + r6))) _ _ hM hW.out rep_v
      · skip
        refine ⟨⟨_, rfl⟩, ?_⟩
        refine ⟨_, rfl, ?_⟩
        refine ⟨_, rfl, ?_⟩
        refine fun L25 nl26 => ?_
        have nm40 := nm_new hW nl26
        refine lc_rangeG (L := L25) (fun n_ ys_ h_ => Wd (L25 :: ms) [(ap, none)] [] H_0 h_ ∧ Keep (L25 :: ms) H10 h_ ∧ MutO (L25 :: ms) [(ap, none)] H_0 h_ L25 (D.lst (ys_.map (fun y_ : Str => (D.v (V.str y_))))) ∧ ys_.length ≤ n_) (lo := (0 : Int)) (hi := ((1 : Int) + r6)) (N := Int.toNat ((1 : Int) + r6)) (by simp) hM ⟨wd_cell hW nl26, keep_cell nl26 Keep.refl, mo_newL (ds := []) hW nl26 repL_nil, Nat.le_refl _⟩ ?_ ?_
        · skip
          rintro x36  n27 ys28 k29 H41 hn ⟨hW, hk30, mu31, ln32⟩ hM Nx35 hN33
          refine ⟨rfl, ?_⟩
          refine tyes_of ?_
          refine ⟨_, rfl, ?_⟩
          refine ⟨(L25 :: ms), ap, ("ha" : Str), _, rfl, hW.enterP, hM, fun r42 u45 H46 hM e44 h43 => ?_⟩
          replace hk30 := keep_ret hW e44 hk30
          replace mu31 := mo_ret hW e44 mu31
          replace hW := hW.retP e44
          obtain rfl := of_v h43
          refine mo_end mu31 hn (by rw [List.length_map]; exact ln32) fun vs47 hr48 => ?_
          have mk50 := mo_setL mu31 (repL_snoc (e := (fun y_ : Str => (D.v (V.str y_)))) (xs := ys28) (y := r42) hr48 rep_v)
          replace hk30 := keep_put (o := .lst (vs47 ++ [V.str r42])) mu31.im hk30
          replace hW := wd_put (o := .lst (vs47 ++ [V.str r42])) hW mu31
          replace mu31 := mk50
          generalize upd H46 L25 (.lst (vs47 ++ [V.str r42])) = H51 at *
          replace mu31 : MutO (L25 :: ms) [(ap, none)] H_0 H51 L25 (D.lst ((ys28 ++ [r42]).map (fun y_ : Str => (D.v (V.str y_))))) := mu31
          clear mk50
          exact hN33 r42 _ hM ⟨hW, hk30, mu31, by rw [List.length_append]; exact Nat.add_le_add_right ln32 1⟩
        · skip
          rintro n27 ys52 H53 hM ⟨hW, hk30, mu31, ln32⟩
          clear hk30 ln32
          have h54 := mo_rep_dr dr_here nm40 mu31
          replace hW := wd_dr dr_here mu31.hp hW
          clear mu31
          obtain ⟨g55, hM⟩ := hM
          apply rep_join (a := ("" : Str)) (ys := ys52) h54 g55
          exact hQ (Txt.join ("" : Str) ys52) _ _ hM hW.out rep_v
def M_stays (x_marks_now : Str) (KM : (List Int) → Prop) : Prop :=
  (x_marks_now.length ≤ sizeLine ∧ ((rangeI (1 : Int) (x_marks_now.length : Int)).length < 100000 ∧ filC (fun (x19 : Int) (k12 : Option Int → Prop) => (x_marks_now.length ≤ sizeLine ∧ ∃ c26, atI x_marks_now.cps.toList x19 = some c26 ∧ (x_marks_now.length ≤ sizeLine ∧ ∃ c28, atI x_marks_now.cps.toList (x19 - (1 : Int)) = some c28 ∧ (if (!(decide (V.str (Str.mk #[c26]) = V.str (Str.mk #[c28])))) = true then (k12 (some x19)) else (k12 none))))) (rangeI (1 : Int) (x_marks_now.length : Int)) [] fun ys34 => (([(0 : Int)] : List Int).length + ys34.length ≤ sizeLine ∧ (x_marks_now.length ≤ sizeLine ∧ ((([(0 : Int)] : List Int) ++ ys34).length + ([(x_marks_now.length : Int)] : List Int).length ≤ sizeLine ∧ ((rangeI (0 : Int) ((((([(0 : Int)] : List Int) ++ ys34) ++ ([(x_marks_now.length : Int)] : List Int)).length : Int) - (1 : Int))).length < 100000 ∧ mapC (fun (x65 : Int) (k58 : Int → Prop) => (0 ≤ (x65 + (1 : Int)) ∧ ∃ g72 : Int.toNat (x65 + (1 : Int)) < ((([(0 : Int)] : List Int) ++ ys34) ++ ([(x_marks_now.length : Int)] : List Int)).length, ∀ x74, x74 = ((([(0 : Int)] : List Int) ++ ys34) ++ ([(x_marks_now.length : Int)] : List Int))[Int.toNat (x65 + (1 : Int))]'g72 → (0 ≤ x65 ∧ ∃ g77 : Int.toNat x65 < ((([(0 : Int)] : List Int) ++ ys34) ++ ([(x_marks_now.length : Int)] : List Int)).length, ∀ x79, x79 = ((([(0 : Int)] : List Int) ++ ys34) ++ ([(x_marks_now.length : Int)] : List Int))[Int.toNat x65]'g77 → (k58 (x74 - x79))))) (rangeI (0 : Int) ((((([(0 : Int)] : List Int) ++ ys34) ++ ([(x_marks_now.length : Int)] : List Int)).length : Int) - (1 : Int))) [] fun ys86 => (KM ys86)))))))
def sp_stays (A : Ad) : Sp := fun vs H Q _ => ∃ (ms : List Addr) (x_marks_now : Str) (KM : (List Int) → Prop), vs = [V.str x_marks_now] ∧ Wd ms [] [] H H ∧ M_stays x_marks_now KM ∧ ∀ (r : (List Int)) (u : V) (H1 : Hp), KM r → Ret [] H H1 → rep ms H1 (D.lst (r.map (fun y_ : Int => (D.v (V.int y_))))) u → Q u H1
set_option maxHeartbeats 16000000 in
theorem ok_stays {P : Program} {w : World} {K : PySem.W.Frag} {mg : Str → Option Value} {base : Heap} {A : Ad} (T : Txt w K mg base A) : FnOk P w K mg base CX0 1 A.a_stays A.d_stays ["_law_marks_now"] (sp_stays A) := by
  refine T.F_stays.ok sc_stays (fun vs H Q E h => ?_) (fun cdv A_ outer s_ H_0 vs Q E hr h => ?_)
  · obtain ⟨ms, x_marks_now, KM, rfl, _⟩ := h
    rfl
  · obtain ⟨ms, x_marks_now, KM, rfl, hW, hM, hQ⟩ := h
    unfold M_stays at hM
    refine ⟨_, (pss_cons (ps_set (i := 1) sc_stays.nd rfl (by first | exact Or.inl rfl | exact Or.inr rfl) (pe_op op_cat (pe_op op_cat (pe_lst (pa_cons pe_int pa_nil)) (pe_lc (own := [("_law_at", 2)]) (g := gName 2) rfl sc_stays.nd (pi_rangeW2 (by rfl) T.z_range (pa_cons pe_int (pa_cons (pe_callB call_len_str (by rfl) T.z_len PySem.boot_len (pa_cons (pv 0) pa_nil)) pa_nil))) (blkOk_by (N := ["_law_marks_now", "_law_cuts", "_law_at"]) (sc := defScope s_stays) (by decide +kernel)) (fun _ _ _ _ _ => pg_name (i := 2) sc_stays.nd rfl (by first | exact Or.inl rfl | exact Or.inr rfl)) (fun _ _ _ _ _ => (pts_one (pt_cmpR op_ne (pe_ix ix_str (pv 0) (pv 2) (fun _ _ => rfl)) (pe_ix ix_str (pv 0) (pe_op op_sub (pv 2) pe_int) (fun _ _ => rfl)) (nomark _)))) (fun _ _ _ _ _ => (pv 2)))) (pe_lst (pa_cons (pe_callB call_len_str (by rfl) T.z_len PySem.boot_len (pa_cons (pv 0) pa_nil)) pa_nil)))) (pss_one (ps_ret (pe_lc (own := [("_law_at", 2)]) (g := gName 2) rfl sc_stays.nd (pi_rangeW1 (by rfl) T.z_range (pa_cons (pe_op op_sub (pe_callB (call_lenK (K := K) rfl) (by rfl) T.z_len PySem.boot_len (pa_cons (pv 1) pa_nil)) pe_int) pa_nil)) (blkOk_by (N := ["_law_marks_now", "_law_cuts", "_law_at"]) (sc := defScope s_stays) (by decide +kernel)) (fun _ _ _ _ _ => pg_name (i := 2) sc_stays.nd rfl (by first | exact Or.inl rfl | exact Or.inr rfl)) (fun _ _ _ _ _ => pts_nil) (fun _ _ _ _ _ => (pe_op op_sub (pe_ix (ix_listK (K := K) rfl) (pv 1) (pe_op op_add (pv 2) pe_int) (fun _ _ => rfl)) (pe_ix (ix_listK (K := K) rfl) (pv 1) (pv 2) (fun _ _ => rfl)))))))), ?_⟩
    refine ⟨(by show 1 ≤ sizeLine; decide), ?_⟩
    intro p1 n5
    have e2 := Rx.Ext.new (H := H_0) (o := (HO.lst [V.int (0 : Int)])) n5
    have hp3 : upd H_0 p1 (HO.lst [V.int (0 : Int)]) p1 = some (HO.lst [V.int (0 : Int)]) := upd_same
    generalize upd H_0 p1 (HO.lst [V.int (0 : Int)]) = H6 at e2 hp3 ⊢
    have h4 : rep ms H6 (D.lst (([(0 : Int)] : List Int).map (fun y_ : Int => (D.v (V.int y_))))) (.ref p1) := rep_lst_mk hW n5 e2 hp3 (repL_cons rep_v repL_nil)
    replace hW := hW.ret0 e2
    refine ⟨_, rfl, ?_⟩
    obtain ⟨g7, hM⟩ := hM
    refine ⟨_, rfl, g7, ?_⟩
    refine ⟨_, _, rfl, ?_⟩
    refine fun L8 nl9 => ?_
    have nm23 := nm_new hW nl9
    refine lf_rangeG (L := L8) (fun n_ ys_ h_ => Wd (L8 :: ms) [] [] H_0 h_ ∧ Keep (L8 :: ms) H6 h_ ∧ MutO (L8 :: ms) [] H_0 h_ L8 (D.lst (ys_.map (fun y_ : Int => (D.v (V.int y_))))) ∧ ys_.length ≤ n_) (lo := (1 : Int)) (hi := (x_marks_now.length : Int)) (N := Int.toNat ((x_marks_now.length : Int) - (1 : Int))) (by simp) hM ⟨wd_cell hW nl9, keep_cell nl9 Keep.refl, mo_newL (ds := []) hW nl9 repL_nil, Nat.le_refl _⟩ ?_ ?_
    · skip
      rintro x19  n10 ys11 k12 H24 hn ⟨hW, hk13, mu14, ln15⟩ hM Nx18 hN16 hNn17
      replace h4 := rep_keep hk13 (rep_new nl9 h4)
      refine ⟨rfl, ?_⟩
      refine ⟨_, rfl, ?_⟩
      refine ⟨_, rfl, ?_⟩
      obtain ⟨g25, hM⟩ := hM
      obtain ⟨c26, c26h, hM⟩ := hM
      refine ⟨_, _, _, rfl, rfl, g25, c26h, ?_⟩
      refine ⟨_, rfl, ?_⟩
      refine ⟨_, rfl, ?_⟩
      refine ⟨_, _, rfl, rfl, ?_⟩
      obtain ⟨g27, hM⟩ := hM
      obtain ⟨c28, c28h, hM⟩ := hM
      refine ⟨_, _, _, rfl, rfl, g27, c28h, ?_⟩
      refine ⟨rfl, ?_⟩
      refine ⟨_, rfl, ?_⟩
      refine ite3 hM (fun hM => ?_) (fun hM => ?_)
      · skip
        refine ⟨_, rfl, ?_⟩
        refine mo_end mu14 hn (by rw [List.length_map]; exact ln15) fun vs29 hr30 => ?_
        have mk32 := mo_setL mu14 (repL_snoc (e := (fun y_ : Int => (D.v (V.int y_)))) (xs := ys11) (y := x19) hr30 rep_v)
        replace h4 := rep_put (o := .lst (vs29 ++ [V.int x19])) mu14.im h4
        replace hk13 := keep_put (o := .lst (vs29 ++ [V.int x19])) mu14.im hk13
        replace hW := wd_put (o := .lst (vs29 ++ [V.int x19])) hW mu14
        replace mu14 := mk32
        generalize upd H24 L8 (.lst (vs29 ++ [V.int x19])) = H33 at *
        replace mu14 : MutO (L8 :: ms) [] H_0 H33 L8 (D.lst ((ys11 ++ [x19]).map (fun y_ : Int => (D.v (V.int y_))))) := mu14
        clear mk32
        exact hN16 x19 _ hM ⟨hW, hk13, mu14, by rw [List.length_append]; exact Nat.add_le_add_right ln15 1⟩
      · skip
        exact hNn17 _ hM ⟨hW, hk13, mu14, Nat.le_succ_of_le ln15⟩
    · skip
      rintro n10 ys34 H35 hM ⟨hW, hk13, mu14, ln15⟩
      replace h4 := rep_keep hk13 (rep_new nl9 h4)
      clear hk13 ln15
      have h36 := mo_rep_dr dr_here nm23 mu14
      replace hW := wd_dr dr_here mu14.hp hW
      replace h4 := rep_dr dr_here h4
      clear mu14
      obtain ⟨g37, hM⟩ := hM
      apply rep_cat (xs := ([(0 : Int)] : List Int)) (ys := ys34) (e := (fun y_ : Int => (D.v (V.int y_)))) hW h4 h36 g37
      intro p38 H41 e40 h39
      replace h4 := rep_ext e40 h4
      replace h36 := rep_ext e40 h36
      replace hW := hW.ret0 e40
      refine ⟨_, rfl, ?_⟩
      obtain ⟨g42, hM⟩ := hM
      refine ⟨_, rfl, g42, ?_⟩
      refine ⟨(by show 1 ≤ sizeLine; decide), ?_⟩
      intro p43 n47
      have e44 := Rx.Ext.new (H := H41) (o := (HO.lst [V.int (x_marks_now.length : Int)])) n47
      have hp45 : upd H41 p43 (HO.lst [V.int (x_marks_now.length : Int)]) p43 = some (HO.lst [V.int (x_marks_now.length : Int)]) := upd_same
      generalize upd H41 p43 (HO.lst [V.int (x_marks_now.length : Int)]) = H48 at e44 hp45 ⊢
      have h46 : rep ms H48 (D.lst (([(x_marks_now.length : Int)] : List Int).map (fun y_ : Int => (D.v (V.int y_))))) (.ref p43) := rep_lst_mk hW n47 e44 hp45 (repL_cons rep_v repL_nil)
      replace h4 := rep_ext e44 h4
      replace h36 := rep_ext e44 h36
      replace h39 := rep_ext e44 h39
      replace hW := hW.ret0 e44
      obtain ⟨g49, hM⟩ := hM
      apply rep_cat (xs := (([(0 : Int)] : List Int) ++ ys34)) (ys := ([(x_marks_now.length : Int)] : List Int)) (e := (fun y_ : Int => (D.v (V.int y_)))) hW h39 h46 g49
      intro p50 H53 e52 h51
      replace h4 := rep_ext e52 h4
      replace h36 := rep_ext e52 h36
      replace h39 := rep_ext e52 h39
      replace h46 := rep_ext e52 h46
      replace hW := hW.ret0 e52
      refine ⟨_, rfl, ?_⟩
      apply rep_lenL (e := (fun y_ : Int => (D.v (V.int y_)))) (xs := ((([(0 : Int)] : List Int) ++ ys34) ++ ([(x_marks_now.length : Int)] : List Int))) h51
      refine ⟨_, _, rfl, rfl, ?_⟩
      refine ⟨_, rfl, ?_⟩
      refine fun L54 nl55 => ?_
      have nm69 := nm_new hW nl55
      refine lc_rangeG (L := L54) (fun n_ ys_ h_ => Wd (L54 :: ms) [] [] H_0 h_ ∧ Keep (L54 :: ms) H53 h_ ∧ MutO (L54 :: ms) [] H_0 h_ L54 (D.lst (ys_.map (fun y_ : Int => (D.v (V.int y_))))) ∧ ys_.length ≤ n_) (lo := (0 : Int)) (hi := ((((([(0 : Int)] : List Int) ++ ys34) ++ ([(x_marks_now.length : Int)] : List Int)).length : Int) - (1 : Int))) (N := Int.toNat ((((([(0 : Int)] : List Int) ++ ys34) ++ ([(x_marks_now.length : Int)] : List Int)).length : Int) - (1 : Int))) (by simp) hM ⟨wd_cell hW nl55, keep_cell nl55 Keep.refl, mo_newL (ds := []) hW nl55 repL_nil, Nat.le_refl _⟩ ?_ ?_
      · skip
        rintro x65  n56 ys57 k58 H70 hn ⟨hW, hk59, mu60, ln61⟩ hM Nx64 hN62
        replace h4 := rep_keep hk59 (rep_new nl55 h4)
        replace h36 := rep_keep hk59 (rep_new nl55 h36)
        replace h39 := rep_keep hk59 (rep_new nl55 h39)
        replace h46 := rep_keep hk59 (rep_new nl55 h46)
        replace h51 := rep_keep hk59 (rep_new nl55 h51)
        refine ⟨rfl, ?_⟩
        refine tyes_of ?_
        refine ⟨_, rfl, ?_⟩
        refine ⟨_, rfl, ?_⟩
        refine ⟨_, _, rfl, rfl, ?_⟩
        obtain ⟨g71, g72, hM⟩ := hM
        apply rep_ixL (e := (fun y_ : Int => (D.v (V.int y_)))) (xs := ((([(0 : Int)] : List Int) ++ ys34) ++ ([(x_marks_now.length : Int)] : List Int))) h51 g71 g72
        intro u75 h73
        obtain ⟨x74, x74e⟩ : ∃ x_, x_ = ((([(0 : Int)] : List Int) ++ ys34) ++ ([(x_marks_now.length : Int)] : List Int))[Int.toNat (x65 + (1 : Int))]'g72 := ⟨_, rfl⟩
        rw [← x74e] at h73
        replace hM := hM x74 x74e
        obtain rfl := of_v h73
        refine ⟨_, rfl, ?_⟩
        refine ⟨_, rfl, ?_⟩
        obtain ⟨g76, g77, hM⟩ := hM
        apply rep_ixL (e := (fun y_ : Int => (D.v (V.int y_)))) (xs := ((([(0 : Int)] : List Int) ++ ys34) ++ ([(x_marks_now.length : Int)] : List Int))) h51 g76 g77
        intro u80 h78
        obtain ⟨x79, x79e⟩ : ∃ x_, x_ = ((([(0 : Int)] : List Int) ++ ys34) ++ ([(x_marks_now.length : Int)] : List Int))[Int.toNat x65]'g77 := ⟨_, rfl⟩
        rw [← x79e] at h78
        replace hM := hM x79 x79e
        obtain rfl := of_v h78
        refine ⟨_, _, rfl, rfl, ?_⟩
        refine mo_end mu60 hn (by rw [List.length_map]; exact ln61) fun vs81 hr82 => ?_
        have mk84 := mo_setL mu60 (repL_snoc (e := (fun y_ : Int => (D.v (V.int y_)))) (xs := ys57) (y := (x74 - x79)) hr82 rep_v)
        replace h4 := rep_put (o := .lst (vs81 ++ [V.int (x74 - x79)])) mu60.im h4
        replace h36 := rep_put (o := .lst (vs81 ++ [V.int (x74 - x79)])) mu60.im h36
        replace h39 := rep_put (o := .lst (vs81 ++ [V.int (x74 - x79)])) mu60.im h39
        replace h46 := rep_put (o := .lst (vs81 ++ [V.int (x74 - x79)])) mu60.im h46
        replace h51 := rep_put (o := .lst (vs81 ++ [V.int (x74 - x79)])) mu60.im h51
        replace hk59 := keep_put (o := .lst (vs81 ++ [V.int (x74 - x79)])) mu60.im hk59
        replace hW := wd_put (o := .lst (vs81 ++ [V.int (x74 - x79)])) hW mu60
        replace mu60 := mk84
        generalize upd H70 L54 (.lst (vs81 ++ [V.int (x74 - x79)])) = H85 at *
        replace mu60 : MutO (L54 :: ms) [] H_0 H85 L54 (D.lst ((ys57 ++ [(x74 - x79)]).map (fun y_ : Int => (D.v (V.int y_))))) := mu60
        clear mk84
        exact hN62 (x74 - x79) _ hM ⟨hW, hk59, mu60, by rw [List.length_append]; exact Nat.add_le_add_right ln61 1⟩
      · skip
        rintro n56 ys86 H87 hM ⟨hW, hk59, mu60, ln61⟩
        replace h4 := rep_keep hk59 (rep_new nl55 h4)
        replace h36 := rep_keep hk59 (rep_new nl55 h36)
        replace h39 := rep_keep hk59 (rep_new nl55 h39)
        replace h46 := rep_keep hk59 (rep_new nl55 h46)
        replace h51 := rep_keep hk59 (rep_new nl55 h51)
        clear hk59 ln61
        have h88 := mo_rep_dr dr_here nm69 mu60
        replace hW := wd_dr dr_here mu60.hp hW
        replace h4 := rep_dr dr_here h4
        replace h36 := rep_dr dr_here h36
        replace h39 := rep_dr dr_here h39
        replace h46 := rep_dr dr_here h46
        replace h51 := rep_dr dr_here h51
        clear mu60
        exact hQ ys86 _ _ hM hW.out h88
def M_is_marks (x_value : Str) (KM : Bool → Prop) : Prop :=
  (x_value.length ≤ sizeLine ∧ (KM (decide (V.int ((Txt.count x_value ("h" : Str) : Int) + (Txt.count x_value ("a" : Str) : Int)) = V.int (x_value.length : Int)))))
def sp_is_marks (A : Ad) : Sp := fun vs H Q _ => ∃ (ms : List Addr) (x_value : Str) (KM : Bool → Prop), vs = [V.str x_value] ∧ Wd ms [] [] H H ∧ M_is_marks x_value KM ∧ ∀ (r : Bool) (u : V) (H1 : Hp), KM r → Ret [] H H1 → rep ms H1 (D.v (V.bl r)) u → Q u H1
set_option maxHeartbeats 16000000 in
theorem ok_is_marks {P : Program} {w : World} {K : PySem.W.Frag} {mg : Str → Option Value} {base : Heap} {A : Ad} (T : Txt w K mg base A) : FnOk P w K mg base CX0 1 A.a_is_marks A.d_is_marks ["value"] (sp_is_marks A) := by
  refine T.F_is_marks.ok sc_is_marks (fun vs H Q E h => ?_) (fun cdv A_ outer s_ H_0 vs Q E hr h => ?_)
  · obtain ⟨ms, x_value, KM, rfl, _⟩ := h
    rfl
  · obtain ⟨ms, x_value, KM, rfl, hW, hM, hQ⟩ := h
    unfold M_is_marks at hM
    refine ⟨_, (pss_one (ps_ret (pe_and (pe_callB (call_isiK (K := K) rfl) (by rfl) T.z_isinstance (by decide +kernel) (pa_cons (pv 0) (pa_cons (pe_bltn (v := .ty "str") (by rfl) T.z_str (by decide +kernel) rfl) pa_nil))) (pe_one (pe_cmpR op_eq (pe_op op_add (pe_m1 PySem.F.slot_str_count PySem.F.type_str_count mt_count (pv 0) pe_str) (pe_m1 PySem.F.slot_str_count PySem.F.type_str_count mt_count (pv 0) pe_str)) (pe_callB call_len_str (by rfl) T.z_len PySem.boot_len (pa_cons (pv 0) pa_nil)) (nomark _)))))), ?_⟩
    refine ⟨_, rfl, ?_⟩
    refine ⟨_, _, _, _, true, rfl, .ty _, .base (.str _), kit_ty (by decide +kernel), ?_⟩
    refine ⟨_, rfl, ?_⟩
    refine iteT ?_
    refine ⟨_, rfl, ?_⟩
    refine ⟨⟨_, rfl⟩, ?_⟩
    refine ⟨_, _, rfl, rfl, ?_⟩
    refine ⟨_, rfl, ?_⟩
    refine ⟨⟨_, rfl⟩, ?_⟩
    refine ⟨_, _, rfl, rfl, ?_⟩
    refine ⟨_, _, rfl, rfl, ?_⟩
    refine ⟨_, rfl, ?_⟩
    obtain ⟨g1, hM⟩ := hM
    refine ⟨_, rfl, g1, ?_⟩
    refine ⟨rfl, ?_⟩
    exact hQ (decide (V.int ((Txt.count x_value ("h" : Str) : Int) + (Txt.count x_value ("a" : Str) : Int)) = V.int (x_value.length : Int))) _ _ hM hW.out rep_v
def M_stays_in (x_marks : Str) (KM : (List Int) → Prop) : Prop :=
  (M_is_marks x_marks fun r1 => (if (!r1) = true then False else (if (decide (V.str x_marks = V.str ("" : Str))) = true then False else (x_marks.length ≤ sizeLine ∧ ((rangeI (0 : Int) (x_marks.length : Int)).length < 100000 ∧ filC (fun (x18 : Int) (k11 : Option Int → Prop) => (if (decide (V.int x18 = V.int (0 : Int))) = true then (k11 (some x18)) else (x_marks.length ≤ sizeLine ∧ ∃ c30, atI x_marks.cps.toList x18 = some c30 ∧ (x_marks.length ≤ sizeLine ∧ ∃ c32, atI x_marks.cps.toList (x18 - (1 : Int)) = some c32 ∧ (if (!(decide (V.str (Str.mk #[c30]) = V.str (Str.mk #[c32])))) = true then (k11 (some x18)) else (k11 none)))))) (rangeI (0 : Int) (x_marks.length : Int)) [] fun ys38 => (x_marks.length ≤ sizeLine ∧ ((cutM ys38 (some (1 : Int)) none).length + ([(x_marks.length : Int)] : List Int).length ≤ sizeLine ∧ ((List.zip ys38 ((cutM ys38 (some (1 : Int)) none) ++ ([(x_marks.length : Int)] : List Int))).length < 100000 ∧ mapC (fun (x82 : (Int × Int)) (k75 : Int → Prop) => (k75 (x82.2 - x82.1))) (List.zip ys38 ((cutM ys38 (some (1 : Int)) none) ++ ([(x_marks.length : Int)] : List Int))) [] fun ys105 => (KM ys105)))))))))
def sp_stays_in (A : Ad) : Sp := fun vs H Q _ => ∃ (ms : List Addr) (x_marks : Str) (KM : (List Int) → Prop), vs = [V.str x_marks] ∧ Wd ms [] [] H H ∧ M_stays_in x_marks KM ∧ ∀ (r : (List Int)) (u : V) (H1 : Hp), KM r → Ret [] H H1 → rep ms H1 (D.lst (r.map (fun y_ : Int => (D.v (V.int y_))))) u → (∀ p_, u = V.ref p_ → H p_ = none) → Q u H1
set_option maxHeartbeats 16000000 in
theorem ok_stays_in {P : Program} {w : World} {K : PySem.W.Frag} {mg : Str → Option Value} {base : Heap} {A : Ad} (T : Txt w K mg base A) : FnOk P w K mg base CX0 2 A.a_stays_in A.d_stays_in ["marks"] (sp_stays_in A) := by
  refine T.F_stays_in.ok sc_stays_in (fun vs H Q E h => ?_) (fun cdv A_ outer s_ H_0 vs Q E hr h => ?_)
  · obtain ⟨ms, x_marks, KM, rfl, _⟩ := h
    rfl
  · obtain ⟨ms, x_marks, KM, rfl, hW, hM, hQ⟩ := h
    unfold M_stays_in at hM
    refine ⟨_, (pss_cons (ps_if (PW.pt (pw_or (pt_not (pt_val (pe_call (ok_is_marks T) (hr.mono (by decide)) (by rfl) T.g_is_marks T.F_is_marks.kp T.b_is_marks .nil pass0 (pa_cons (pv 0) pa_nil)))) (pw_or1 (pt_cmpR op_eq (pv 0) pe_str (nomark _))))) (pss_one ps_never) pss_nil) (pss_cons (ps_setLc (i := 1) (own := [("at", 2)]) (g := gName 2) rfl sc_stays_in.nd rfl rfl (sw_true rfl rfl rfl (by decide +kernel)) (pi_rangeW1 (by rfl) T.z_range (pa_cons (pe_callB call_len_str (by rfl) T.z_len PySem.boot_len (pa_cons (pv 0) pa_nil)) pa_nil)) (blkOk_by (N := ["marks", "starts", "at", "start", "end"]) (sc := defScope s_stays_in) (by decide +kernel)) (fun _ _ _ _ _ => pg_name (i := 2) sc_stays_in.nd rfl (by first | exact Or.inl rfl | exact Or.inr rfl)) (fun _ _ _ _ _ => (pts_one (PW.pt (pw_or (pt_cmpR op_eq (pv 2) pe_int (nomark _)) (pw_or1 (pt_cmpR op_ne (pe_ix ix_str (pv 0) (pv 2) (fun _ _ => rfl)) (pe_ix ix_str (pv 0) (pe_op op_sub (pv 2) pe_int) (fun _ _ => rfl)) (nomark _))))))) (fun _ _ _ _ _ => (pv 2))) (pss_one (ps_ret (pe_lc (own := [("start", 3), ("end", 4)]) (g := (gTup K 2 (gCons (gName 3) (gCons (gName 4) gNil)))) rfl sc_stays_in.nd (pi_zip (by rfl) T.z_zip (pa_cons (pv 1) (pa_cons (pe_op op_cat (pe_slice (sl_listK (K := K) rfl) (pv 1) (po_some pe_int) po_none) (pe_lst (pa_cons (pe_callB call_len_str (by rfl) T.z_len PySem.boot_len (pa_cons (pv 0) pa_nil)) pa_nil))) pa_nil))) (blkOk_by (N := ["marks", "starts", "at", "start", "end"]) (sc := defScope s_stays_in) (by decide +kernel)) (fun _ _ _ _ _ => (pg_tup rfl (pgs_cons (pg_name (i := 3) sc_stays_in.nd rfl (by first | exact Or.inl rfl | exact Or.inr rfl)) (pgs_cons (pg_name (i := 4) sc_stays_in.nd rfl (by first | exact Or.inl rfl | exact Or.inr rfl)) pgs_nil)))) (fun _ _ _ _ _ => pts_nil) (fun _ _ _ _ _ => (pe_op op_sub (pv 4) (pv 3)))))))), ?_⟩
    refine ⟨_, rfl, ?_⟩
    refine ⟨ms, x_marks, _, rfl, hW.enter0, hM, fun r1 u4 H5 hM e3 h2 => ?_⟩
    replace hW := hW.ret0 e3
    obtain rfl := of_v h2
    refine ⟨_, rfl, ?_⟩
    refine ite3 hM (fun hM => ?_) (fun hM => ?_)
    · skip
      refine iteT ?_
      exact hM
    · skip
      refine ⟨_, rfl, ?_⟩
      refine ⟨rfl, ?_⟩
      refine ⟨_, rfl, ?_⟩
      refine ite3 hM (fun hM => ?_) (fun hM => ?_)
      · skip
        exact hM
      · skip
        refine ⟨_, rfl, ?_⟩
        obtain ⟨g6, hM⟩ := hM
        refine ⟨_, rfl, g6, ?_⟩
        refine ⟨_, rfl, ?_⟩
        refine fun L7 nl8 => ?_
        have nm22 := nm_new hW nl8
        refine lf_rangeG (L := L7) (fun n_ ys_ h_ => Wd (L7 :: ms) [] [] H_0 h_ ∧ Keep (L7 :: ms) H5 h_ ∧ MutO (L7 :: ms) [] H_0 h_ L7 (D.lst (ys_.map (fun y_ : Int => (D.v (V.int y_))))) ∧ ys_.length ≤ n_) (lo := (0 : Int)) (hi := (x_marks.length : Int)) (N := Int.toNat (x_marks.length : Int)) (by simp) hM ⟨wd_cell hW nl8, keep_cell nl8 Keep.refl, mo_newL (ds := []) hW nl8 repL_nil, Nat.le_refl _⟩ ?_ ?_
        · skip
          rintro x18  n9 ys10 k11 H23 hn ⟨hW, hk12, mu13, ln14⟩ hM Nx17 hN15 hNn16
          refine ⟨rfl, ?_⟩
          refine ⟨_, rfl, ?_⟩
          refine ⟨rfl, ?_⟩
          refine ⟨_, rfl, ?_⟩
          refine ite3 hM (fun hM => ?_) (fun hM => ?_)
          · skip
            refine iteT ?_
            refine ⟨_, rfl, ?_⟩
            refine mo_end mu13 hn (by rw [List.length_map]; exact ln14) fun vs24 hr25 => ?_
            have mk27 := mo_setL mu13 (repL_snoc (e := (fun y_ : Int => (D.v (V.int y_)))) (xs := ys10) (y := x18) hr25 rep_v)
            replace hk12 := keep_put (o := .lst (vs24 ++ [V.int x18])) mu13.im hk12
            replace hW := wd_put (o := .lst (vs24 ++ [V.int x18])) hW mu13
            replace mu13 := mk27
            generalize upd H23 L7 (.lst (vs24 ++ [V.int x18])) = H28 at *
            replace mu13 : MutO (L7 :: ms) [] H_0 H28 L7 (D.lst ((ys10 ++ [x18]).map (fun y_ : Int => (D.v (V.int y_))))) := mu13
            clear mk27
            exact hN15 x18 _ hM ⟨hW, hk12, mu13, by rw [List.length_append]; exact Nat.add_le_add_right ln14 1⟩
          · skip
            refine ⟨_, rfl, ?_⟩
            refine ⟨_, rfl, ?_⟩
            obtain ⟨g29, hM⟩ := hM
            obtain ⟨c30, c30h, hM⟩ := hM
            refine ⟨_, _, _, rfl, rfl, g29, c30h, ?_⟩
            refine ⟨_, rfl, ?_⟩
            refine ⟨_, rfl, ?_⟩
            refine ⟨_, _, rfl, rfl, ?_⟩
            obtain ⟨g31, hM⟩ := hM
            obtain ⟨c32, c32h, hM⟩ := hM
            refine ⟨_, _, _, rfl, rfl, g31, c32h, ?_⟩
            refine ⟨rfl, ?_⟩
            refine ⟨_, rfl, ?_⟩
            refine ite3 hM (fun hM => ?_) (fun hM => ?_)
            · skip
              refine ⟨_, rfl, ?_⟩
              refine mo_end mu13 hn (by rw [List.length_map]; exact ln14) fun vs33 hr34 => ?_
              have mk36 := mo_setL mu13 (repL_snoc (e := (fun y_ : Int => (D.v (V.int y_)))) (xs := ys10) (y := x18) hr34 rep_v)
              replace hk12 := keep_put (o := .lst (vs33 ++ [V.int x18])) mu13.im hk12
              replace hW := wd_put (o := .lst (vs33 ++ [V.int x18])) hW mu13
              replace mu13 := mk36
              generalize upd H23 L7 (.lst (vs33 ++ [V.int x18])) = H37 at *
              replace mu13 : MutO (L7 :: ms) [] H_0 H37 L7 (D.lst ((ys10 ++ [x18]).map (fun y_ : Int => (D.v (V.int y_))))) := mu13
              clear mk36
              exact hN15 x18 _ hM ⟨hW, hk12, mu13, by rw [List.length_append]; exact Nat.add_le_add_right ln14 1⟩
            · skip
              exact hNn16 _ hM ⟨hW, hk12, mu13, Nat.le_succ_of_le ln14⟩
        · skip
          rintro n9 ys38 H39 hM ⟨hW, hk12, mu13, ln14⟩
          clear hk12 ln14
          have h40 := mo_rep_dr dr_here nm22 mu13
          replace hW := wd_dr dr_here mu13.hp hW
          clear mu13
          refine ⟨_, rfl, ?_⟩
          refine ⟨_, rfl, ?_⟩
          refine ⟨_, rfl, ?_⟩
          apply rep_lsU h40
          intro vs41 hr42
          intro p43 n47
          have e44 := Rx.Ext.new (H := H39) (o := (HO.lst (cutV vs41 (some (1 : Int)) none))) n47
          have hp45 : upd H39 p43 (HO.lst (cutV vs41 (some (1 : Int)) none)) p43 = some (HO.lst (cutV vs41 (some (1 : Int)) none)) := upd_same
          generalize upd H39 p43 (HO.lst (cutV vs41 (some (1 : Int)) none)) = H48 at e44 hp45 ⊢
          have h46 : rep ms H48 (D.lst ((cutM ys38 (some (1 : Int)) none).map (fun y_ : Int => (D.v (V.int y_))))) (.ref p43) := rep_lst_mk hW n47 e44 hp45 (repL_cut (e := (fun y_ : Int => (D.v (V.int y_)))) (xs := ys38) hr42)
          replace h40 := rep_ext e44 h40
          replace hW := hW.ret0 e44
          refine ⟨_, rfl, ?_⟩
          obtain ⟨g49, hM⟩ := hM
          refine ⟨_, rfl, g49, ?_⟩
          refine ⟨(by show 1 ≤ sizeLine; decide), ?_⟩
          intro p50 n54
          have e51 := Rx.Ext.new (H := H48) (o := (HO.lst [V.int (x_marks.length : Int)])) n54
          have hp52 : upd H48 p50 (HO.lst [V.int (x_marks.length : Int)]) p50 = some (HO.lst [V.int (x_marks.length : Int)]) := upd_same
          generalize upd H48 p50 (HO.lst [V.int (x_marks.length : Int)]) = H55 at e51 hp52 ⊢
          have h53 : rep ms H55 (D.lst (([(x_marks.length : Int)] : List Int).map (fun y_ : Int => (D.v (V.int y_))))) (.ref p50) := rep_lst_mk hW n54 e51 hp52 (repL_cons rep_v repL_nil)
          replace h40 := rep_ext e51 h40
          replace h46 := rep_ext e51 h46
          replace hW := hW.ret0 e51
          obtain ⟨g56, hM⟩ := hM
          apply rep_cat (xs := (cutM ys38 (some (1 : Int)) none)) (ys := ([(x_marks.length : Int)] : List Int)) (e := (fun y_ : Int => (D.v (V.int y_)))) hW h46 h53 g56
          intro p57 H60 e59 h58
          replace h40 := rep_ext e59 h40
          replace h46 := rep_ext e59 h46
          replace h53 := rep_ext e59 h53
          replace hW := hW.ret0 e59
          obtain ⟨a61, xs62, ea_a61, an63, hp64, hl65⟩ := rep_lstAt h40
          first | subst ea_a61 | cases ea_a61
          obtain ⟨a66, xs67, ea_a66, an68, hp69, hl70⟩ := rep_lstAt h58
          first | subst ea_a66 | cases ea_a66
          refine ⟨_, _, _, _, rfl, .inl (.inl hp64), .inl (.inl hp69), ?_⟩
          refine fun L71 nl72 => ?_
          have nm86 := nm_new hW nl72
          refine lc_zipG (L := L71) (fun n_ ys_ h_ => Wd (L71 :: ms) [] [] H_0 h_ ∧ Keep (L71 :: ms) H60 h_ ∧ MutO (L71 :: ms) [] H_0 h_ L71 (D.lst (ys_.map (fun y_ : Int => (D.v (V.int y_))))) ∧ ys_.length ≤ n_) (items := ys38) (items2 := ((cutM ys38 (some (1 : Int)) none) ++ ([(x_marks.length : Int)] : List Int))) (e := (fun y_ : Int => (D.v (V.int y_)))) (e2 := (fun y_ : Int => (D.v (V.int y_)))) an63 hp64 hl65 an68 hp69 hl70 nl72 (fun _ _ _ q_ => q_.2.1) (fun _ _ _ q_ => q_.1.tr) hM ⟨wd_cell hW nl72, keep_cell nl72 Keep.refl, mo_newL (ds := []) hW nl72 repL_nil, Nat.le_refl _⟩ ?_ ?_
          · skip
            rintro x82 u83 n73 ys74 k75 H87 H88 hn ⟨hW, hk76, mu77, ln78⟩ ex89 h84 hM Nx81 hN79
            replace h40 := rep_keep hk76 (rep_new nl72 h40)
            replace h46 := rep_keep hk76 (rep_new nl72 h46)
            replace h53 := rep_keep hk76 (rep_new nl72 h53)
            replace h58 := rep_keep hk76 (rep_new nl72 h58)
            replace h40 := rep_ext ex89 h40
            replace h46 := rep_ext ex89 h46
            replace h53 := rep_ext ex89 h53
            replace h58 := rep_ext ex89 h58
            replace hk76 := keep_ext ex89 hk76
            replace mu77 := mo_ext ex89 mu77
            replace hW := hW.ret0 ex89
            apply rep_gtup h84 rfl
            intro vs90 hv91
            obtain ⟨u92, us93, rfl, h94, hv95⟩ := repL_uncons hv91
            obtain rfl := of_v h94
            obtain ⟨u96, us97, rfl, h98, hv99⟩ := repL_uncons hv95
            obtain rfl := of_v h98
            obtain rfl := repL_empty hv99
            refine ⟨_, _, rfl, ?_⟩
            refine ⟨_, _, rfl, ?_⟩
            refine ⟨rfl, ?_⟩
            refine ⟨rfl, ?_⟩
            refine tyes_of ?_
            refine ⟨_, rfl, ?_⟩
            refine ⟨_, rfl, ?_⟩
            refine ⟨_, _, rfl, rfl, ?_⟩
            refine mo_end mu77 hn (by rw [List.length_map]; exact ln78) fun vs100 hr101 => ?_
            have mk103 := mo_setL mu77 (repL_snoc (e := (fun y_ : Int => (D.v (V.int y_)))) (xs := ys74) (y := (x82.2 - x82.1)) hr101 rep_v)
            replace h40 := rep_put (o := .lst (vs100 ++ [V.int (x82.2 - x82.1)])) mu77.im h40
            replace h46 := rep_put (o := .lst (vs100 ++ [V.int (x82.2 - x82.1)])) mu77.im h46
            replace h53 := rep_put (o := .lst (vs100 ++ [V.int (x82.2 - x82.1)])) mu77.im h53
            replace h58 := rep_put (o := .lst (vs100 ++ [V.int (x82.2 - x82.1)])) mu77.im h58
            replace hk76 := keep_put (o := .lst (vs100 ++ [V.int (x82.2 - x82.1)])) mu77.im hk76
            replace h84 := rep_put (o := .lst (vs100 ++ [V.int (x82.2 - x82.1)])) mu77.im h84
            replace hW := wd_put (o := .lst (vs100 ++ [V.int (x82.2 - x82.1)])) hW mu77
            replace mu77 := mk103
            generalize upd H88 L71 (.lst (vs100 ++ [V.int (x82.2 - x82.1)])) = H104 at *
            replace mu77 : MutO (L71 :: ms) [] H_0 H104 L71 (D.lst ((ys74 ++ [(x82.2 - x82.1)]).map (fun y_ : Int => (D.v (V.int y_))))) := mu77
            clear mk103
            exact hN79 (x82.2 - x82.1) _ hM ⟨hW, hk76, mu77, by rw [List.length_append]; exact Nat.add_le_add_right ln78 1⟩
          · skip
            rintro n73 ys105 H106 hM ⟨hW, hk76, mu77, ln78⟩
            replace h40 := rep_keep hk76 (rep_new nl72 h40)
            replace h46 := rep_keep hk76 (rep_new nl72 h46)
            replace h53 := rep_keep hk76 (rep_new nl72 h53)
            replace h58 := rep_keep hk76 (rep_new nl72 h58)
            clear hk76 ln78
            have hfr_ := mu77.h0
            have h107 := mo_rep_dr dr_here nm86 mu77
            replace hW := wd_dr dr_here mu77.hp hW
            replace h40 := rep_dr dr_here h40
            replace h46 := rep_dr dr_here h46
            replace h53 := rep_dr dr_here h53
            replace h58 := rep_dr dr_here h58
            clear mu77
            exact hQ ys105 _ _ hM hW.out h107 (fun _ z_ => by cases z_; exact hfr_)
def M_breaks_in (x_marks : Str) (KM : Int → Prop) : Prop :=
  (M_stays_in x_marks fun r1 => (r1.length < 100000 ∧ mapC (fun (x23 : Int) (k16 : Int → Prop) => (k16 (x23 - (1 : Int)))) r1 [] fun ys34 => (KM (List.sum ys34))))
def sp_breaks_in (A : Ad) : Sp := fun vs H Q _ => ∃ (ms : List Addr) (x_marks : Str) (KM : Int → Prop), vs = [V.str x_marks] ∧ Wd ms [] [] H H ∧ M_breaks_in x_marks KM ∧ ∀ (r : Int) (u : V) (H1 : Hp), KM r → Ret [] H H1 → rep ms H1 (D.v (V.int r)) u → Q u H1
set_option maxHeartbeats 16000000 in
theorem ok_breaks_in {P : Program} {w : World} {K : PySem.W.Frag} {mg : Str → Option Value} {base : Heap} {A : Ad} (T : Txt w K mg base A) : FnOk P w K mg base CX0 3 A.a_breaks_in A.d_breaks_in ["marks"] (sp_breaks_in A) := by
  refine T.F_breaks_in.ok sc_breaks_in (fun vs H Q E h => ?_) (fun cdv A_ outer s_ H_0 vs Q E hr h => ?_)
  · obtain ⟨ms, x_marks, KM, rfl, _⟩ := h
    rfl
  · obtain ⟨ms, x_marks, KM, rfl, hW, hM, hQ⟩ := h
    unfold M_breaks_in at hM
    refine ⟨_, (pss_one (ps_ret (pe_callB (cr_sumK (K := K) rfl rfl) (by rfl) T.z_sum (by decide +kernel) (pa_cons (pe_lc (own := [("length", 1)]) (g := gName 1) rfl sc_breaks_in.nd (pi_list (pe_call (ok_stays_in T) (hr.mono (by decide)) (by rfl) T.g_stays_in T.F_stays_in.kp T.b_stays_in .nil pass0 (pa_cons (pv 0) pa_nil))) (blkOk_by (N := ["marks", "length"]) (sc := defScope s_breaks_in) (by decide +kernel)) (fun _ _ _ _ _ => pg_name (i := 1) sc_breaks_in.nd rfl (by first | exact Or.inl rfl | exact Or.inr rfl)) (fun _ _ _ _ _ => pts_nil) (fun _ _ _ _ _ => (pe_op op_sub (pv 1) pe_int))) pa_nil)))), ?_⟩
    refine ⟨_, rfl, ?_⟩
    refine ⟨ms, x_marks, _, rfl, hW.enter0, hM, fun r1 u4 H5 hM e3 h2 hfr6 => ?_⟩
    replace hW := hW.ret0 e3
    apply rep_iter h2
    intro a7 xs8 _ an9 hp10 hl11
    refine fun L12 nl13 => ?_
    have nm27 := nm_new hW nl13
    refine lc_listG (L := L12) (fun n_ ys_ h_ => Wd (L12 :: ms) [] [] H_0 h_ ∧ Keep (L12 :: ms) H5 h_ ∧ MutO (L12 :: ms) [] H_0 h_ L12 (D.lst (ys_.map (fun y_ : Int => (D.v (V.int y_))))) ∧ ys_.length ≤ n_) (items := r1) (e := (fun y_ : Int => (D.v (V.int y_)))) an9 hp10 hl11 nl13 (fun _ _ _ q_ => q_.2.1) hM ⟨wd_cell hW nl13, keep_cell nl13 Keep.refl, mo_newL (ds := []) hW nl13 repL_nil, Nat.le_refl _⟩ ?_ ?_
    · skip
      rintro x23 u24 n14 ys15 k16 H28 hn ⟨hW, hk17, mu18, ln19⟩ h25 hM Nx22 hN20
      replace h2 := rep_keep hk17 (rep_new nl13 h2)
      obtain rfl := of_v h25
      refine ⟨rfl, ?_⟩
      refine tyes_of ?_
      refine ⟨_, rfl, ?_⟩
      refine ⟨_, _, rfl, rfl, ?_⟩
      refine mo_end mu18 hn (by rw [List.length_map]; exact ln19) fun vs29 hr30 => ?_
      have mk32 := mo_setL mu18 (repL_snoc (e := (fun y_ : Int => (D.v (V.int y_)))) (xs := ys15) (y := (x23 - (1 : Int))) hr30 rep_v)
      replace h2 := rep_put (o := .lst (vs29 ++ [V.int (x23 - (1 : Int))])) mu18.im h2
      replace hk17 := keep_put (o := .lst (vs29 ++ [V.int (x23 - (1 : Int))])) mu18.im hk17
      replace hW := wd_put (o := .lst (vs29 ++ [V.int (x23 - (1 : Int))])) hW mu18
      replace mu18 := mk32
      generalize upd H28 L12 (.lst (vs29 ++ [V.int (x23 - (1 : Int))])) = H33 at *
      replace mu18 : MutO (L12 :: ms) [] H_0 H33 L12 (D.lst ((ys15 ++ [(x23 - (1 : Int))]).map (fun y_ : Int => (D.v (V.int y_))))) := mu18
      clear mk32
      exact hN20 (x23 - (1 : Int)) _ hM ⟨hW, hk17, mu18, by rw [List.length_append]; exact Nat.add_le_add_right ln19 1⟩
    · skip
      rintro n14 ys34 H35 hM ⟨hW, hk17, mu18, ln19⟩
      replace h2 := rep_keep hk17 (rep_new nl13 h2)
      clear hk17 ln19
      have h36 := mo_rep_dr dr_here nm27 mu18
      replace hW := wd_dr dr_here mu18.hp hW
      replace h2 := rep_dr dr_here h2
      clear mu18
      apply rep_sumL h36
      exact hQ (List.sum ys34) _ _ hM hW.out rep_v
def M_other (x_marks_now : Str) (KM : Str → Prop) : Prop :=
  ((Rx.signs x_marks_now).length < 100000 ∧ mapC (fun (x12 : Str) (k5 : Str → Prop) => (∃ KB18 : Str → Prop, (if (decide (V.str x12 = V.str ("h" : Str))) = true then (KB18 ("a" : Str)) else (KB18 ("h" : Str))) ∧ ∀ r21 : Str, KB18 r21 → (k5 r21))) (Rx.signs x_marks_now) [] fun ys30 => ((ys30.map (·.length)).sum + ys30.length * ("" : Str).length ≤ 16777216 ∧ (KM (Txt.join ("" : Str) ys30))))
def sp_other (A : Ad) : Sp := fun vs H Q _ => ∃ (ms : List Addr) (x_marks_now : Str) (KM : Str → Prop), vs = [V.str x_marks_now] ∧ Wd ms [] [] H H ∧ M_other x_marks_now KM ∧ ∀ (r : Str) (u : V) (H1 : Hp), KM r → Ret [] H H1 → rep ms H1 (D.v (V.str r)) u → Q u H1
set_option maxHeartbeats 16000000 in
theorem ok_other {P : Program} {w : World} {K : PySem.W.Frag} {mg : Str → Option Value} {base : Heap} {A : Ad} (T : Txt w K mg base A) : FnOk P w K mg base CX0 1 A.a_other A.d_other ["_law_marks_now"] (sp_other A) := by
  refine T.F_other.ok sc_other (fun vs H Q E h => ?_) (fun cdv A_ outer s_ H_0 vs Q E hr h => ?_)
  · obtain ⟨ms, x_marks_now, KM, rfl, _⟩ := h
    rfl
  · obtain ⟨ms, x_marks_now, KM, rfl, hW, hM, hQ⟩ := h
    unfold M_other at hM
    refine ⟨_, (pss_one (ps_ret (pe_join pe_str (pe_lc (own := [("_law_mark", 1)]) (g := gName 1) rfl sc_other.nd (pi_str (pv 0)) (blkOk_by (N := ["_law_marks_now", "_law_mark"]) (sc := defScope s_other) (by decide +kernel)) (fun _ _ _ _ _ => pg_name (i := 1) sc_other.nd rfl (by first | exact Or.inl rfl | exact Or.inr rfl)) (fun _ _ _ _ _ => pts_nil) (fun _ _ _ _ _ => (pe_up (pe_ifExp (pt_cmpR op_eq (pv 1) pe_str (nomark _)) pe_str pe_str))))))), ?_⟩
    refine ⟨⟨_, rfl⟩, ?_⟩
    refine ⟨_, rfl, ?_⟩
    refine ⟨_, rfl, ?_⟩
    refine fun L1 nl2 => ?_
    have nm16 := nm_new hW nl2
    refine lc_strG (L := L1) (fun n_ ys_ h_ => Wd (L1 :: ms) [] [] H_0 h_ ∧ Keep (L1 :: ms) H_0 h_ ∧ MutO (L1 :: ms) [] H_0 h_ L1 (D.lst (ys_.map (fun y_ : Str => (D.v (V.str y_))))) ∧ ys_.length ≤ n_) hM ⟨wd_cell hW nl2, keep_cell nl2 Keep.refl, mo_newL (ds := []) hW nl2 repL_nil, Nat.le_refl _⟩ ?_ ?_
    · skip
      rintro x12  n3 ys4 k5 H17 hn ⟨hW, hk6, mu7, ln8⟩ hM Nx11 hN9
      refine ⟨rfl, ?_⟩
      refine tyes_of ?_
      obtain ⟨KB18, hM, hKKB18⟩ := hM
      refine ⟨fun v H1 => ∃ r : Str, KB18 r ∧ Wd (L1 :: ms) [] [] H_0 H1 ∧ Keep (L1 :: ms) H17 H1 ∧ rep (L1 :: ms) H1 (D.v (V.str r)) v ∧ MutO (L1 :: ms) [] H_0 H1 L1 (D.lst (ys4.map (fun y_ : Str => (D.v (V.str y_))))), ?_, ?_⟩
      · skip
        have hj20 := Keep.refl (ms := (L1 :: ms)) (H := H17)
        refine ⟨_, rfl, ?_⟩
        refine ⟨rfl, ?_⟩
        refine ⟨_, rfl, ?_⟩
        refine ite3 hM (fun hM => ?_) (fun hM => ?_)
        · skip
          exact ⟨("a" : Str), hM, hW, hj20, rep_v, mu7⟩
        · skip
          exact ⟨("h" : Str), hM, hW, hj20, rep_v, mu7⟩
      · skip
        clear mu7
        rintro u23 Hj19 ⟨r21, hr, hW, hj20, h22, mu24⟩
        replace hM := hKKB18 r21 hr
        replace hk6 := Keep.trans hk6 hj20
        obtain rfl := of_v h22
        refine mo_end mu24 hn (by rw [List.length_map]; exact ln8) fun vs25 hr26 => ?_
        have mk28 := mo_setL mu24 (repL_snoc (e := (fun y_ : Str => (D.v (V.str y_)))) (xs := ys4) (y := r21) hr26 rep_v)
        replace hk6 := keep_put (o := .lst (vs25 ++ [V.str r21])) mu24.im hk6
        replace hW := wd_put (o := .lst (vs25 ++ [V.str r21])) hW mu24
        replace mu24 := mk28
        generalize upd Hj19 L1 (.lst (vs25 ++ [V.str r21])) = H29 at *
        replace mu24 : MutO (L1 :: ms) [] H_0 H29 L1 (D.lst ((ys4 ++ [r21]).map (fun y_ : Str => (D.v (V.str y_))))) := mu24
        clear mk28
        exact hN9 r21 _ hM ⟨hW, hk6, mu24, by rw [List.length_append]; exact Nat.add_le_add_right ln8 1⟩
    · skip
      rintro n3 ys30 H31 hM ⟨hW, hk6, mu7, ln8⟩
      clear hk6 ln8
      have h32 := mo_rep_dr dr_here nm16 mu7
      replace hW := wd_dr dr_here mu7.hp hW
      clear mu7
      obtain ⟨g33, hM⟩ := hM
      apply rep_join (a := ("" : Str)) (ys := ys30) h32 g33
      exact hQ (Txt.join ("" : Str) ys30) _ _ hM hW.out rep_v
def M_row_right (x_some : Str) (KM : Bool → Prop) : Prop :=
  (M_stays x_some fun r1 => (M_stays_in x_some fun r6 => (((plainD (D.lst (r6.map (fun y_ : Int => (D.v (V.int y_))))) = true ∧ plainD (D.lst (r1.map (fun y_ : Int => (D.v (V.int y_))))) = true ∧ SeqAt.shaped (pyOf (D.lst (r6.map (fun y_ : Int => (D.v (V.int y_)))))) = true ∧ SeqAt.shaped (pyOf (D.lst (r1.map (fun y_ : Int => (D.v (V.int y_)))))) = true)) ∧ (if (!(PyData.eqv (pyOf (D.lst (r6.map (fun y_ : Int => (D.v (V.int y_)))))) (pyOf (D.lst (r1.map (fun y_ : Int => (D.v (V.int y_)))))))) = true then (KM false) else (x_some.length ≤ sizeLine ∧ (if (!(decide (V.int (List.sum r6) = V.int (x_some.length : Int)))) = true then (KM false) else (M_breaks_in x_some fun r23 => (x_some.length ≤ sizeLine ∧ (if (!(decide (V.int r23 = V.int ((x_some.length : Int) - (r1.length : Int))))) = true then (KM false) else (M_stays_in x_some fun r32 => (((plainD (D.lst (r32.map (fun y_ : Int => (D.v (V.int y_))))) = true ∧ plainD (D.lst (r1.map (fun y_ : Int => (D.v (V.int y_))))) = true ∧ SeqAt.shaped (pyOf (D.lst (r32.map (fun y_ : Int => (D.v (V.int y_)))))) = true ∧ SeqAt.shaped (pyOf (D.lst (r1.map (fun y_ : Int => (D.v (V.int y_)))))) = true)) ∧ (if (!(PyData.eqv (pyOf (D.lst (r32.map (fun y_ : Int => (D.v (V.int y_)))))) (pyOf (D.lst (r1.map (fun y_ : Int => (D.v (V.int y_)))))))) = true then (KM false) else (M_breaks_in x_some fun r39 => (x_some.length ≤ sizeLine ∧ (if (!(decide (V.int r39 = V.int ((x_some.length : Int) - (r1.length : Int))))) = true then (KM false) else (x_some.length ≤ sizeLine ∧ (M_stays_in (revS x_some) fun r46 => (((plainD (D.lst (r46.map (fun y_ : Int => (D.v (V.int y_))))) = true ∧ plainD (D.lst ((r1.reverse).map (fun y_ : Int => (D.v (V.int y_))))) = true ∧ SeqAt.shaped (pyOf (D.lst (r46.map (fun y_ : Int => (D.v (V.int y_)))))) = true ∧ SeqAt.shaped (pyOf (D.lst ((r1.reverse).map (fun y_ : Int => (D.v (V.int y_)))))) = true)) ∧ (if (!(PyData.eqv (pyOf (D.lst (r46.map (fun y_ : Int => (D.v (V.int y_)))))) (pyOf (D.lst ((r1.reverse).map (fun y_ : Int => (D.v (V.int y_)))))))) = true then (KM false) else (x_some.length ≤ sizeLine ∧ (M_breaks_in (revS x_some) fun r62 => (M_breaks_in x_some fun r67 => (if (!(decide (V.int r62 = V.int r67))) = true then (KM false) else (M_other x_some fun r72 => (M_stays_in r72 fun r77 => (((plainD (D.lst (r77.map (fun y_ : Int => (D.v (V.int y_))))) = true ∧ plainD (D.lst (r1.map (fun y_ : Int => (D.v (V.int y_))))) = true ∧ SeqAt.shaped (pyOf (D.lst (r77.map (fun y_ : Int => (D.v (V.int y_)))))) = true ∧ SeqAt.shaped (pyOf (D.lst (r1.map (fun y_ : Int => (D.v (V.int y_)))))) = true)) ∧ (KM (PyData.eqv (pyOf (D.lst (r77.map (fun y_ : Int => (D.v (V.int y_)))))) (pyOf (D.lst (r1.map (fun y_ : Int => (D.v (V.int y_))))))))))))))))))))))))))))))))))
def sp_row_right (A : Ad) : Sp := fun vs H Q _ => ∃ (ms : List Addr) (x_some : Str) (KM : Bool → Prop), vs = [V.str x_some] ∧ Wd ms [] [] H H ∧ M_row_right x_some KM ∧ ∀ (r : Bool) (u : V) (H1 : Hp), KM r → Ret [] H H1 → rep ms H1 (D.v (V.bl r)) u → Q u H1
set_option maxHeartbeats 16000000 in
theorem ok_row_right {P : Program} {w : World} {K : PySem.W.Frag} {mg : Str → Option Value} {base : Heap} {A : Ad} (T : Txt w K mg base A) : FnOk P w K mg base CX0 4 A.a_row_right A.d_row_right ["_law_some"] (sp_row_right A) := by
  refine T.F_row_right.ok sc_row_right (fun vs H Q E h => ?_) (fun cdv A_ outer s_ H_0 vs Q E hr h => ?_)
  · obtain ⟨ms, x_some, KM, rfl, _⟩ := h
    rfl
  · obtain ⟨ms, x_some, KM, rfl, hW, hM, hQ⟩ := h
    unfold M_row_right at hM
    refine ⟨_, (pss_cons (ps_set (i := 1) sc_row_right.nd rfl (by first | exact Or.inl rfl | exact Or.inr rfl) (pe_call (ok_stays T) (hr.mono (by decide)) (by rfl) T.g_stays T.F_stays.kp T.b_stays .nil pass0 (pa_cons (pv 0) pa_nil))) (pss_cons (ps_set (i := 2) sc_row_right.nd rfl (by first | exact Or.inl rfl | exact Or.inr rfl) (pe_call (ok_stays_in T) (hr.mono (by decide)) (by rfl) T.g_stays_in T.F_stays_in.kp T.b_stays_in .nil pass0 (pa_cons (pv 0) pa_nil))) (pss_cons (ps_if (PW.pt (pw_or (pt_cmpR (op_neDK (K := K) rfl hr.units) (pv 2) (pv 1) (nomark _)) (pw_or (pt_cmpR op_ne (pe_callB (cr_sumK (K := K) rfl rfl) (by rfl) T.z_sum (by decide +kernel) (pa_cons (pv 2) pa_nil)) (pe_callB call_len_str (by rfl) T.z_len PySem.boot_len (pa_cons (pv 0) pa_nil)) (nomark _)) (pw_or1 (pt_cmpR op_ne (pe_call (ok_breaks_in T) (hr.mono (by decide)) (by rfl) T.g_breaks_in T.F_breaks_in.kp T.b_breaks_in .nil pass0 (pa_cons (pv 0) pa_nil)) (pe_op op_sub (pe_callB call_len_str (by rfl) T.z_len PySem.boot_len (pa_cons (pv 0) pa_nil)) (pe_callB (call_lenK (K := K) rfl) (by rfl) T.z_len PySem.boot_len (pa_cons (pv 1) pa_nil))) (nomark _)))))) (pss_one (ps_ret pe_bl)) pss_nil) (pss_cons (ps_expr (pe_bmN (K := K) rfl PySem.F.plainAttrs_list PySem.F.slot_list_clear PySem.F.type_list_clear mt_clearO (pv 2))) (pss_cons (ps_if (PW.pt (pw_or (pt_cmpR (op_neDK (K := K) rfl hr.units) (pe_callKw (ok_stays_in T) (hr.mono (by decide)) (by rfl) T.g_stays_in T.F_stays_in.kp T.k_stays_in_marks pass0 (pk_cons (pv 0) pk_nil)) (pv 1) (nomark _)) (pw_or1 (pt_cmpR op_ne (pe_callKw (ok_breaks_in T) (hr.mono (by decide)) (by rfl) T.g_breaks_in T.F_breaks_in.kp T.k_breaks_in_marks pass0 (pk_cons (pv 0) pk_nil)) (pe_op op_sub (pe_callB call_len_str (by rfl) T.z_len PySem.boot_len (pa_cons (pv 0) pa_nil)) (pe_callB (call_lenK (K := K) rfl) (by rfl) T.z_len PySem.boot_len (pa_cons (pv 1) pa_nil))) (nomark _))))) (pss_one (ps_ret pe_bl)) pss_nil) (pss_cons (ps_if (PW.pt (pw_or (pt_cmpR (op_neDK (K := K) rfl hr.units) (pe_call (ok_stays_in T) (hr.mono (by decide)) (by rfl) T.g_stays_in T.F_stays_in.kp T.b_stays_in .nil pass0 (pa_cons (pe_revS (pv 0)) pa_nil)) (pe_revL (pv 1)) (nomark _)) (pw_or1 (pt_cmpR op_ne (pe_call (ok_breaks_in T) (hr.mono (by decide)) (by rfl) T.g_breaks_in T.F_breaks_in.kp T.b_breaks_in .nil pass0 (pa_cons (pe_revS (pv 0)) pa_nil)) (pe_call (ok_breaks_in T) (hr.mono (by decide)) (by rfl) T.g_breaks_in T.F_breaks_in.kp T.b_breaks_in .nil pass0 (pa_cons (pv 0) pa_nil)) (nomark _))))) (pss_one (ps_ret pe_bl)) pss_nil) (pss_one (ps_ret (pe_cmpR (op_eqDK (K := K) rfl hr.units) (pe_call (ok_stays_in T) (hr.mono (by decide)) (by rfl) T.g_stays_in T.F_stays_in.kp T.b_stays_in .nil pass0 (pa_cons (pe_call (ok_other T) (hr.mono (by decide)) (by rfl) T.g_other T.F_other.kp T.b_other .nil pass0 (pa_cons (pv 0) pa_nil)) pa_nil)) (pv 1) (nomark _)))))))))), ?_⟩
    refine ⟨_, rfl, ?_⟩
    refine ⟨ms, x_some, _, rfl, hW.enter0, hM, fun r1 u4 H5 hM e3 h2 => ?_⟩
    replace hW := hW.ret0 e3
    refine ⟨_, rfl, ?_⟩
    refine ⟨ms, x_some, _, rfl, hW.enter0, hM, fun r6 u9 H10 hM e8 h7 hfr11 => ?_⟩
    obtain ⟨L12, vs13, rfl, nm15, hv16, hr17⟩ := rep_lstAt h7
    have nl14 := hfr11 L12 rfl
    have mu18 := mo_fresh (ds := r6.map (fun y_ : Int => (D.v (V.int y_)))) hW nl14 nm15 hv16 hr17 (by first | rfl | exact noMs_mapT (fun _ => rfl) _ | exact noMs_mapF (fun _ => rfl) _)
    replace h2 := rep_ext e8 (rep_new nl14 h2)
    replace hW := wd_fresh (hW.ret0 e8) hv16
    refine ⟨_, rfl, ?_⟩
    refine ⟨_, rfl, ?_⟩
    have hz19 := mo_rep_dr dr_here nm15 mu18
    obtain ⟨g20, hM⟩ := hM
    apply rep_neD (d := (D.lst (r6.map (fun y_ : Int => (D.v (V.int y_)))))) (e := (D.lst (r1.map (fun y_ : Int => (D.v (V.int y_)))))) hz19 (rep_dr dr_here h2) g20.1 g20.2.1 g20.2.2.1 g20.2.2.2
    refine ⟨_, rfl, ?_⟩
    refine ite3 hM (fun hM => ?_) (fun hM => ?_)
    · skip
      refine iteT ?_
      exact hQ false _ _ hM hW.out rep_v
    · skip
      refine ⟨_, rfl, ?_⟩
      have h21 := mo_rep_dr dr_here nm15 mu18
      apply rep_sumL h21
      refine ⟨_, rfl, ?_⟩
      obtain ⟨g22, hM⟩ := hM
      refine ⟨_, rfl, g22, ?_⟩
      refine ⟨rfl, ?_⟩
      refine ⟨_, rfl, ?_⟩
      refine ite3 hM (fun hM => ?_) (fun hM => ?_)
      · skip
        refine iteT ?_
        exact hQ false _ _ hM hW.out rep_v
      · skip
        refine ⟨_, rfl, ?_⟩
        refine ⟨(L12 :: ms), x_some, _, rfl, hW.enter0, hM, fun r23 u26 H27 hM e25 h24 => ?_⟩
        replace h2 := rep_ext e25 h2
        replace mu18 := mo_ext e25 mu18
        replace hW := hW.ret0 e25
        obtain rfl := of_v h24
        refine ⟨_, rfl, ?_⟩
        obtain ⟨g28, hM⟩ := hM
        refine ⟨_, rfl, g28, ?_⟩
        refine ⟨_, rfl, ?_⟩
        apply rep_lenL (e := (fun y_ : Int => (D.v (V.int y_)))) (xs := r1) h2
        refine ⟨_, _, rfl, rfl, ?_⟩
        refine ⟨rfl, ?_⟩
        refine ⟨_, rfl, ?_⟩
        refine ite3 hM (fun hM => ?_) (fun hM => ?_)
        · skip
          exact hQ false _ _ hM hW.out rep_v
        · skip
          refine ⟨_, rfl, ?_⟩
          refine ⟨mo_tyL mu18, ?_⟩
          apply mo_clearU mu18
          have mk29 := mo_setL mu18 (ds := []) repL_nil
          replace h2 := rep_put (o := .lst []) mu18.im h2
          replace hW := wd_put (o := .lst []) hW mu18
          replace mu18 := mk29
          generalize upd H27 L12 (.lst []) = H30 at *
          replace mu18 : MutO (L12 :: ms) [] H_0 H30 L12 (D.lst (([] : (List Int)).map (fun y_ : Int => (D.v (V.int y_))))) := mu18
          clear mk29
          have h31 := mo_rep_dr dr_here nm15 mu18
          replace hW := wd_dr dr_here mu18.hp hW
          replace h2 := rep_dr dr_here h2
          clear mu18
          refine ⟨_, rfl, ?_⟩
          refine ⟨rfl, ?_⟩
          refine ⟨ms, x_some, _, rfl, hW.enter0, hM, fun r32 u35 H36 hM e34 h33 hfr37 => ?_⟩
          replace h2 := rep_ext e34 h2
          replace h31 := rep_ext e34 h31
          replace hW := hW.ret0 e34
          refine ⟨_, rfl, ?_⟩
          obtain ⟨g38, hM⟩ := hM
          apply rep_neD (d := (D.lst (r32.map (fun y_ : Int => (D.v (V.int y_)))))) (e := (D.lst (r1.map (fun y_ : Int => (D.v (V.int y_)))))) h33 h2 g38.1 g38.2.1 g38.2.2.1 g38.2.2.2
          refine ⟨_, rfl, ?_⟩
          refine ite3 hM (fun hM => ?_) (fun hM => ?_)
          · skip
            refine iteT ?_
            exact hQ false _ _ hM hW.out rep_v
          · skip
            refine ⟨_, rfl, ?_⟩
            refine ⟨rfl, ?_⟩
            refine ⟨ms, x_some, _, rfl, hW.enter0, hM, fun r39 u42 H43 hM e41 h40 => ?_⟩
            replace h2 := rep_ext e41 h2
            replace h31 := rep_ext e41 h31
            replace h33 := rep_ext e41 h33
            replace hW := hW.ret0 e41
            obtain rfl := of_v h40
            refine ⟨_, rfl, ?_⟩
            obtain ⟨g44, hM⟩ := hM
            refine ⟨_, rfl, g44, ?_⟩
            refine ⟨_, rfl, ?_⟩
            apply rep_lenL (e := (fun y_ : Int => (D.v (V.int y_)))) (xs := r1) h2
            refine ⟨_, _, rfl, rfl, ?_⟩
            refine ⟨rfl, ?_⟩
            refine ⟨_, rfl, ?_⟩
            refine ite3 hM (fun hM => ?_) (fun hM => ?_)
            · skip
              exact hQ false _ _ hM hW.out rep_v
            · skip
              refine ⟨_, rfl, ?_⟩
              obtain ⟨g45, hM⟩ := hM
              refine ⟨_, rfl, g45, ?_⟩
              refine ⟨ms, (revS x_some), _, rfl, hW.enter0, hM, fun r46 u49 H50 hM e48 h47 hfr51 => ?_⟩
              replace h2 := rep_ext e48 h2
              replace h31 := rep_ext e48 h31
              replace h33 := rep_ext e48 h33
              replace hW := hW.ret0 e48
              refine ⟨_, rfl, ?_⟩
              apply rep_lsU h2
              intro vs52 hr53
              intro p54 n58
              have e55 := Rx.Ext.new (H := H50) (o := (HO.lst (vs52.reverse))) n58
              have hp56 : upd H50 p54 (HO.lst (vs52.reverse)) p54 = some (HO.lst (vs52.reverse)) := upd_same
              generalize upd H50 p54 (HO.lst (vs52.reverse)) = H59 at e55 hp56 ⊢
              have h57 : rep ms H59 (D.lst ((r1.reverse).map (fun y_ : Int => (D.v (V.int y_))))) (.ref p54) := rep_lst_mk hW n58 e55 hp56 (repL_revM (e := (fun y_ : Int => (D.v (V.int y_)))) (xs := r1) hr53)
              replace h2 := rep_ext e55 h2
              replace h31 := rep_ext e55 h31
              replace h33 := rep_ext e55 h33
              replace h47 := rep_ext e55 h47
              replace hW := hW.ret0 e55
              obtain ⟨g60, hM⟩ := hM
              apply rep_neD (d := (D.lst (r46.map (fun y_ : Int => (D.v (V.int y_)))))) (e := (D.lst ((r1.reverse).map (fun y_ : Int => (D.v (V.int y_)))))) h47 h57 g60.1 g60.2.1 g60.2.2.1 g60.2.2.2
              refine ⟨_, rfl, ?_⟩
              refine ite3 hM (fun hM => ?_) (fun hM => ?_)
              · skip
                refine iteT ?_
                exact hQ false _ _ hM hW.out rep_v
              · skip
                refine ⟨_, rfl, ?_⟩
                obtain ⟨g61, hM⟩ := hM
                refine ⟨_, rfl, g61, ?_⟩
                refine ⟨ms, (revS x_some), _, rfl, hW.enter0, hM, fun r62 u65 H66 hM e64 h63 => ?_⟩
                replace h2 := rep_ext e64 h2
                replace h31 := rep_ext e64 h31
                replace h33 := rep_ext e64 h33
                replace h47 := rep_ext e64 h47
                replace h57 := rep_ext e64 h57
                replace hW := hW.ret0 e64
                obtain rfl := of_v h63
                refine ⟨_, rfl, ?_⟩
                refine ⟨ms, x_some, _, rfl, hW.enter0, hM, fun r67 u70 H71 hM e69 h68 => ?_⟩
                replace h2 := rep_ext e69 h2
                replace h31 := rep_ext e69 h31
                replace h33 := rep_ext e69 h33
                replace h47 := rep_ext e69 h47
                replace h57 := rep_ext e69 h57
                replace hW := hW.ret0 e69
                obtain rfl := of_v h68
                refine ⟨rfl, ?_⟩
                refine ⟨_, rfl, ?_⟩
                refine ite3 hM (fun hM => ?_) (fun hM => ?_)
                · skip
                  exact hQ false _ _ hM hW.out rep_v
                · skip
                  refine ⟨_, rfl, ?_⟩
                  refine ⟨ms, x_some, _, rfl, hW.enter0, hM, fun r72 u75 H76 hM e74 h73 => ?_⟩
                  replace h2 := rep_ext e74 h2
                  replace h31 := rep_ext e74 h31
                  replace h33 := rep_ext e74 h33
                  replace h47 := rep_ext e74 h47
                  replace h57 := rep_ext e74 h57
                  replace hW := hW.ret0 e74
                  obtain rfl := of_v h73
                  refine ⟨ms, r72, _, rfl, hW.enter0, hM, fun r77 u80 H81 hM e79 h78 hfr82 => ?_⟩
                  replace h2 := rep_ext e79 h2
                  replace h31 := rep_ext e79 h31
                  replace h33 := rep_ext e79 h33
                  replace h47 := rep_ext e79 h47
                  replace h57 := rep_ext e79 h57
                  replace hW := hW.ret0 e79
                  refine ⟨_, rfl, ?_⟩
                  obtain ⟨g83, hM⟩ := hM
                  apply rep_eqD (d := (D.lst (r77.map (fun y_ : Int => (D.v (V.int y_)))))) (e := (D.lst (r1.map (fun y_ : Int => (D.v (V.int y_)))))) h78 h2 g83.1 g83.2.1 g83.2.2.1 g83.2.2.2
                  exact hQ (PyData.eqv (pyOf (D.lst (r77.map (fun y_ : Int => (D.v (V.int y_)))))) (pyOf (D.lst (r1.map (fun y_ : Int => (D.v (V.int y_))))))) _ _ hM hW.out rep_v
def M_joined_right (x_some : Str) (x_more : Str) (KM : Bool → Prop) : Prop :=
  ((x_some.length + x_more.length ≤ sizeLine) ∧ (x_some.length ≤ sizeLine ∧ ∃ c3, atI x_some.cps.toList (-(1 : Int)) = some c3 ∧ (x_more.length ≤ sizeLine ∧ ∃ c5, atI x_more.cps.toList (0 : Int) = some c5 ∧ (M_breaks_in (x_some ++ x_more) fun r6 => (M_breaks_in x_some fun r11 => (M_breaks_in x_more fun r16 => (if (!(decide (V.int r6 = V.int ((r11 + r16) + (if (decide (V.str (Str.mk #[c3]) = V.str (Str.mk #[c5]))) then (1 : Int) else 0))))) = true then (KM false) else (M_stays_in x_some fun r21 => (M_stays_in x_more fun r27 => (∃ KB33 : (List Int) → Prop, (if (decide (V.int (if (decide (V.str (Str.mk #[c3]) = V.str (Str.mk #[c5]))) then (1 : Int) else 0) = V.int (1 : Int))) = true then (∃ y44, atI r21 (-(1 : Int)) = some y44 ∧ (0 ≤ (0 : Int) ∧ ∃ g49 : Int.toNat (0 : Int) < r27.length, ∀ x51, x51 = r27[Int.toNat (0 : Int)]'g49 → ((cutM r21 none (some (-(1 : Int)))).length + ([(y44 + x51)] : List Int).length ≤ sizeLine ∧ (((cutM r21 none (some (-(1 : Int)))) ++ ([(y44 + x51)] : List Int)).length + (cutM r27 (some (1 : Int)) none).length ≤ sizeLine ∧ (KB33 (((cutM r21 none (some (-(1 : Int)))) ++ ([(y44 + x51)] : List Int)) ++ (cutM r27 (some (1 : Int)) none))))))) else (r21.length + r27.length ≤ sizeLine ∧ (KB33 (r21 ++ r27)))) ∧ ∀ r82 : (List Int), KB33 r82 → (M_stays_in (x_some ++ x_more) fun r85 => (((plainD (D.lst (r85.map (fun y_ : Int => (D.v (V.int y_))))) = true ∧ plainD (D.lst (r82.map (fun y_ : Int => (D.v (V.int y_))))) = true ∧ SeqAt.shaped (pyOf (D.lst (r85.map (fun y_ : Int => (D.v (V.int y_)))))) = true ∧ SeqAt.shaped (pyOf (D.lst (r82.map (fun y_ : Int => (D.v (V.int y_)))))) = true)) ∧ (KM (PyData.eqv (pyOf (D.lst (r85.map (fun y_ : Int => (D.v (V.int y_)))))) (pyOf (D.lst (r82.map (fun y_ : Int => (D.v (V.int y_))))))))))))))))))))
def sp_joined_right (A : Ad) : Sp := fun vs H Q _ => ∃ (ms : List Addr) (x_some : Str) (x_more : Str) (KM : Bool → Prop), vs = [V.str x_some, V.str x_more] ∧ Wd ms [] [] H H ∧ M_joined_right x_some x_more KM ∧ ∀ (r : Bool) (u : V) (H1 : Hp), KM r → Ret [] H H1 → rep ms H1 (D.v (V.bl r)) u → Q u H1
set_option maxHeartbeats 16000000 in
theorem ok_joined_right {P : Program} {w : World} {K : PySem.W.Frag} {mg : Str → Option Value} {base : Heap} {A : Ad} (T : Txt w K mg base A) : FnOk P w K mg base CX0 4 A.a_joined_right A.d_joined_right ["_law_some", "_law_more"] (sp_joined_right A) := by
  refine T.F_joined_right.ok sc_joined_right (fun vs H Q E h => ?_) (fun cdv A_ outer s_ H_0 vs Q E hr h => ?_)
  · obtain ⟨ms, x_some, x_more, KM, rfl, _⟩ := h
    rfl
  · obtain ⟨ms, x_some, x_more, KM, rfl, hW, hM, hQ⟩ := h
    unfold M_joined_right at hM
    refine ⟨_, (pss_cons (ps_set (i := 2) sc_joined_right.nd rfl (by first | exact Or.inl rfl | exact Or.inr rfl) (pe_op op_add_str (pv 0) (pv 1))) (pss_cons (ps_set (i := 3) sc_joined_right.nd rfl (by first | exact Or.inl rfl | exact Or.inr rfl) (pe_callTy call_int1 (by rfl) T.z_int (by decide +kernel) (pa_cons (pe_cmpR op_eq (pe_ix ix_str (pv 0) (pe_un un_neg pe_int) (fun _ _ => rfl)) (pe_ix ix_str (pv 1) pe_int (fun _ _ => rfl)) (nomark _)) pa_nil))) (pss_cons (ps_if (pt_cmpR op_ne (pe_call (ok_breaks_in T) (hr.mono (by decide)) (by rfl) T.g_breaks_in T.F_breaks_in.kp T.b_breaks_in .nil pass0 (pa_cons (pv 2) pa_nil)) (pe_op op_add (pe_op op_add (pe_call (ok_breaks_in T) (hr.mono (by decide)) (by rfl) T.g_breaks_in T.F_breaks_in.kp T.b_breaks_in .nil pass0 (pa_cons (pv 0) pa_nil)) (pe_call (ok_breaks_in T) (hr.mono (by decide)) (by rfl) T.g_breaks_in T.F_breaks_in.kp T.b_breaks_in .nil pass0 (pa_cons (pv 1) pa_nil))) (pv 3)) (nomark _)) (pss_one (ps_ret pe_bl)) pss_nil) (pss_cons (ps_par (i := 4) (j := 5) (by rfl) sc_joined_right.nd rfl rfl (by decide) rfl rfl (pa_cons (pe_call (ok_stays_in T) (hr.mono (by decide)) (by rfl) T.g_stays_in T.F_stays_in.kp T.b_stays_in .nil pass0 (pa_cons (pv 0) pa_nil)) (pa_cons (pe_call (ok_stays_in T) (hr.mono (by decide)) (by rfl) T.g_stays_in T.F_stays_in.kp T.b_stays_in .nil pass0 (pa_cons (pv 1) pa_nil)) pa_nil)) (by rfl)) (pss_cons (ps_set (i := 6) sc_joined_right.nd rfl (by first | exact Or.inl rfl | exact Or.inr rfl) (pe_up (pe_ifExp (pt_cmpR op_eq (pv 3) pe_int (nomark _)) (pe_op op_cat (pe_op op_cat (pe_slice (sl_listK (K := K) rfl) (pv 4) po_none (po_some (pe_un un_neg pe_int))) (pe_lst (pa_cons (pe_op op_add (pe_ix (ix_listK (K := K) rfl) (pv 4) (pe_un un_neg pe_int) (fun _ _ => rfl)) (pe_ix (ix_listK (K := K) rfl) (pv 5) pe_int (fun _ _ => rfl))) pa_nil))) (pe_slice (sl_listK (K := K) rfl) (pv 5) (po_some pe_int) po_none)) (pe_op op_cat (pv 4) (pv 5))))) (pss_one (ps_ret (pe_cmpR (op_eqDK (K := K) rfl hr.units) (pe_call (ok_stays_in T) (hr.mono (by decide)) (by rfl) T.g_stays_in T.F_stays_in.kp T.b_stays_in .nil pass0 (pa_cons (pv 2) pa_nil)) (pv 6) (nomark _))))))))), ?_⟩
    refine ⟨_, rfl, ?_⟩
    refine ⟨_, rfl, ?_⟩
    obtain ⟨g1, hM⟩ := hM
    refine ⟨_, _, rfl, rfl, g1, ?_⟩
    refine ⟨_, rfl, ?_⟩
    refine ⟨_, rfl, ?_⟩
    obtain ⟨g2, hM⟩ := hM
    obtain ⟨c3, c3h, hM⟩ := hM
    refine ⟨_, _, _, rfl, rfl, g2, c3h, ?_⟩
    refine ⟨_, rfl, ?_⟩
    obtain ⟨g4, hM⟩ := hM
    obtain ⟨c5, c5h, hM⟩ := hM
    refine ⟨_, _, _, rfl, rfl, g4, c5h, ?_⟩
    refine ⟨rfl, ?_⟩
    refine .inr ⟨_, rfl, ?_⟩
    refine ⟨_, rfl, ?_⟩
    refine ⟨ms, (x_some ++ x_more), _, rfl, hW.enter0, hM, fun r6 u9 H10 hM e8 h7 => ?_⟩
    replace hW := hW.ret0 e8
    obtain rfl := of_v h7
    refine ⟨_, rfl, ?_⟩
    refine ⟨ms, x_some, _, rfl, hW.enter0, hM, fun r11 u14 H15 hM e13 h12 => ?_⟩
    replace hW := hW.ret0 e13
    obtain rfl := of_v h12
    refine ⟨_, rfl, ?_⟩
    refine ⟨ms, x_more, _, rfl, hW.enter0, hM, fun r16 u19 H20 hM e18 h17 => ?_⟩
    replace hW := hW.ret0 e18
    obtain rfl := of_v h17
    refine ⟨_, _, rfl, rfl, ?_⟩
    refine ⟨_, rfl, ?_⟩
    refine ⟨_, _, rfl, rfl, ?_⟩
    refine ⟨rfl, ?_⟩
    refine ⟨_, rfl, ?_⟩
    refine ite3 hM (fun hM => ?_) (fun hM => ?_)
    · skip
      exact hQ false _ _ hM hW.out rep_v
    · skip
      refine ⟨_, rfl, ?_⟩
      refine ⟨ms, x_some, _, rfl, hW.enter0, hM, fun r21 u24 H25 hM e23 h22 hfr26 => ?_⟩
      replace hW := hW.ret0 e23
      refine ⟨_, rfl, ?_⟩
      refine ⟨ms, x_more, _, rfl, hW.enter0, hM, fun r27 u30 H31 hM e29 h28 hfr32 => ?_⟩
      replace h22 := rep_ext e29 h22
      replace hW := hW.ret0 e29
      refine ⟨_, _, rfl, ?_⟩
      obtain ⟨KB33, hM, hKKB33⟩ := hM
      refine ⟨fun v H1 => ∃ r : (List Int), KB33 r ∧ Wd ms [] [] H_0 H1 ∧ Keep ms H31 H1 ∧ rep ms H1 (D.lst (r.map (fun y_ : Int => (D.v (V.int y_))))) v, ?_, ?_⟩
      · skip
        have hj35 := Keep.refl (ms := ms) (H := H31)
        refine ⟨_, rfl, ?_⟩
        refine ⟨rfl, ?_⟩
        refine ⟨_, rfl, ?_⟩
        refine ite3 hM (fun hM => ?_) (fun hM => ?_)
        · skip
          refine ⟨_, rfl, ?_⟩
          refine ⟨_, rfl, ?_⟩
          refine ⟨_, rfl, ?_⟩
          apply rep_lsU h22
          intro vs36 hr37
          intro p38 n42
          have e39 := Rx.Ext.new (H := H31) (o := (HO.lst (cutV vs36 none (some (-(1 : Int)))))) n42
          have hp40 : upd H31 p38 (HO.lst (cutV vs36 none (some (-(1 : Int))))) p38 = some (HO.lst (cutV vs36 none (some (-(1 : Int))))) := upd_same
          generalize upd H31 p38 (HO.lst (cutV vs36 none (some (-(1 : Int))))) = H43 at e39 hp40 ⊢
          have h41 : rep ms H43 (D.lst ((cutM r21 none (some (-(1 : Int)))).map (fun y_ : Int => (D.v (V.int y_))))) (.ref p38) := rep_lst_mk hW n42 e39 hp40 (repL_cut (e := (fun y_ : Int => (D.v (V.int y_)))) (xs := r21) hr37)
          replace h22 := rep_ext e39 h22
          replace h28 := rep_ext e39 h28
          replace hj35 := keep_ext e39 hj35
          replace hW := hW.ret0 e39
          refine ⟨_, rfl, ?_⟩
          refine ⟨_, rfl, ?_⟩
          obtain ⟨y44, h45, hM⟩ := hM
          apply rep_ixN (e := (fun y_ : Int => (D.v (V.int y_)))) (xs := r21) (y := y44) h22 h45
          intro u47 h46
          obtain rfl := of_v h46
          refine ⟨_, rfl, ?_⟩
          obtain ⟨g48, g49, hM⟩ := hM
          apply rep_ixL (e := (fun y_ : Int => (D.v (V.int y_)))) (xs := r27) h28 g48 g49
          intro u52 h50
          obtain ⟨x51, x51e⟩ : ∃ x_, x_ = r27[Int.toNat (0 : Int)]'g49 := ⟨_, rfl⟩
          rw [← x51e] at h50
          replace hM := hM x51 x51e
          obtain rfl := of_v h50
          refine ⟨_, _, rfl, rfl, ?_⟩
          refine ⟨(by show 1 ≤ sizeLine; decide), ?_⟩
          intro p53 n57
          have e54 := Rx.Ext.new (H := H43) (o := (HO.lst [V.int (y44 + x51)])) n57
          have hp55 : upd H43 p53 (HO.lst [V.int (y44 + x51)]) p53 = some (HO.lst [V.int (y44 + x51)]) := upd_same
          generalize upd H43 p53 (HO.lst [V.int (y44 + x51)]) = H58 at e54 hp55 ⊢
          have h56 : rep ms H58 (D.lst (([(y44 + x51)] : List Int).map (fun y_ : Int => (D.v (V.int y_))))) (.ref p53) := rep_lst_mk hW n57 e54 hp55 (repL_cons rep_v repL_nil)
          replace h22 := rep_ext e54 h22
          replace h28 := rep_ext e54 h28
          replace hj35 := keep_ext e54 hj35
          replace h41 := rep_ext e54 h41
          replace hW := hW.ret0 e54
          obtain ⟨g59, hM⟩ := hM
          apply rep_cat (xs := (cutM r21 none (some (-(1 : Int))))) (ys := ([(y44 + x51)] : List Int)) (e := (fun y_ : Int => (D.v (V.int y_)))) hW h41 h56 g59
          intro p60 H63 e62 h61
          replace h22 := rep_ext e62 h22
          replace h28 := rep_ext e62 h28
          replace hj35 := keep_ext e62 hj35
          replace h41 := rep_ext e62 h41
          replace h56 := rep_ext e62 h56
          replace hW := hW.ret0 e62
          refine ⟨_, rfl, ?_⟩
          refine ⟨_, rfl, ?_⟩
          apply rep_lsU h28
          intro vs64 hr65
          intro p66 n70
          have e67 := Rx.Ext.new (H := H63) (o := (HO.lst (cutV vs64 (some (1 : Int)) none))) n70
          have hp68 : upd H63 p66 (HO.lst (cutV vs64 (some (1 : Int)) none)) p66 = some (HO.lst (cutV vs64 (some (1 : Int)) none)) := upd_same
          generalize upd H63 p66 (HO.lst (cutV vs64 (some (1 : Int)) none)) = H71 at e67 hp68 ⊢
          have h69 : rep ms H71 (D.lst ((cutM r27 (some (1 : Int)) none).map (fun y_ : Int => (D.v (V.int y_))))) (.ref p66) := rep_lst_mk hW n70 e67 hp68 (repL_cut (e := (fun y_ : Int => (D.v (V.int y_)))) (xs := r27) hr65)
          replace h22 := rep_ext e67 h22
          replace h28 := rep_ext e67 h28
          replace hj35 := keep_ext e67 hj35
          replace h41 := rep_ext e67 h41
          replace h56 := rep_ext e67 h56
          replace h61 := rep_ext e67 h61
          replace hW := hW.ret0 e67
          obtain ⟨g72, hM⟩ := hM
          apply rep_cat (xs := ((cutM r21 none (some (-(1 : Int)))) ++ ([(y44 + x51)] : List Int))) (ys := (cutM r27 (some (1 : Int)) none)) (e := (fun y_ : Int => (D.v (V.int y_)))) hW h61 h69 g72
          intro p73 H76 e75 h74
          replace h22 := rep_ext e75 h22
          replace h28 := rep_ext e75 h28
          replace hj35 := keep_ext e75 hj35
          replace h41 := rep_ext e75 h41
          replace h56 := rep_ext e75 h56
          replace h61 := rep_ext e75 h61
          replace h69 := rep_ext e75 h69
          replace hW := hW.ret0 e75
          exact ⟨(((cutM r21 none (some (-(1 : Int)))) ++ ([(y44 + x51)] : List Int)) ++ (cutM r27 (some (1 : Int)) none)), hM, hW, hj35, h74⟩
        · skip
          refine ⟨_, rfl, ?_⟩
          refine ⟨_, rfl, ?_⟩
          obtain ⟨g77, hM⟩ := hM
          apply rep_cat (xs := r21) (ys := r27) (e := (fun y_ : Int => (D.v (V.int y_)))) hW h22 h28 g77
          intro p78 H81 e80 h79
          replace h22 := rep_ext e80 h22
          replace h28 := rep_ext e80 h28
          replace hj35 := keep_ext e80 hj35
          replace hW := hW.ret0 e80
          exact ⟨(r21 ++ r27), hM, hW, hj35, h79⟩
      · skip
        rintro u84 Hj34 ⟨r82, hr, hW, hj35, h83⟩
        replace hM := hKKB33 r82 hr
        replace h22 := rep_keep hj35 h22
        replace h28 := rep_keep hj35 h28
        refine ⟨_, rfl, ?_⟩
        refine ⟨ms, (x_some ++ x_more), _, rfl, hW.enter0, hM, fun r85 u88 H89 hM e87 h86 hfr90 => ?_⟩
        replace h22 := rep_ext e87 h22
        replace h28 := rep_ext e87 h28
        replace h83 := rep_ext e87 h83
        replace hW := hW.ret0 e87
        refine ⟨_, rfl, ?_⟩
        obtain ⟨g91, hM⟩ := hM
        apply rep_eqD (d := (D.lst (r85.map (fun y_ : Int => (D.v (V.int y_)))))) (e := (D.lst (r82.map (fun y_ : Int => (D.v (V.int y_)))))) h86 h83 g91.1 g91.2.1 g91.2.2.1 g91.2.2.2
        exact hQ (PyData.eqv (pyOf (D.lst (r85.map (fun y_ : Int => (D.v (V.int y_)))))) (pyOf (D.lst (r82.map (fun y_ : Int => (D.v (V.int y_))))))) _ _ hM hW.out rep_v
def M_many (KM : Int → Prop) : Prop :=
  (M_draw (11 : Int) fun r1 => (M_pick ([(4 : Int), (4 : Int), (6 : Int), (6 : Int), (8 : Int), (10 : Int), (24 : Int), ((4 : Int) + ((2 : Int) * r1))] : List Int) fun r12 => (KM r12)))
def sp_many (A : Ad) : Sp := fun vs H Q _ => ∃ (ms : List Addr) (ap : Addr) (KM : Int → Prop), vs = [.ref ap] ∧ Wd ms [(ap, none)] [] H H ∧ M_many  KM ∧ ∀ (r : Int) (u : V) (H1 : Hp), KM r → Ret [(ap, none)] H H1 → rep ms H1 (D.v (V.int r)) u → Q u H1
set_option maxHeartbeats 16000000 in
theorem ok_many {P : Program} {w : World} {K : PySem.W.Frag} {mg : Str → Option Value} {base : Heap} {A : Ad} (T : Txt w K mg base A) : FnOk P w K mg base CX0 3 A.a_many A.d_many ["_law_pot_here"] (sp_many A) := by
  refine T.F_many.ok sc_many (fun vs H Q E h => ?_) (fun cdv A_ outer s_ H_0 vs Q E hr h => ?_)
  · obtain ⟨ms, ap, KM, rfl, _⟩ := h
    rfl
  · obtain ⟨ms, ap, KM, rfl, hW, hM, hQ⟩ := h
    unfold M_many at hM
    refine ⟨_, (pss_one (ps_ret (pe_call (ok_pick T) (hr.mono (by decide)) (by rfl) T.g_pick T.F_pick.kp T.b_pick .nil pass0 (pa_cons (pv 0) (pa_cons (pe_lst (pa_cons pe_int (pa_cons pe_int (pa_cons pe_int (pa_cons pe_int (pa_cons pe_int (pa_cons pe_int (pa_cons pe_int (pa_cons (pe_op op_add pe_int (pe_op op_mul pe_int (pe_call (ok_draw T) (hr.mono (by decide)) (by rfl) T.g_draw T.F_draw.kp T.b_draw .nil pass0 (pa_cons (pv 0) (pa_cons pe_int pa_nil))))) pa_nil))))))))) pa_nil))))), ?_⟩
    refine ⟨_, rfl, ?_⟩
    refine ⟨_, rfl, ?_⟩
    refine ⟨ms, ap, (11 : Int), _, rfl, hW.enterP, hM, fun r1 u4 H5 hM e3 h2 => ?_⟩
    replace hW := hW.retP e3
    obtain rfl := of_v h2
    refine ⟨_, _, rfl, rfl, .inl ⟨by decide, by decide⟩, ?_⟩
    refine ⟨_, _, rfl, rfl, ?_⟩
    refine ⟨(by show 8 ≤ sizeLine; decide), ?_⟩
    intro p6 n10
    have e7 := Rx.Ext.new (H := H5) (o := (HO.lst [V.int (4 : Int), V.int (4 : Int), V.int (6 : Int), V.int (6 : Int), V.int (8 : Int), V.int (10 : Int), V.int (24 : Int), V.int ((4 : Int) + ((2 : Int) * r1))])) n10
    have hp8 : upd H5 p6 (HO.lst [V.int (4 : Int), V.int (4 : Int), V.int (6 : Int), V.int (6 : Int), V.int (8 : Int), V.int (10 : Int), V.int (24 : Int), V.int ((4 : Int) + ((2 : Int) * r1))]) p6 = some (HO.lst [V.int (4 : Int), V.int (4 : Int), V.int (6 : Int), V.int (6 : Int), V.int (8 : Int), V.int (10 : Int), V.int (24 : Int), V.int ((4 : Int) + ((2 : Int) * r1))]) := upd_same
    generalize upd H5 p6 (HO.lst [V.int (4 : Int), V.int (4 : Int), V.int (6 : Int), V.int (6 : Int), V.int (8 : Int), V.int (10 : Int), V.int (24 : Int), V.int ((4 : Int) + ((2 : Int) * r1))]) = H11 at e7 hp8 ⊢
    have h9 : rep ms H11 (D.lst (([(4 : Int), (4 : Int), (6 : Int), (6 : Int), (8 : Int), (10 : Int), (24 : Int), ((4 : Int) + ((2 : Int) * r1))] : List Int).map (fun y_ : Int => (D.v (V.int y_))))) (.ref p6) := rep_lst_mk hW n10 e7 hp8 (repL_cons rep_v (repL_cons rep_v (repL_cons rep_v (repL_cons rep_v (repL_cons rep_v (repL_cons rep_v (repL_cons rep_v (repL_cons rep_v repL_nil))))))))
    replace hW := hW.ret0 e7
    refine ⟨ms, ap, _, ([(4 : Int), (4 : Int), (6 : Int), (6 : Int), (8 : Int), (10 : Int), (24 : Int), ((4 : Int) + ((2 : Int) * r1))] : List Int), _, rfl, hW.enterP, h9, hM, fun r12 u15 H16 hM e14 h13 => ?_⟩
    replace h9 := rep_ret hW e14 h9
    replace hW := hW.retP e14
    obtain rfl := of_v h13
    exact hQ r12 _ _ hM hW.out rep_v
def M_mixed (x_some : (List Int)) (KM : (List Int) → Prop) : Prop :=
  (forC (fun (x20 : Int) (s22 : (List Int) × (List Int)) (k23 : ((List Int) × (List Int)) → Prop) => (M_draw (s22.1.length : Int) fun r32 => ((0 ≤ r32 ∧ r32 < 2 ^ 63) ∧ ∃ y42, s22.1[Int.toNat r32]? = some y42 ∧ (s22.2.length < 16777216 ∧ (k23 ((s22.1.eraseIdx (Int.toNat r32)), (s22.2 ++ [y42]))))))) (rangeI (0 : Int) (x_some.length : Int)) (x_some, ([] : List Int)) fun s55 => (KM s55.2))
def sp_mixed (A : Ad) : Sp := fun vs H Q _ => ∃ (ms : List Addr) (ap : Addr) (v_some : V) (x_some : (List Int)) (KM : (List Int) → Prop), vs = [.ref ap, v_some] ∧ Wd ms [(ap, none)] [] H H ∧ rep ms H (D.lst (x_some.map (fun y_ : Int => (D.v (V.int y_))))) v_some ∧ M_mixed x_some KM ∧ ∀ (r : (List Int)) (u : V) (H1 : Hp), KM r → Ret [(ap, none)] H H1 → rep ms H1 (D.lst (r.map (fun y_ : Int => (D.v (V.int y_))))) u → Q u H1
set_option maxHeartbeats 16000000 in
theorem ok_mixed {P : Program} {w : World} {K : PySem.W.Frag} {mg : Str → Option Value} {base : Heap} {A : Ad} (T : Txt w K mg base A) : FnOk P w K mg base CX0 2 A.a_mixed A.d_mixed ["_law_pot_here", "_law_some"] (sp_mixed A) := by
  refine T.F_mixed.ok sc_mixed (fun vs H Q E h => ?_) (fun cdv A_ outer s_ H_0 vs Q E hr h => ?_)
  · obtain ⟨ms, ap, v_some, x_some, KM, rfl, _⟩ := h
    rfl
  · obtain ⟨ms, ap, v_some, x_some, KM, rfl, hW, h_some, hM, hQ⟩ := h
    unfold M_mixed at hM
    refine ⟨_, (pss_cons (ps_par (i := 2) (j := 3) (by rfl) sc_mixed.nd rfl rfl (by decide) rfl rfl (pa_cons (pe_callTy (call_list_ofK (K := K) rfl) (by rfl) T.z_list (by decide +kernel) (pa_cons (pv 1) pa_nil)) (pa_cons (pe_lst pa_nil) pa_nil)) (by rfl)) (pss_cons (ps_for PassesOwn.never rfl (pi_rangeW1 (by rfl) T.z_range (pa_cons (pe_callB (call_lenK (K := K) rfl) (by rfl) T.z_len PySem.boot_len (pa_cons (pv 1) pa_nil)) pa_nil)) (pg_name (i := 4) sc_mixed.nd rfl (by first | exact Or.inl rfl | exact Or.inr rfl)) (pss_one (ps_expr (pe_bmK (K := K) rfl PySem.F.plainAttrs_list PySem.F.slot_list_append PySem.F.type_list_append mt_append (pv 3) (pa_cons (pe_bmK (K := K) rfl PySem.F.plainAttrs_list PySem.F.slot_list_pop PySem.F.type_list_pop mt_popAt (pv 2) (pa_cons (pe_call (ok_draw T) (hr.mono (by decide)) (by rfl) T.g_draw T.F_draw.kp T.b_draw .nil pass0 (pa_cons (pv 0) (pa_cons (pe_callB (call_lenK (K := K) rfl) (by rfl) T.z_len PySem.boot_len (pa_cons (pv 2) pa_nil)) pa_nil))) pa_nil)) pa_nil))))) (pss_one (ps_ret (pv 3))))), ?_⟩
    refine ⟨_, rfl, ?_⟩
    apply rep_listL h_some
    intro ys1 hr2
    intro L9 nl10
    have nm11 := nm_new hW nl10
    have mu12 := mo_newL (ds := x_some.map (fun y_ : Int => (D.v (V.int y_)))) (vs := ys1) hW nl10 hr2
    replace h_some := rep_cell (o := .lst ys1) nl10 h_some
    replace hW := wd_cell (o := .lst ys1) hW nl10
    generalize upd H_0 L9 (.lst ys1) = H13 at *
    replace mu12 : MutO (L9 :: ms) [(ap, none)] H_0 H13 L9 (D.lst (x_some.map (fun y_ : Int => (D.v (V.int y_))))) := mu12
    refine ⟨(by show 0 ≤ sizeLine; decide), ?_⟩
    intro L14 nl15
    have nm16 := nm_new hW nl15
    have mu17 := mo_newL (ds := ([] : List Int).map (fun y_ : Int => (D.v (V.int y_)))) (vs := []) hW nl15 repL_nil
    have ne18 := mo_ne nl15 mu12
    replace mu12 := mo_cell (o := .lst []) nl15 mu12
    replace h_some := rep_cell (o := .lst []) nl15 h_some
    replace hW := wd_cell (o := .lst []) hW nl15
    generalize upd H13 L14 (.lst []) = H19 at *
    replace mu17 : MutO (L14 :: (L9 :: ms)) [(ap, none)] H_0 H19 L14 (D.lst (([] : List Int).map (fun y_ : Int => (D.v (V.int y_))))) := mu17
    refine ⟨_, _, rfl, ?_⟩
    refine ⟨_, rfl, ?_⟩
    apply rep_lenL (e := (fun y_ : Int => (D.v (V.int y_)))) (xs := x_some) h_some
    refine ⟨_, rfl, ?_⟩
    refine for_rangeG (S := (List Int) × (List Int)) (lo := (0 : Int)) (hi := (x_some.length : Int)) (N := Int.toNat (x_some.length : Int)) (fun (s : (List Int) × (List Int)) σ_ h_ => ∃ (w_0 : Option V), σ_ = [some (V.ref ap), some v_some, some (V.ref L9), some (V.ref L14), w_0] ∧ Wd (L14 :: (L9 :: ms)) [(ap, none)] [] H_0 h_ ∧ Keep (L14 :: (L9 :: ms)) H19 h_ ∧ MutO (L14 :: (L9 :: ms)) [(ap, none)] H_0 h_ L9 (D.lst (s.1.map (fun y_ : Int => (D.v (V.int y_))))) ∧ MutO (L14 :: (L9 :: ms)) [(ap, none)] H_0 h_ L14 (D.lst (s.2.map (fun y_ : Int => (D.v (V.int y_)))))) (x_some, ([] : List Int)) (by simp) hM ⟨_, rfl, hW, Keep.refl, mu12, mu17⟩ ?_ ?_
    · skip
      clear mu12
      clear mu17
      rintro x20 s22 k23 _ H31 ⟨w28, rfl, hW, hk24, mu29, mu30⟩ hM Nx26 hN27
      replace h_some := rep_keep hk24 h_some
      refine ⟨_, rfl, ?_⟩
      refine ⟨mo_tyL mu30, ?_⟩
      refine ⟨_, rfl, ?_⟩
      refine ⟨mo_tyL mu29, ?_⟩
      refine ⟨_, rfl, ?_⟩
      refine ⟨_, rfl, ?_⟩
      apply mo_len (e := (fun y_ : Int => (D.v (V.int y_)))) (xs := s22.1) mu29
      refine ⟨(L14 :: (L9 :: ms)), ap, (s22.1.length : Int), _, rfl, hW.enterP, hM, fun r32 u35 H36 hM e34 h33 => ?_⟩
      replace h_some := rep_ret hW e34 h_some
      replace hk24 := keep_ret hW e34 hk24
      replace mu29 := mo_ret hW e34 mu29
      replace mu30 := mo_ret hW e34 mu30
      replace hW := hW.retP e34
      obtain rfl := of_v h33
      obtain ⟨g37, hM⟩ := hM
      obtain ⟨y42, hy43, hM⟩ := hM
      apply mo_popU (e := (fun y_ : Int => (D.v (V.int y_)))) (xs := s22.1) (y := y42) mu29 g37.1 hy43 g37.2
      intro vs38 u44 hr40 h45
      have mk46 := mo_setL mu29 (repL_erase (e := (fun y_ : Int => (D.v (V.int y_)))) (Int.toNat r32) hr40)
      replace mu30 := mo_put (o := .lst (vs38.eraseIdx (Int.toNat r32))) mu29.im (Ne.symm ne18) mu30
      replace h_some := rep_put (o := .lst (vs38.eraseIdx (Int.toNat r32))) mu29.im h_some
      replace hk24 := keep_put (o := .lst (vs38.eraseIdx (Int.toNat r32))) mu29.im hk24
      replace h45 := rep_put (o := .lst (vs38.eraseIdx (Int.toNat r32))) mu29.im h45
      replace hW := wd_put (o := .lst (vs38.eraseIdx (Int.toNat r32))) hW mu29
      replace mu29 := mk46
      generalize upd H36 L9 (.lst (vs38.eraseIdx (Int.toNat r32))) = H47 at *
      replace mu29 : MutO (L14 :: (L9 :: ms)) [(ap, none)] H_0 H47 L9 (D.lst ((s22.1.eraseIdx (Int.toNat r32)).map (fun y_ : Int => (D.v (V.int y_))))) := mu29
      clear mk46
      obtain rfl := of_v h45
      obtain ⟨g48, hM⟩ := hM
      apply mo_appU mu30 (by rw [List.length_map]; exact g48)
      intro vs49 hr51
      have mk53 := mo_setL mu30 (repL_snoc (e := (fun y_ : Int => (D.v (V.int y_)))) (xs := s22.2) (y := y42) hr51 rep_v)
      replace mu29 := mo_put (o := .lst (vs49 ++ [V.int y42])) mu30.im ne18 mu29
      replace h_some := rep_put (o := .lst (vs49 ++ [V.int y42])) mu30.im h_some
      replace hk24 := keep_put (o := .lst (vs49 ++ [V.int y42])) mu30.im hk24
      replace hW := wd_put (o := .lst (vs49 ++ [V.int y42])) hW mu30
      replace mu30 := mk53
      generalize upd H47 L14 (.lst (vs49 ++ [V.int y42])) = H54 at *
      replace mu30 : MutO (L14 :: (L9 :: ms)) [(ap, none)] H_0 H54 L14 (D.lst ((s22.2 ++ [y42]).map (fun y_ : Int => (D.v (V.int y_))))) := mu30
      clear mk53
      exact hN27 ((s22.1.eraseIdx (Int.toNat r32)), (s22.2 ++ [y42])) _ _ hM ⟨_, rfl, hW, hk24, mu29, mu30⟩
    · skip
      clear mu12
      clear mu17
      rintro s55 _ H60 hM ⟨w57, rfl, hW, hk56, mu58, mu59⟩
      replace h_some := rep_keep hk56 h_some
      have h61 := mo_rep_dr (dr_cons dr_here) (nm_cons ne18 nm11) mu58
      replace hW := wd_dr (dr_cons dr_here) mu58.hp hW
      replace h_some := rep_dr (dr_cons dr_here) h_some
      replace mu59 := mo_dr (dr_cons dr_here) (Ne.symm ne18) mu59
      replace nm16 := nm_dr dr_here nm16
      clear mu58
      have h62 := mo_rep_dr dr_here nm16 mu59
      replace hW := wd_dr dr_here mu59.hp hW
      replace h_some := rep_dr dr_here h_some
      replace h61 := rep_dr dr_here h61
      clear mu59
      refine ⟨_, rfl, ?_⟩
      exact hQ s55.2 _ _ hM hW.out h62
def M_day (x_many_here : Int) (KM : (List (Int × Int)) → Prop) : Prop :=
  (RgOk (0 : Int) x_many_here ∧ (M_mixed (rangeI (0 : Int) x_many_here) fun r8 => ((rangeI (0 : Int) (x_many_here / (2 : Int))).length < 100000 ∧ mapC (fun (x24 : Int) (k17 : (Int × Int) → Prop) => (0 ≤ ((2 : Int) * x24) ∧ ∃ g31 : Int.toNat ((2 : Int) * x24) < r8.length, ∀ x33, x33 = r8[Int.toNat ((2 : Int) * x24)]'g31 → (0 ≤ (((2 : Int) * x24) + (1 : Int)) ∧ ∃ g36 : Int.toNat (((2 : Int) * x24) + (1 : Int)) < r8.length, ∀ x38, x38 = r8[Int.toNat (((2 : Int) * x24) + (1 : Int))]'g36 → (k17 (x33, x38))))) (rangeI (0 : Int) (x_many_here / (2 : Int))) [] fun ys51 => (KM ys51))))
def sp_day (A : Ad) : Sp := fun vs H Q _ => ∃ (ms : List Addr) (ap : Addr) (x_many_here : Int) (KM : (List (Int × Int)) → Prop), vs = [.ref ap, V.int x_many_here] ∧ Wd ms [(ap, none)] [] H H ∧ M_day x_many_here KM ∧ ∀ (r : (List (Int × Int))) (u : V) (H1 : Hp), KM r → Ret [(ap, none)] H H1 → rep ms H1 (D.lst (r.map (fun y_ : (Int × Int) => (D.tup [(D.v (V.int y_.1)), (D.v (V.int y_.2))])))) u → Q u H1
set_option maxHeartbeats 16000000 in
theorem ok_day {P : Program} {w : World} {K : PySem.W.Frag} {mg : Str → Option Value} {base : Heap} {A : Ad} (T : Txt w K mg base A) : FnOk P w K mg base CX0 3 A.a_day A.d_day ["_law_pot_here", "_law_many_here"] (sp_day A) := by
  refine T.F_day.ok sc_day (fun vs H Q E h => ?_) (fun cdv A_ outer s_ H_0 vs Q E hr h => ?_)
  · obtain ⟨ms, ap, x_many_here, KM, rfl, _⟩ := h
    rfl
  · obtain ⟨ms, ap, x_many_here, KM, rfl, hW, hM, hQ⟩ := h
    unfold M_day at hM
    refine ⟨_, (pss_cons (ps_set (i := 2) sc_day.nd rfl (by first | exact Or.inl rfl | exact Or.inr rfl) (pe_call (ok_mixed T) (hr.mono (by decide)) (by rfl) T.g_mixed T.F_mixed.kp T.b_mixed .nil pass0 (pa_cons (pv 0) (pa_cons (pe_listRg rfl (by rfl) T.z_list (prg_1 (by rfl) T.z_range (pv 1))) pa_nil)))) (pss_one (ps_ret (pe_lc (own := [("_law_k", 3)]) (g := gName 3) rfl sc_day.nd (pi_rangeW1 (by rfl) T.z_range (pa_cons (pe_op op_fdivW (pv 1) pe_int) pa_nil)) (blkOk_by (N := ["_law_pot_here", "_law_many_here", "_law_lot", "_law_k"]) (sc := defScope s_day) (by decide +kernel)) (fun _ _ _ _ _ => pg_name (i := 3) sc_day.nd rfl (by first | exact Or.inl rfl | exact Or.inr rfl)) (fun _ _ _ _ _ => pts_nil) (fun _ _ _ _ _ => (pe_tup (pa_cons (pe_ix (ix_listK (K := K) rfl) (pv 2) (pe_op op_mul pe_int (pv 3)) (fun _ _ => rfl)) (pa_cons (pe_ix (ix_listK (K := K) rfl) (pv 2) (pe_op op_add (pe_op op_mul pe_int (pv 3)) pe_int) (fun _ _ => rfl)) pa_nil)))))))), ?_⟩
    refine ⟨_, rfl, ?_⟩
    refine ⟨_, rfl, ?_⟩
    obtain ⟨g1, hM⟩ := hM
    refine ⟨_, rfl, g1, ?_⟩
    intro p2 n6
    have e3 := Rx.Ext.new (H := H_0) (o := (HO.lst (rgV (0 : Int) x_many_here))) n6
    have hp4 : upd H_0 p2 (HO.lst (rgV (0 : Int) x_many_here)) p2 = some (HO.lst (rgV (0 : Int) x_many_here)) := upd_same
    generalize upd H_0 p2 (HO.lst (rgV (0 : Int) x_many_here)) = H7 at e3 hp4 ⊢
    have h5 : rep ms H7 (D.lst ((rangeI (0 : Int) x_many_here).map (fun y_ : Int => (D.v (V.int y_))))) (.ref p2) := rep_rg_mk hW n6 e3 hp4
    replace hW := hW.ret0 e3
    refine ⟨ms, ap, _, (rangeI (0 : Int) x_many_here), _, rfl, hW.enterP, h5, hM, fun r8 u11 H12 hM e10 h9 => ?_⟩
    replace h5 := rep_ret hW e10 h5
    replace hW := hW.retP e10
    refine ⟨_, rfl, ?_⟩
    refine ⟨_, _, rfl, rfl, ⟨by decide, by decide⟩, ?_⟩
    refine ⟨_, rfl, ?_⟩
    refine fun L13 nl14 => ?_
    have nm28 := nm_new hW nl14
    refine lc_rangeG (L := L13) (fun n_ ys_ h_ => Wd (L13 :: ms) [(ap, none)] [] H_0 h_ ∧ Keep (L13 :: ms) H12 h_ ∧ MutO (L13 :: ms) [(ap, none)] H_0 h_ L13 (D.lst (ys_.map (fun y_ : (Int × Int) => (D.tup [(D.v (V.int y_.1)), (D.v (V.int y_.2))])))) ∧ ys_.length ≤ n_) (lo := (0 : Int)) (hi := (x_many_here / (2 : Int))) (N := Int.toNat (x_many_here / (2 : Int))) (by simp) hM ⟨wd_cell hW nl14, keep_cell nl14 Keep.refl, mo_newL (ds := []) hW nl14 repL_nil, Nat.le_refl _⟩ ?_ ?_
    · skip
      rintro x24  n15 ys16 k17 H29 hn ⟨hW, hk18, mu19, ln20⟩ hM Nx23 hN21
      replace h5 := rep_keep hk18 (rep_new nl14 h5)
      replace h9 := rep_keep hk18 (rep_new nl14 h9)
      refine ⟨rfl, ?_⟩
      refine tyes_of ?_
      refine ⟨_, rfl, ?_⟩
      refine ⟨_, rfl, ?_⟩
      refine ⟨_, _, rfl, rfl, .inl ⟨by decide, by decide⟩, ?_⟩
      obtain ⟨g30, g31, hM⟩ := hM
      apply rep_ixL (e := (fun y_ : Int => (D.v (V.int y_)))) (xs := r8) h9 g30 g31
      intro u34 h32
      obtain ⟨x33, x33e⟩ : ∃ x_, x_ = r8[Int.toNat ((2 : Int) * x24)]'g31 := ⟨_, rfl⟩
      rw [← x33e] at h32
      replace hM := hM x33 x33e
      obtain rfl := of_v h32
      refine ⟨_, rfl, ?_⟩
      refine ⟨_, rfl, ?_⟩
      refine ⟨_, _, rfl, rfl, .inl ⟨by decide, by decide⟩, ?_⟩
      refine ⟨_, _, rfl, rfl, ?_⟩
      obtain ⟨g35, g36, hM⟩ := hM
      apply rep_ixL (e := (fun y_ : Int => (D.v (V.int y_)))) (xs := r8) h9 g35 g36
      intro u39 h37
      obtain ⟨x38, x38e⟩ : ∃ x_, x_ = r8[Int.toNat (((2 : Int) * x24) + (1 : Int))]'g36 := ⟨_, rfl⟩
      rw [← x38e] at h37
      replace hM := hM x38 x38e
      obtain rfl := of_v h37
      refine ⟨(by show 2 ≤ sizeLine; decide), ?_⟩
      intro p40 n44
      have e41 := Rx.Ext.new (H := H29) (o := (HO.tup [V.int x33, V.int x38])) n44
      have hp42 : upd H29 p40 (HO.tup [V.int x33, V.int x38]) p40 = some (HO.tup [V.int x33, V.int x38]) := upd_same
      generalize upd H29 p40 (HO.tup [V.int x33, V.int x38]) = H45 at e41 hp42 ⊢
      have h43 : rep (L13 :: ms) H45 (D.tup [(D.v (V.int x33)), (D.v (V.int x38))]) (.ref p40) := rep_tup_mk hW n44 e41 hp42 (repL_cons rep_v (repL_cons rep_v repL_nil))
      replace h5 := rep_ext e41 h5
      replace h9 := rep_ext e41 h9
      replace hk18 := keep_ext e41 hk18
      replace mu19 := mo_ext e41 mu19
      replace hW := hW.ret0 e41
      refine mo_end mu19 hn (by rw [List.length_map]; exact ln20) fun vs46 hr47 => ?_
      have mk49 := mo_setL mu19 (repL_snoc (e := (fun y_ : (Int × Int) => (D.tup [(D.v (V.int y_.1)), (D.v (V.int y_.2))]))) (xs := ys16) (y := (x33, x38)) hr47 h43)
      replace h5 := rep_put (o := .lst (vs46 ++ [(V.ref p40)])) mu19.im h5
      replace h9 := rep_put (o := .lst (vs46 ++ [(V.ref p40)])) mu19.im h9
      replace hk18 := keep_put (o := .lst (vs46 ++ [(V.ref p40)])) mu19.im hk18
      replace h43 := rep_put (o := .lst (vs46 ++ [(V.ref p40)])) mu19.im h43
      replace hW := wd_put (o := .lst (vs46 ++ [(V.ref p40)])) hW mu19
      replace mu19 := mk49
      generalize upd H45 L13 (.lst (vs46 ++ [(V.ref p40)])) = H50 at *
      replace mu19 : MutO (L13 :: ms) [(ap, none)] H_0 H50 L13 (D.lst ((ys16 ++ [(x33, x38)]).map (fun y_ : (Int × Int) => (D.tup [(D.v (V.int y_.1)), (D.v (V.int y_.2))])))) := mu19
      clear mk49
      exact hN21 (x33, x38) _ hM ⟨hW, hk18, mu19, by rw [List.length_append]; exact Nat.add_le_add_right ln20 1⟩
    · skip
      rintro n15 ys51 H52 hM ⟨hW, hk18, mu19, ln20⟩
      replace h5 := rep_keep hk18 (rep_new nl14 h5)
      replace h9 := rep_keep hk18 (rep_new nl14 h9)
      clear hk18 ln20
      have h53 := mo_rep_dr dr_here nm28 mu19
      replace hW := wd_dr dr_here mu19.hp hW
      replace h5 := rep_dr dr_here h5
      replace h9 := rep_dr dr_here h9
      clear mu19
      exact hQ ys51 _ _ hM hW.out h53
def M_pick_plltii (x_some : (List (List (Int × Int)))) (KM : (List (Int × Int)) → Prop) : Prop :=
  (M_draw (x_some.length : Int) fun r1 => (0 ≤ r1 ∧ ∃ g7 : Int.toNat r1 < x_some.length, ∀ x9, x9 = x_some[Int.toNat r1]'g7 → (KM x9)))
def sp_pick_plltii (A : Ad) : Sp := fun vs H Q _ => ∃ (ms : List Addr) (ap : Addr) (v_some : V) (x_some : (List (List (Int × Int)))) (KM : (List (Int × Int)) → Prop), vs = [.ref ap, v_some] ∧ Wd ms [(ap, none)] [] H H ∧ rep ms H (D.lst (x_some.map (fun y_ : (List (Int × Int)) => (D.lst (y_.map (fun y_ : (Int × Int) => (D.tup [(D.v (V.int y_.1)), (D.v (V.int y_.2))]))))))) v_some ∧ M_pick_plltii x_some KM ∧ ∀ (r : (List (Int × Int))) (u : V) (H1 : Hp), KM r → Ret [(ap, none)] H H1 → rep ms H1 (D.lst (r.map (fun y_ : (Int × Int) => (D.tup [(D.v (V.int y_.1)), (D.v (V.int y_.2))])))) u → Q u H1
set_option maxHeartbeats 16000000 in
theorem ok_pick_plltii {P : Program} {w : World} {K : PySem.W.Frag} {mg : Str → Option Value} {base : Heap} {A : Ad} (T : Txt w K mg base A) : FnOk P w K mg base CX0 2 A.a_pick A.d_pick ["_law_pot_here", "_law_some"] (sp_pick_plltii A) := by
  refine T.F_pick.ok sc_pick (fun vs H Q E h => ?_) (fun cdv A_ outer s_ H_0 vs Q E hr h => ?_)
  · obtain ⟨ms, ap, v_some, x_some, KM, rfl, _⟩ := h
    rfl
  · obtain ⟨ms, ap, v_some, x_some, KM, rfl, hW, h_some, hM, hQ⟩ := h
    unfold M_pick_plltii at hM
    refine ⟨_, (pss_one (ps_ret (pe_ix (ix_listK (K := K) rfl) (pv 1) (pe_call (ok_draw T) (hr.mono (by decide)) (by rfl) T.g_draw T.F_draw.kp T.b_draw .nil pass0 (pa_cons (pv 0) (pa_cons (pe_callB (call_lenK (K := K) rfl) (by rfl) T.z_len PySem.boot_len (pa_cons (pv 1) pa_nil)) pa_nil))) (fun _ _ => rfl)))), ?_⟩
    refine ⟨_, rfl, ?_⟩
    refine ⟨_, rfl, ?_⟩
    refine ⟨_, rfl, ?_⟩
    apply rep_lenL (e := (fun y_ : (List (Int × Int)) => (D.lst (y_.map (fun y_ : (Int × Int) => (D.tup [(D.v (V.int y_.1)), (D.v (V.int y_.2))])))))) (xs := x_some) h_some
    refine ⟨ms, ap, (x_some.length : Int), _, rfl, hW.enterP, hM, fun r1 u4 H5 hM e3 h2 => ?_⟩
    replace h_some := rep_ret hW e3 h_some
    replace hW := hW.retP e3
    obtain rfl := of_v h2
    obtain ⟨g6, g7, hM⟩ := hM
    apply rep_ixL (e := (fun y_ : (List (Int × Int)) => (D.lst (y_.map (fun y_ : (Int × Int) => (D.tup [(D.v (V.int y_.1)), (D.v (V.int y_.2))])))))) (xs := x_some) h_some g6 g7
    intro u10 h8
    obtain ⟨x9, x9e⟩ : ∃ x_, x_ = x_some[Int.toNat r1]'g7 := ⟨_, rfl⟩
    rw [← x9e] at h8
    replace hM := hM x9 x9e
    exact hQ x9 _ _ hM hW.out h8
def M_days (x_many_here : Int) (x_most : Int) (KM : (List (List (Int × Int))) → Prop) : Prop :=
  (M_day x_many_here fun r1 => (M_draw x_most fun r11 => (forC (fun (x16 : Int) (s18 : (List (List (Int × Int)))) (k19 : ((List (List (Int × Int)))) → Prop) => (M_draw (4 : Int) fun r29 => ((0 < s18.length) ∧ (M_pick_plltii s18 fun r35 => (if (decide (r29 < (2 : Int))) = true then (M_day x_many_here fun r40 => (s18.length < 16777216 ∧ (k19 ((s18 ++ [r40]))))) else (if (decide (V.int r29 = V.int (2 : Int))) = true then (r35.length < 100000 ∧ mapC (fun (x68 : (Int × Int)) (k61 : (Int × Int) → Prop) => (∃ KB87 : (Int × Int) → Prop, (M_draw (2 : Int) fun r90 => (if (decide (V.int r90 = V.int (0 : Int))) = true then (KB87 (x68.2, x68.1)) else (KB87 (x68.1, x68.2)))) ∧ ∀ r107 : (Int × Int), KB87 r107 → (k61 r107))) r35 [] fun ys117 => (s18.length < 16777216 ∧ (k19 ((s18 ++ [ys117]))))) else (s18.length < 16777216 ∧ (k19 ((s18 ++ [r35])))))))))) (rangeI (0 : Int) r11) (([r1] : List (List (Int × Int)))) fun s135 => (KM s135))))
def sp_days (A : Ad) : Sp := fun vs H Q _ => ∃ (ms : List Addr) (ap : Addr) (x_many_here : Int) (x_most : Int) (KM : (List (List (Int × Int))) → Prop), vs = [.ref ap, V.int x_many_here, V.int x_most] ∧ Wd ms [(ap, none)] [] H H ∧ M_days x_many_here x_most KM ∧ ∀ (r : (List (List (Int × Int)))) (u : V) (H1 : Hp), KM r → Ret [(ap, none)] H H1 → rep ms H1 (D.lst (r.map (fun y_ : (List (Int × Int)) => (D.lst (y_.map (fun y_ : (Int × Int) => (D.tup [(D.v (V.int y_.1)), (D.v (V.int y_.2))]))))))) u → Q u H1
set_option maxHeartbeats 16000000 in
theorem ok_days {P : Program} {w : World} {K : PySem.W.Frag} {mg : Str → Option Value} {base : Heap} {A : Ad} (T : Txt w K mg base A) : FnOk P w K mg base CX0 4 A.a_days A.d_days ["_law_pot_here", "_law_many_here", "_law_most"] (sp_days A) := by
  refine T.F_days.ok sc_days (fun vs H Q E h => ?_) (fun cdv A_ outer s_ H_0 vs Q E hr h => ?_)
  · obtain ⟨ms, ap, x_many_here, x_most, KM, rfl, _⟩ := h
    rfl
  · obtain ⟨ms, ap, x_many_here, x_most, KM, rfl, hW, hM, hQ⟩ := h
    unfold M_days at hM
    refine ⟨_, (pss_cons (ps_set (i := 3) sc_days.nd rfl (by first | exact Or.inl rfl | exact Or.inr rfl) (pe_lst (pa_cons (pe_call (ok_day T) (hr.mono (by decide)) (by rfl) T.g_day T.F_day.kp T.b_day .nil pass0 (pa_cons (pv 0) (pa_cons (pv 1) pa_nil))) pa_nil))) (pss_cons (ps_for PassesOwn.never rfl (pi_rangeW1 (by rfl) T.z_range (pa_cons (pe_call (ok_draw T) (hr.mono (by decide)) (by rfl) T.g_draw T.F_draw.kp T.b_draw .nil pass0 (pa_cons (pv 0) (pa_cons (pv 2) pa_nil))) pa_nil)) (pg_name (i := 4) sc_days.nd rfl (by first | exact Or.inl rfl | exact Or.inr rfl)) (pss_cons (ps_par (i := 5) (j := 6) (by rfl) sc_days.nd rfl rfl (by decide) rfl rfl (pa_cons (pe_call (ok_draw T) (hr.mono (by decide)) (by rfl) T.g_draw T.F_draw.kp T.b_draw .nil pass0 (pa_cons (pv 0) (pa_cons pe_int pa_nil))) (pa_cons (pe_call (ok_pick_plltii T) (hr.mono (by decide)) (by rfl) T.g_pick T.F_pick.kp T.b_pick .nil pass0 (pa_cons (pv 0) (pa_cons (pv 3) pa_nil))) pa_nil)) (by rfl)) (pss_cons (ps_if (pt_cmpR op_lt (pv 5) pe_int (nomark _)) (pss_one (ps_set (i := 6) sc_days.nd rfl (by first | exact Or.inl rfl | exact Or.inr rfl) (pe_call (ok_day T) (hr.mono (by decide)) (by rfl) T.g_day T.F_day.kp T.b_day .nil pass0 (pa_cons (pv 0) (pa_cons (pv 1) pa_nil))))) (pss_one (ps_if (pt_cmpR op_eq (pv 5) pe_int (nomark _)) (pss_one (ps_setLc (i := 6) (own := [("_law_home", 7), ("_law_away", 8)]) (g := (gTup K 2 (gCons (gName 7) (gCons (gName 8) gNil)))) rfl sc_days.nd rfl rfl (sw_true rfl rfl rfl (by decide +kernel)) (pi_list (pv 6)) (blkOk_by (N := ["_law_pot_here", "_law_many_here", "_law_most", "_law_found", "_law_turn", "_law_way", "_law_near", "_law_home", "_law_away"]) (sc := defScope s_days) (by decide +kernel)) (fun _ _ _ _ _ => (pg_tup rfl (pgs_cons (pg_name (i := 7) sc_days.nd rfl (by first | exact Or.inl rfl | exact Or.inr rfl)) (pgs_cons (pg_name (i := 8) sc_days.nd rfl (by first | exact Or.inl rfl | exact Or.inr rfl)) pgs_nil)))) (fun _ _ _ _ _ => pts_nil) (fun _ _ _ _ _ => (pe_up (pe_ifExp (pt_cmpR op_eq (pe_call (ok_draw T) (hr.mono (by decide)) (by rfl) T.g_draw T.F_draw.kp T.b_draw .nil pass0 (pa_cons (pv 0) (pa_cons pe_int pa_nil))) pe_int (nomark _)) (pe_tup (pa_cons (pv 8) (pa_cons (pv 7) pa_nil))) (pe_tup (pa_cons (pv 7) (pa_cons (pv 8) pa_nil)))))))) pss_nil))) (pss_one (ps_expr (pe_bmK (K := K) rfl PySem.F.plainAttrs_list PySem.F.slot_list_append PySem.F.type_list_append mt_append (pv 3) (pa_cons (pv 6) pa_nil))))))) (pss_one (ps_ret (pv 3))))), ?_⟩
    refine ⟨_, rfl, ?_⟩
    refine ⟨_, rfl, ?_⟩
    refine ⟨ms, ap, x_many_here, _, rfl, hW.enterP, hM, fun r1 u4 H5 hM e3 h2 => ?_⟩
    replace hW := hW.retP e3
    refine ⟨(by show 1 ≤ sizeLine; decide), ?_⟩
    intro L6 nl7
    have nm8 := nm_new hW nl7
    have mu9 := mo_newL (ds := ([r1] : List (List (Int × Int))).map (fun y_ : (List (Int × Int)) => (D.lst (y_.map (fun y_ : (Int × Int) => (D.tup [(D.v (V.int y_.1)), (D.v (V.int y_.2))])))))) (vs := [u4]) hW nl7 (repL_cons h2 repL_nil)
    replace h2 := rep_cell (o := .lst [u4]) nl7 h2
    replace hW := wd_cell (o := .lst [u4]) hW nl7
    generalize upd H5 L6 (.lst [u4]) = H10 at *
    replace mu9 : MutO (L6 :: ms) [(ap, none)] H_0 H10 L6 (D.lst (([r1] : List (List (Int × Int))).map (fun y_ : (List (Int × Int)) => (D.lst (y_.map (fun y_ : (Int × Int) => (D.tup [(D.v (V.int y_.1)), (D.v (V.int y_.2))]))))))) := mu9
    refine ⟨_, rfl, ?_⟩
    refine ⟨_, rfl, ?_⟩
    refine ⟨(L6 :: ms), ap, x_most, _, rfl, hW.enterP, hM, fun r11 u14 H15 hM e13 h12 => ?_⟩
    replace h2 := rep_ret hW e13 h2
    replace mu9 := mo_ret hW e13 mu9
    replace hW := hW.retP e13
    obtain rfl := of_v h12
    refine ⟨_, rfl, ?_⟩
    refine for_rangeG (S := (List (List (Int × Int)))) (lo := (0 : Int)) (hi := r11) (N := Int.toNat r11) (fun (s : (List (List (Int × Int)))) σ_ h_ => ∃ (w_0 : Option V), ∃ (w_1 : Option V), ∃ (w_2 : Option V), σ_ = [some (V.ref ap), some (V.int x_many_here), some (V.int x_most), some (V.ref L6), w_0, w_1, w_2, none, none] ∧ Wd (L6 :: ms) [(ap, none)] [] H_0 h_ ∧ Keep (L6 :: ms) H15 h_ ∧ MutO (L6 :: ms) [(ap, none)] H_0 h_ L6 (D.lst (s.map (fun y_ : (List (Int × Int)) => (D.lst (y_.map (fun y_ : (Int × Int) => (D.tup [(D.v (V.int y_.1)), (D.v (V.int y_.2))])))))))) (([r1] : List (List (Int × Int)))) (by simp) hM ⟨_, _, _, rfl, hW, Keep.refl, mu9⟩ ?_ ?_
    · skip
      clear mu9
      rintro x16 s18 k19 _ H28 ⟨w24, w25, w26, rfl, hW, hk20, mu27⟩ hM Nx22 hN23
      replace h2 := rep_keep hk20 h2
      refine ⟨_, rfl, ?_⟩
      refine ⟨(L6 :: ms), ap, (4 : Int), _, rfl, hW.enterP, hM, fun r29 u32 H33 hM e31 h30 => ?_⟩
      replace h2 := rep_ret hW e31 h2
      replace hk20 := keep_ret hW e31 hk20
      replace mu27 := mo_ret hW e31 mu27
      replace hW := hW.retP e31
      obtain rfl := of_v h30
      refine ⟨_, rfl, ?_⟩
      refine ⟨_, rfl, ?_⟩
      obtain ⟨g34, hM⟩ := hM
      have hfz0 := mo_rep_dr dr_here nm8 mu27
      have hWz0 := wd_dr dr_here (mu27).hp hW
      refine ⟨ms, ap, _, s18, _, rfl, hWz0.enterP, hfz0, hM, fun r35 u38 H39 hM e37 h36 => ?_⟩
      clear hfz0 hWz0
      replace h2 := rep_ret hW e37 h2
      replace hk20 := keep_ret hW e37 hk20
      replace mu27 := mo_ret hW e37 mu27
      replace hW := hW.retP e37
      replace h36 := rep_liftA (es := List.map (fun y_ : (List (Int × Int)) => (D.lst (y_.map (fun y_ : (Int × Int) => (D.tup [(D.v (V.int y_.1)), (D.v (V.int y_.2))]))))) s18) dr_here mu27 _ _ (apIn_l (ap_ll g34 fun _ _ => ap_tl) fun _ => (apIn_t (apIns_cons apIn_v (apIns_cons apIn_v apIns_nil)))) h36
      refine ⟨_, _, rfl, ?_⟩
      refine ⟨_, rfl, ?_⟩
      refine ⟨_, _, rfl, rfl, ?_⟩
      refine ⟨_, rfl, ?_⟩
      refine ite3 hM (fun hM => ?_) (fun hM => ?_)
      · skip
        refine ⟨_, rfl, ?_⟩
        refine ⟨_, rfl, ?_⟩
        refine ⟨(L6 :: ms), ap, x_many_here, _, rfl, hW.enterP, hM, fun r40 u43 H44 hM e42 h41 => ?_⟩
        replace h2 := rep_ret hW e42 h2
        replace hk20 := keep_ret hW e42 hk20
        replace h36 := rep_ret hW e42 h36
        replace mu27 := mo_ret hW e42 mu27
        replace hW := hW.retP e42
        refine ⟨_, rfl, ?_⟩
        refine ⟨mo_tyL mu27, ?_⟩
        refine ⟨_, rfl, ?_⟩
        obtain ⟨g45, hM⟩ := hM
        apply mo_appU mu27 (by rw [List.length_map]; exact g45)
        intro vs46 hr48
        have mk50 := mo_setL mu27 (repL_snoc (e := (fun y_ : (List (Int × Int)) => (D.lst (y_.map (fun y_ : (Int × Int) => (D.tup [(D.v (V.int y_.1)), (D.v (V.int y_.2))])))))) (xs := s18) (y := r40) hr48 h41)
        replace h2 := rep_put (o := .lst (vs46 ++ [u43])) mu27.im h2
        replace hk20 := keep_put (o := .lst (vs46 ++ [u43])) mu27.im hk20
        replace h36 := rep_put (o := .lst (vs46 ++ [u43])) mu27.im h36
        replace h41 := rep_put (o := .lst (vs46 ++ [u43])) mu27.im h41
        replace hW := wd_put (o := .lst (vs46 ++ [u43])) hW mu27
        replace mu27 := mk50
        generalize upd H44 L6 (.lst (vs46 ++ [u43])) = H51 at *
        replace mu27 : MutO (L6 :: ms) [(ap, none)] H_0 H51 L6 (D.lst ((s18 ++ [r40]).map (fun y_ : (List (Int × Int)) => (D.lst (y_.map (fun y_ : (Int × Int) => (D.tup [(D.v (V.int y_.1)), (D.v (V.int y_.2))]))))))) := mu27
        clear mk50
        exact hN23 ((s18 ++ [r40])) _ _ hM ⟨_, _, _, rfl, hW, hk20, mu27⟩
      · skip
        refine ⟨_, rfl, ?_⟩
        refine ⟨rfl, ?_⟩
        refine ⟨_, rfl, ?_⟩
        refine ite3 hM (fun hM => ?_) (fun hM => ?_)
        · skip
          refine ⟨_, rfl, ?_⟩
          apply rep_iter h36
          intro a52 xs53 _ an54 hp55 hl56
          refine fun L57 nl58 => ?_
          have nm72 := nm_new hW nl58
          have kn73 := keep_none (w := hW) nl58 hk20
          have ne74 := mo_ne nl58 mu27
          refine lc_listG (L := L57) (fun n_ ys_ h_ => Wd (L57 :: (L6 :: ms)) [(ap, none)] [] H_0 h_ ∧ Keep (L57 :: (L6 :: ms)) H39 h_ ∧ MutO (L57 :: (L6 :: ms)) [(ap, none)] H_0 h_ L57 (D.lst (ys_.map (fun y_ : (Int × Int) => (D.tup [(D.v (V.int y_.1)), (D.v (V.int y_.2))])))) ∧ ys_.length ≤ n_ ∧ MutO (L57 :: (L6 :: ms)) [(ap, none)] H_0 h_ L6 (D.lst (s18.map (fun y_ : (List (Int × Int)) => (D.lst (y_.map (fun y_ : (Int × Int) => (D.tup [(D.v (V.int y_.1)), (D.v (V.int y_.2))])))))))) (items := r35) (e := (fun y_ : (Int × Int) => (D.tup [(D.v (V.int y_.1)), (D.v (V.int y_.2))]))) an54 hp55 hl56 nl58 (fun _ _ _ q_ => q_.2.1) hM ⟨wd_cell hW nl58, keep_cell nl58 Keep.refl, mo_newL (ds := []) hW nl58 repL_nil, Nat.le_refl _, mo_cell nl58 mu27⟩ ?_ ?_
          · skip
            clear mu27
            rintro x68 u69 n59 ys60 k61 H75 hn ⟨hW, hk62, mu63, ln64, mu76⟩ h70 hM Nx67 hN65
            replace h2 := rep_keep hk62 (rep_new nl58 h2)
            replace hk20 := Keep.trans (Keep.new hk20) hk62
            replace h36 := rep_keep hk62 (rep_new nl58 h36)
            apply rep_gtup h70 rfl
            intro vs77 hv78
            obtain ⟨u79, us80, rfl, h81, hv82⟩ := repL_uncons hv78
            obtain rfl := of_v h81
            obtain ⟨u83, us84, rfl, h85, hv86⟩ := repL_uncons hv82
            obtain rfl := of_v h85
            obtain rfl := repL_empty hv86
            refine ⟨_, _, rfl, ?_⟩
            refine ⟨_, _, rfl, ?_⟩
            refine ⟨rfl, ?_⟩
            refine ⟨rfl, ?_⟩
            refine tyes_of ?_
            obtain ⟨KB87, hM, hKKB87⟩ := hM
            refine ⟨fun v H1 => ∃ r : (Int × Int), KB87 r ∧ Wd (L57 :: (L6 :: ms)) [(ap, none)] [] H_0 H1 ∧ Keep (L57 :: (L6 :: ms)) H75 H1 ∧ rep (L57 :: (L6 :: ms)) H1 (D.tup [(D.v (V.int r.1)), (D.v (V.int r.2))]) v ∧ MutO (L57 :: (L6 :: ms)) [(ap, none)] H_0 H1 L6 (D.lst (s18.map (fun y_ : (List (Int × Int)) => (D.lst (y_.map (fun y_ : (Int × Int) => (D.tup [(D.v (V.int y_.1)), (D.v (V.int y_.2))]))))))) ∧ MutO (L57 :: (L6 :: ms)) [(ap, none)] H_0 H1 L57 (D.lst (ys60.map (fun y_ : (Int × Int) => (D.tup [(D.v (V.int y_.1)), (D.v (V.int y_.2))])))), ?_, ?_⟩
            · skip
              have hj89 := Keep.refl (ms := (L57 :: (L6 :: ms))) (H := H75)
              refine ⟨_, rfl, ?_⟩
              refine ⟨(L57 :: (L6 :: ms)), ap, (2 : Int), _, rfl, hW.enterP, hM, fun r90 u93 H94 hM e92 h91 => ?_⟩
              replace h2 := rep_ret hW e92 h2
              replace hk20 := keep_ret hW e92 hk20
              replace h36 := rep_ret hW e92 h36
              replace hk62 := keep_ret hW e92 hk62
              replace h70 := rep_ret hW e92 h70
              replace hj89 := keep_ret hW e92 hj89
              replace mu76 := mo_ret hW e92 mu76
              replace mu63 := mo_ret hW e92 mu63
              replace hW := hW.retP e92
              obtain rfl := of_v h91
              refine ⟨rfl, ?_⟩
              refine ⟨_, rfl, ?_⟩
              refine ite3 hM (fun hM => ?_) (fun hM => ?_)
              · skip
                refine ⟨_, rfl, ?_⟩
                refine ⟨_, rfl, ?_⟩
                refine ⟨(by show 2 ≤ sizeLine; decide), ?_⟩
                intro p95 n99
                have e96 := Rx.Ext.new (H := H94) (o := (HO.tup [V.int x68.2, V.int x68.1])) n99
                have hp97 : upd H94 p95 (HO.tup [V.int x68.2, V.int x68.1]) p95 = some (HO.tup [V.int x68.2, V.int x68.1]) := upd_same
                generalize upd H94 p95 (HO.tup [V.int x68.2, V.int x68.1]) = H100 at e96 hp97 ⊢
                have h98 : rep (L57 :: (L6 :: ms)) H100 (D.tup [(D.v (V.int x68.2)), (D.v (V.int x68.1))]) (.ref p95) := rep_tup_mk hW n99 e96 hp97 (repL_cons rep_v (repL_cons rep_v repL_nil))
                replace h2 := rep_ext e96 h2
                replace hk20 := keep_ext e96 hk20
                replace h36 := rep_ext e96 h36
                replace hk62 := keep_ext e96 hk62
                replace h70 := rep_ext e96 h70
                replace hj89 := keep_ext e96 hj89
                replace mu76 := mo_ext e96 mu76
                replace mu63 := mo_ext e96 mu63
                replace hW := hW.ret0 e96
                exact ⟨(x68.2, x68.1), hM, hW, hj89, h98, mu76, mu63⟩
              · skip
                refine ⟨_, rfl, ?_⟩
                refine ⟨_, rfl, ?_⟩
                refine ⟨(by show 2 ≤ sizeLine; decide), ?_⟩
                intro p101 n105
                have e102 := Rx.Ext.new (H := H94) (o := (HO.tup [V.int x68.1, V.int x68.2])) n105
                have hp103 : upd H94 p101 (HO.tup [V.int x68.1, V.int x68.2]) p101 = some (HO.tup [V.int x68.1, V.int x68.2]) := upd_same
                generalize upd H94 p101 (HO.tup [V.int x68.1, V.int x68.2]) = H106 at e102 hp103 ⊢
                have h104 : rep (L57 :: (L6 :: ms)) H106 (D.tup [(D.v (V.int x68.1)), (D.v (V.int x68.2))]) (.ref p101) := rep_tup_mk hW n105 e102 hp103 (repL_cons rep_v (repL_cons rep_v repL_nil))
                replace h2 := rep_ext e102 h2
                replace hk20 := keep_ext e102 hk20
                replace h36 := rep_ext e102 h36
                replace hk62 := keep_ext e102 hk62
                replace h70 := rep_ext e102 h70
                replace hj89 := keep_ext e102 hj89
                replace mu76 := mo_ext e102 mu76
                replace mu63 := mo_ext e102 mu63
                replace hW := hW.ret0 e102
                exact ⟨(x68.1, x68.2), hM, hW, hj89, h104, mu76, mu63⟩
            · skip
              clear mu76
              clear mu63
              rintro u109 Hj88 ⟨r107, hr, hW, hj89, h108, mu110, mu111⟩
              replace hM := hKKB87 r107 hr
              replace h2 := rep_keep hj89 h2
              replace hk20 := Keep.trans hk20 hj89
              replace h36 := rep_keep hj89 h36
              replace hk62 := Keep.trans hk62 hj89
              replace h70 := rep_keep hj89 h70
              refine mo_end mu111 hn (by rw [List.length_map]; exact ln64) fun vs112 hr113 => ?_
              have mk115 := mo_setL mu111 (repL_snoc (e := (fun y_ : (Int × Int) => (D.tup [(D.v (V.int y_.1)), (D.v (V.int y_.2))]))) (xs := ys60) (y := r107) hr113 h108)
              replace mu110 := mo_put (o := .lst (vs112 ++ [u109])) mu111.im ne74 mu110
              replace h2 := rep_put (o := .lst (vs112 ++ [u109])) mu111.im h2
              replace hk20 := keep_put (o := .lst (vs112 ++ [u109])) mu111.im hk20
              replace h36 := rep_put (o := .lst (vs112 ++ [u109])) mu111.im h36
              replace hk62 := keep_put (o := .lst (vs112 ++ [u109])) mu111.im hk62
              replace h70 := rep_put (o := .lst (vs112 ++ [u109])) mu111.im h70
              replace h108 := rep_put (o := .lst (vs112 ++ [u109])) mu111.im h108
              replace hW := wd_put (o := .lst (vs112 ++ [u109])) hW mu111
              replace mu111 := mk115
              generalize upd Hj88 L57 (.lst (vs112 ++ [u109])) = H116 at *
              replace mu111 : MutO (L57 :: (L6 :: ms)) [(ap, none)] H_0 H116 L57 (D.lst ((ys60 ++ [r107]).map (fun y_ : (Int × Int) => (D.tup [(D.v (V.int y_.1)), (D.v (V.int y_.2))])))) := mu111
              clear mk115
              exact hN65 r107 _ hM ⟨hW, hk62, mu111, by rw [List.length_append]; exact Nat.add_le_add_right ln64 1, mu110⟩
          · skip
            clear mu27
            rintro n59 ys117 H118 hM ⟨hW, hk62, mu63, ln64, mu119⟩
            replace h2 := rep_keep hk62 (rep_new nl58 h2)
            replace hk20 := Keep.trans (Keep.new hk20) hk62
            replace h36 := rep_keep hk62 (rep_new nl58 h36)
            clear hk62 ln64
            have h120 := mo_rep_dr dr_here nm72 mu63
            replace hW := wd_dr dr_here mu63.hp hW
            replace h2 := rep_dr dr_here h2
            replace hk20 := keep_dr dr_here kn73 hk20
            replace h36 := rep_dr dr_here h36
            replace mu119 := mo_dr dr_here ne74 mu119
            clear mu63
            refine ⟨_, rfl, ?_⟩
            refine ⟨mo_tyL mu119, ?_⟩
            refine ⟨_, rfl, ?_⟩
            obtain ⟨g121, hM⟩ := hM
            apply mo_appU mu119 (by rw [List.length_map]; exact g121)
            intro vs122 hr124
            have mk126 := mo_setL mu119 (repL_snoc (e := (fun y_ : (List (Int × Int)) => (D.lst (y_.map (fun y_ : (Int × Int) => (D.tup [(D.v (V.int y_.1)), (D.v (V.int y_.2))])))))) (xs := s18) (y := ys117) hr124 h120)
            replace h2 := rep_put (o := .lst (vs122 ++ [(V.ref L57)])) mu119.im h2
            replace hk20 := keep_put (o := .lst (vs122 ++ [(V.ref L57)])) mu119.im hk20
            replace h36 := rep_put (o := .lst (vs122 ++ [(V.ref L57)])) mu119.im h36
            replace h120 := rep_put (o := .lst (vs122 ++ [(V.ref L57)])) mu119.im h120
            replace hW := wd_put (o := .lst (vs122 ++ [(V.ref L57)])) hW mu119
            replace mu119 := mk126
            generalize upd H118 L6 (.lst (vs122 ++ [(V.ref L57)])) = H127 at *
            replace mu119 : MutO (L6 :: ms) [(ap, none)] H_0 H127 L6 (D.lst ((s18 ++ [ys117]).map (fun y_ : (List (Int × Int)) => (D.lst (y_.map (fun y_ : (Int × Int) => (D.tup [(D.v (V.int y_.1)), (D.v (V.int y_.2))]))))))) := mu119
            clear mk126
            exact hN23 ((s18 ++ [ys117])) _ _ hM ⟨_, _, _, rfl, hW, hk20, mu119⟩
        · skip
          refine ⟨_, rfl, ?_⟩
          refine ⟨mo_tyL mu27, ?_⟩
          refine ⟨_, rfl, ?_⟩
          obtain ⟨g128, hM⟩ := hM
          apply mo_appU mu27 (by rw [List.length_map]; exact g128)
          intro vs129 hr131
          have mk133 := mo_setL mu27 (repL_snoc (e := (fun y_ : (List (Int × Int)) => (D.lst (y_.map (fun y_ : (Int × Int) => (D.tup [(D.v (V.int y_.1)), (D.v (V.int y_.2))])))))) (xs := s18) (y := r35) hr131 h36)
          replace h2 := rep_put (o := .lst (vs129 ++ [u38])) mu27.im h2
          replace hk20 := keep_put (o := .lst (vs129 ++ [u38])) mu27.im hk20
          replace h36 := rep_put (o := .lst (vs129 ++ [u38])) mu27.im h36
          replace hW := wd_put (o := .lst (vs129 ++ [u38])) hW mu27
          replace mu27 := mk133
          generalize upd H39 L6 (.lst (vs129 ++ [u38])) = H134 at *
          replace mu27 : MutO (L6 :: ms) [(ap, none)] H_0 H134 L6 (D.lst ((s18 ++ [r35]).map (fun y_ : (List (Int × Int)) => (D.lst (y_.map (fun y_ : (Int × Int) => (D.tup [(D.v (V.int y_.1)), (D.v (V.int y_.2))]))))))) := mu27
          clear mk133
          exact hN23 ((s18 ++ [r35])) _ _ hM ⟨_, _, _, rfl, hW, hk20, mu27⟩
    · skip
      clear mu9
      rintro s135 _ H141 hM ⟨w137, w138, w139, rfl, hW, hk136, mu140⟩
      replace h2 := rep_keep hk136 h2
      have h142 := mo_rep_dr dr_here nm8 mu140
      replace hW := wd_dr dr_here mu140.hp hW
      replace h2 := rep_dr dr_here h2
      clear mu140
      refine ⟨_, rfl, ?_⟩
      exact hQ s135 _ _ hM hW.out h142
def M_is_list (x_value : (List (List (Int × Int)))) (KM : Bool → Prop) : Prop :=
  (KM true)
def sp_is_list (A : Ad) : Sp := fun vs H Q _ => ∃ (ms : List Addr) (v_value : V) (x_value : (List (List (Int × Int)))) (KM : Bool → Prop), vs = [v_value] ∧ Wd ms [] [] H H ∧ rep ms H (D.lst (x_value.map (fun y_ : (List (Int × Int)) => (D.lst (y_.map (fun y_ : (Int × Int) => (D.tup [(D.v (V.int y_.1)), (D.v (V.int y_.2))]))))))) v_value ∧ M_is_list x_value KM ∧ ∀ (r : Bool) (u : V) (H1 : Hp), KM r → Ret [] H H1 → rep ms H1 (D.v (V.bl r)) u → Q u H1
set_option maxHeartbeats 16000000 in
theorem ok_is_list {P : Program} {w : World} {K : PySem.W.Frag} {mg : Str → Option Value} {base : Heap} {A : Ad} (T : Txt w K mg base A) : FnOk P w K mg base CX0 1 A.a_is_list A.d_is_list ["value"] (sp_is_list A) := by
  refine T.F_is_list.ok sc_is_list (fun vs H Q E h => ?_) (fun cdv A_ outer s_ H_0 vs Q E hr h => ?_)
  · obtain ⟨ms, v_value, x_value, KM, rfl, _⟩ := h
    rfl
  · obtain ⟨ms, v_value, x_value, KM, rfl, hW, h_value, hM, hQ⟩ := h
    unfold M_is_list at hM
    refine ⟨_, (pss_one (ps_ret (pe_callB (call_isiTK (K := K) rfl) (by rfl) T.z_isinstance (by decide +kernel) (pa_cons (pv 0) (pa_cons (pe_tup (pa_cons (pe_bltn (v := .ty "list") (by rfl) T.z_list (by decide +kernel) rfl) (pa_cons (pe_bltn (v := .ty "tuple") (by rfl) T.z_tuple (by decide +kernel) rfl) pa_nil))) pa_nil))))), ?_⟩
    refine ⟨_, rfl, ?_⟩
    refine ⟨(by show 2 ≤ sizeLine; decide), ?_⟩
    intro p1 n2
    have e3 := Rx.Ext.new (H := H_0) (o := (HO.tup [V.ty "list", V.ty "tuple"])) n2
    have hp4 : upd H_0 p1 (HO.tup [V.ty "list", V.ty "tuple"]) p1 = some (HO.tup [V.ty "list", V.ty "tuple"]) := upd_same
    generalize upd H_0 p1 (HO.tup [V.ty "list", V.ty "tuple"]) = H5 at e3 hp4 ⊢
    replace h_value := rep_ext e3 h_value
    replace hW := hW.ret0 e3
    apply rep_isi2 (d := (D.lst (x_value.map (fun y_ : (List (Int × Int)) => (D.lst (y_.map (fun y_ : (Int × Int) => (D.tup [(D.v (V.int y_.1)), (D.v (V.int y_.2))])))))))) (a := "list") (b := "list") (c := "tuple") (r1 := true) (r2 := false) h_value (by rfl) (by rfl) hp4 (by decide +kernel) (by decide +kernel)
    skip
    exact hQ true _ _ hM hW.out rep_v
def M_is_list_ltii (x_value : (List (Int × Int))) (KM : Bool → Prop) : Prop :=
  (KM true)
def sp_is_list_ltii (A : Ad) : Sp := fun vs H Q _ => ∃ (ms : List Addr) (v_value : V) (x_value : (List (Int × Int))) (KM : Bool → Prop), vs = [v_value] ∧ Wd ms [] [] H H ∧ rep ms H (D.lst (x_value.map (fun y_ : (Int × Int) => (D.tup [(D.v (V.int y_.1)), (D.v (V.int y_.2))])))) v_value ∧ M_is_list_ltii x_value KM ∧ ∀ (r : Bool) (u : V) (H1 : Hp), KM r → Ret [] H H1 → rep ms H1 (D.v (V.bl r)) u → Q u H1
set_option maxHeartbeats 16000000 in
theorem ok_is_list_ltii {P : Program} {w : World} {K : PySem.W.Frag} {mg : Str → Option Value} {base : Heap} {A : Ad} (T : Txt w K mg base A) : FnOk P w K mg base CX0 1 A.a_is_list A.d_is_list ["value"] (sp_is_list_ltii A) := by
  refine T.F_is_list.ok sc_is_list (fun vs H Q E h => ?_) (fun cdv A_ outer s_ H_0 vs Q E hr h => ?_)
  · obtain ⟨ms, v_value, x_value, KM, rfl, _⟩ := h
    rfl
  · obtain ⟨ms, v_value, x_value, KM, rfl, hW, h_value, hM, hQ⟩ := h
    unfold M_is_list_ltii at hM
    refine ⟨_, (pss_one (ps_ret (pe_callB (call_isiTK (K := K) rfl) (by rfl) T.z_isinstance (by decide +kernel) (pa_cons (pv 0) (pa_cons (pe_tup (pa_cons (pe_bltn (v := .ty "list") (by rfl) T.z_list (by decide +kernel) rfl) (pa_cons (pe_bltn (v := .ty "tuple") (by rfl) T.z_tuple (by decide +kernel) rfl) pa_nil))) pa_nil))))), ?_⟩
    refine ⟨_, rfl, ?_⟩
    refine ⟨(by show 2 ≤ sizeLine; decide), ?_⟩
    intro p1 n2
    have e3 := Rx.Ext.new (H := H_0) (o := (HO.tup [V.ty "list", V.ty "tuple"])) n2
    have hp4 : upd H_0 p1 (HO.tup [V.ty "list", V.ty "tuple"]) p1 = some (HO.tup [V.ty "list", V.ty "tuple"]) := upd_same
    generalize upd H_0 p1 (HO.tup [V.ty "list", V.ty "tuple"]) = H5 at e3 hp4 ⊢
    replace h_value := rep_ext e3 h_value
    replace hW := hW.ret0 e3
    apply rep_isi2 (d := (D.lst (x_value.map (fun y_ : (Int × Int) => (D.tup [(D.v (V.int y_.1)), (D.v (V.int y_.2))]))))) (a := "list") (b := "list") (c := "tuple") (r1 := true) (r2 := false) h_value (by rfl) (by rfl) hp4 (by decide +kernel) (by decide +kernel)
    skip
    exact hQ true _ _ hM hW.out rep_v
def M_is_integer (x_value : Int) (KM : Bool → Prop) : Prop :=
  (KM (!false))
def sp_is_integer (A : Ad) : Sp := fun vs H Q _ => ∃ (ms : List Addr) (x_value : Int) (KM : Bool → Prop), vs = [V.int x_value] ∧ Wd ms [] [] H H ∧ M_is_integer x_value KM ∧ ∀ (r : Bool) (u : V) (H1 : Hp), KM r → Ret [] H H1 → rep ms H1 (D.v (V.bl r)) u → Q u H1
set_option maxHeartbeats 16000000 in
theorem ok_is_integer {P : Program} {w : World} {K : PySem.W.Frag} {mg : Str → Option Value} {base : Heap} {A : Ad} (T : Txt w K mg base A) : FnOk P w K mg base CX0 1 A.a_is_integer A.d_is_integer ["value"] (sp_is_integer A) := by
  refine T.F_is_integer.ok sc_is_integer (fun vs H Q E h => ?_) (fun cdv A_ outer s_ H_0 vs Q E hr h => ?_)
  · obtain ⟨ms, x_value, KM, rfl, _⟩ := h
    rfl
  · obtain ⟨ms, x_value, KM, rfl, hW, hM, hQ⟩ := h
    unfold M_is_integer at hM
    refine ⟨_, (pss_one (ps_ret (pe_and (pe_callB (call_isiK (K := K) rfl) (by rfl) T.z_isinstance (by decide +kernel) (pa_cons (pv 0) (pa_cons (pe_bltn (v := .ty "int") (by rfl) T.z_int (by decide +kernel) rfl) pa_nil))) (pe_one (pe_not (pe_callB (call_isiK (K := K) rfl) (by rfl) T.z_isinstance (by decide +kernel) (pa_cons (pv 0) (pa_cons (pe_bltn (v := .ty "bool") (by rfl) T.z_bool (by decide +kernel) rfl) pa_nil)))))))), ?_⟩
    refine ⟨_, rfl, ?_⟩
    refine ⟨_, _, _, _, true, rfl, .ty _, .base (.int _), kit_ty (by decide +kernel), ?_⟩
    refine ⟨_, rfl, ?_⟩
    refine iteT ?_
    refine ⟨_, rfl, ?_⟩
    refine ⟨_, _, _, _, false, rfl, .ty _, .base (.int _), kit_ty (by decide +kernel), ?_⟩
    refine ⟨_, rfl, ?_⟩
    exact hQ (!false) _ _ hM hW.out rep_v
def M_is_meeting (x_value : (Int × Int)) (KM : Bool → Prop) : Prop :=
  (if (decide (V.int (2 : Int) = V.int (2 : Int))) = true then (M_is_integer x_value.1 fun r3 => (if r3 = true then (M_is_integer x_value.2 fun r10 => (KM r10)) else (KM false))) else (KM false))
def sp_is_meeting (A : Ad) : Sp := fun vs H Q _ => ∃ (ms : List Addr) (v_value : V) (x_value : (Int × Int)) (KM : Bool → Prop), vs = [v_value] ∧ Wd ms [] [] H H ∧ rep ms H (D.tup [(D.v (V.int x_value.1)), (D.v (V.int x_value.2))]) v_value ∧ M_is_meeting x_value KM ∧ ∀ (r : Bool) (u : V) (H1 : Hp), KM r → Ret [] H H1 → rep ms H1 (D.v (V.bl r)) u → Q u H1
set_option maxHeartbeats 16000000 in
theorem ok_is_meeting {P : Program} {w : World} {K : PySem.W.Frag} {mg : Str → Option Value} {base : Heap} {A : Ad} (T : Txt w K mg base A) : FnOk P w K mg base CX0 2 A.a_is_meeting A.d_is_meeting ["value"] (sp_is_meeting A) := by
  refine T.F_is_meeting.ok sc_is_meeting (fun vs H Q E h => ?_) (fun cdv A_ outer s_ H_0 vs Q E hr h => ?_)
  · obtain ⟨ms, v_value, x_value, KM, rfl, _⟩ := h
    rfl
  · obtain ⟨ms, v_value, x_value, KM, rfl, hW, h_value, hM, hQ⟩ := h
    unfold M_is_meeting at hM
    refine ⟨_, (pss_one (ps_ret (pe_and (pe_callB (call_isiK (K := K) rfl) (by rfl) T.z_isinstance (by decide +kernel) (pa_cons (pv 0) (pa_cons (pe_bltn (v := .ty "tuple") (by rfl) T.z_tuple (by decide +kernel) rfl) pa_nil))) (pe_and (pe_cmpR op_eq (pe_callB (call_lenK (K := K) rfl) (by rfl) T.z_len PySem.boot_len (pa_cons (pv 0) pa_nil)) pe_int (nomark _)) (pe_and (pe_call (ok_is_integer T) (hr.mono (by decide)) (by rfl) T.g_is_integer T.F_is_integer.kp T.b_is_integer .nil pass0 (pa_cons (pe_ix (ix_tupK (K := K) rfl) (pv 0) pe_int (fun _ _ => rfl)) pa_nil)) (pe_one (pe_call (ok_is_integer T) (hr.mono (by decide)) (by rfl) T.g_is_integer T.F_is_integer.kp T.b_is_integer .nil pass0 (pa_cons (pe_ix (ix_tupK (K := K) rfl) (pv 0) pe_int (fun _ _ => rfl)) pa_nil)))))))), ?_⟩
    refine ⟨_, rfl, ?_⟩
    apply rep_isi1 (d := (D.tup [(D.v (V.int x_value.1)), (D.v (V.int x_value.2))])) (a := "tuple") (b := "tuple") (r := true) h_value (by rfl) (by rfl) (by decide +kernel)
    refine ⟨_, rfl, ?_⟩
    refine iteT ?_
    refine ⟨_, rfl, ?_⟩
    apply rep_lenT (n := 2) h_value rfl
    refine ⟨rfl, ?_⟩
    refine ⟨_, rfl, ?_⟩
    refine ite3 hM (fun hM => ?_) (fun hM => ?_)
    · skip
      refine ⟨_, rfl, ?_⟩
      apply rep_ixT 0 h_value rfl rfl
      intro u2 h1
      obtain rfl := of_v h1
      refine ⟨ms, x_value.1, _, rfl, hW.enter0, hM, fun r3 u6 H7 hM e5 h4 => ?_⟩
      replace h_value := rep_ext e5 h_value
      replace hW := hW.ret0 e5
      obtain rfl := of_v h4
      refine ⟨_, rfl, ?_⟩
      refine ite3 hM (fun hM => ?_) (fun hM => ?_)
      · skip
        refine ⟨_, rfl, ?_⟩
        apply rep_ixT 1 h_value rfl rfl
        intro u9 h8
        obtain rfl := of_v h8
        refine ⟨ms, x_value.2, _, rfl, hW.enter0, hM, fun r10 u13 H14 hM e12 h11 => ?_⟩
        replace h_value := rep_ext e12 h_value
        replace hW := hW.ret0 e12
        obtain rfl := of_v h11
        exact hQ r10 _ _ hM hW.out rep_v
      · skip
        exact hQ false _ _ hM hW.out rep_v
    · skip
      exact hQ false _ _ hM hW.out rep_v
def M_is_round (x_value : (List (Int × Int))) (KM : Bool → Prop) : Prop :=
  (M_is_list_ltii x_value fun r1 => (if (!r1) = true then (KM false) else (if (decide ((x_value.length : Int) < (2 : Int))) = true then (KM false) else (if (decide ((12 : Int) < (x_value.length : Int))) = true then (KM false) else (x_value.length < 100000 ∧ mapC (fun (x22 : (Int × Int)) (k15 : Bool → Prop) => (M_is_meeting x22 fun r28 => (k15 r28))) x_value [] fun ys38 => (if (!(List.all ys38 id)) = true then (KM false) else (((List.flatMap (fun y_ : (Int × Int) => ([y_.1, y_.2] : List Int)) x_value).length ≤ 16777216) ∧ (∀ ys53 : List Int, ys53.Perm (List.flatMap (fun y_ : (Int × Int) => ([y_.1, y_.2] : List Int)) x_value) → ys53.Pairwise (· ≤ ·) → (RgOk (0 : Int) ((2 : Int) * (x_value.length : Int)) ∧ (((plainD (D.lst (ys53.map (fun y_ : Int => (D.v (V.int y_))))) = true ∧ plainD (D.lst ((rangeI (0 : Int) ((2 : Int) * (x_value.length : Int))).map (fun y_ : Int => (D.v (V.int y_))))) = true ∧ SeqAt.shaped (pyOf (D.lst (ys53.map (fun y_ : Int => (D.v (V.int y_)))))) = true ∧ SeqAt.shaped (pyOf (D.lst ((rangeI (0 : Int) ((2 : Int) * (x_value.length : Int))).map (fun y_ : Int => (D.v (V.int y_)))))) = true)) ∧ (KM (PyData.eqv (pyOf (D.lst (ys53.map (fun y_ : Int => (D.v (V.int y_)))))) (pyOf (D.lst ((rangeI (0 : Int) ((2 : Int) * (x_value.length : Int))).map (fun y_ : Int => (D.v (V.int y_))))))))))))))))))
def sp_is_round (A : Ad) : Sp := fun vs H Q _ => ∃ (ms : List Addr) (v_value : V) (x_value : (List (Int × Int))) (KM : Bool → Prop), vs = [v_value] ∧ Wd ms [] [] H H ∧ rep ms H (D.lst (x_value.map (fun y_ : (Int × Int) => (D.tup [(D.v (V.int y_.1)), (D.v (V.int y_.2))])))) v_value ∧ M_is_round x_value KM ∧ ∀ (r : Bool) (u : V) (H1 : Hp), KM r → Ret [] H H1 → rep ms H1 (D.v (V.bl r)) u → Q u H1
set_option maxHeartbeats 16000000 in
theorem ok_is_round {P : Program} {w : World} {K : PySem.W.Frag} {mg : Str → Option Value} {base : Heap} {A : Ad} (T : Txt w K mg base A) : FnOk P w K mg base CX0 3 A.a_is_round A.d_is_round ["value"] (sp_is_round A) := by
  refine T.F_is_round.ok sc_is_round (fun vs H Q E h => ?_) (fun cdv A_ outer s_ H_0 vs Q E hr h => ?_)
  · obtain ⟨ms, v_value, x_value, KM, rfl, _⟩ := h
    rfl
  · obtain ⟨ms, v_value, x_value, KM, rfl, hW, h_value, hM, hQ⟩ := h
    unfold M_is_round at hM
    refine ⟨_, (pss_cons (ps_if (PW.pt (pw_or (pt_not (pt_val (pe_call (ok_is_list_ltii T) (hr.mono (by decide)) (by rfl) T.g_is_list T.F_is_list.kp T.b_is_list .nil pass0 (pa_cons (pv 0) pa_nil)))) (pw_or (pt_cmpR op_lt (pe_callB (call_lenK (K := K) rfl) (by rfl) T.z_len PySem.boot_len (pa_cons (pv 0) pa_nil)) (C8.pe_gc (by rfl) T.c_FEWEST_MEETINGS) (nomark _)) (pw_or1 (pt_cmpR op_gt (pe_callB (call_lenK (K := K) rfl) (by rfl) T.z_len PySem.boot_len (pa_cons (pv 0) pa_nil)) (C8.pe_gc (by rfl) T.c_MOST_MEETINGS) (nomark _)))))) (pss_one (ps_ret pe_bl)) pss_nil) (pss_cons (ps_if (pt_not (pt_val (pe_callB (cr_allK (K := K) rfl rfl) (by rfl) T.z_all (by decide +kernel) (pa_cons (pe_lc (own := [("meeting", 1)]) (g := gName 1) rfl sc_is_round.nd (pi_list (pv 0)) (blkOk_by (N := ["value", "meeting", "team"]) (sc := defScope s_is_round) (by decide +kernel)) (fun _ _ _ _ _ => pg_name (i := 1) sc_is_round.nd rfl (by first | exact Or.inl rfl | exact Or.inr rfl)) (fun _ _ _ _ _ => pts_nil) (fun _ _ _ _ _ => (pe_call (ok_is_meeting T) (hr.mono (by decide)) (by rfl) T.g_is_meeting T.F_is_meeting.kp T.b_is_meeting .nil pass0 (pa_cons (pv 1) pa_nil)))) pa_nil)))) (pss_one (ps_ret pe_bl)) pss_nil) (pss_one (ps_ret (pe_cmpR (op_eqDK (K := K) rfl hr.units) (pe_callB (cr_sortedIK (K := K) rfl) (by rfl) T.z_sorted (by decide +kernel) (pa_cons (pe_lc2 (own := [("meeting", 1), ("team", 2)]) (vs1 := [2]) (g := gName 1) (g1 := gName 2) rfl sc_is_round.nd (pi_list (pv 0)) (blkOk_by (N := ["value", "meeting", "team"]) (sc := defScope s_is_round) (by decide +kernel)) (by decide) (fun _ _ _ _ _ => pg_name (i := 1) sc_is_round.nd rfl (by first | exact Or.inl rfl | exact Or.inr rfl)) (fun _ _ _ _ _ => pts_nil) (fun _ _ _ _ _ => pi_tupK (K := K) rfl (pv 1)) (fun _ _ _ _ _ => pg_name (i := 2) sc_is_round.nd rfl (by first | exact Or.inl rfl | exact Or.inr rfl)) (fun _ _ _ _ _ => pts_nil) (fun _ _ _ _ _ => pv 2)) pa_nil)) (pe_listRg rfl (by rfl) T.z_list (prg_1 (by rfl) T.z_range (pe_op op_mul pe_int (pe_callB (call_lenK (K := K) rfl) (by rfl) T.z_len PySem.boot_len (pa_cons (pv 0) pa_nil))))) (nomark _)))))), ?_⟩
    refine ⟨_, rfl, ?_⟩
    refine ⟨ms, _, x_value, _, rfl, hW.enter0, h_value, hM, fun r1 u4 H5 hM e3 h2 => ?_⟩
    replace h_value := rep_ext e3 h_value
    replace hW := hW.ret0 e3
    obtain rfl := of_v h2
    refine ⟨_, rfl, ?_⟩
    refine ite3 hM (fun hM => ?_) (fun hM => ?_)
    · skip
      refine iteT ?_
      exact hQ false _ _ hM hW.out rep_v
    · skip
      refine ⟨_, rfl, ?_⟩
      apply rep_lenL (e := (fun y_ : (Int × Int) => (D.tup [(D.v (V.int y_.1)), (D.v (V.int y_.2))]))) (xs := x_value) h_value
      refine ⟨_, _, rfl, rfl, ?_⟩
      refine ⟨_, rfl, ?_⟩
      refine ite3 hM (fun hM => ?_) (fun hM => ?_)
      · skip
        refine iteT ?_
        exact hQ false _ _ hM hW.out rep_v
      · skip
        refine ⟨_, rfl, ?_⟩
        apply rep_lenL (e := (fun y_ : (Int × Int) => (D.tup [(D.v (V.int y_.1)), (D.v (V.int y_.2))]))) (xs := x_value) h_value
        refine ⟨_, _, rfl, rfl, ?_⟩
        refine ⟨_, rfl, ?_⟩
        refine ite3 hM (fun hM => ?_) (fun hM => ?_)
        · skip
          exact hQ false _ _ hM hW.out rep_v
        · skip
          refine ⟨_, rfl, ?_⟩
          apply rep_iter h_value
          intro a6 xs7 _ an8 hp9 hl10
          refine fun L11 nl12 => ?_
          have nm26 := nm_new hW nl12
          refine lc_listG (L := L11) (fun n_ ys_ h_ => Wd (L11 :: ms) [] [] H_0 h_ ∧ Keep (L11 :: ms) H5 h_ ∧ MutO (L11 :: ms) [] H_0 h_ L11 (D.lst (ys_.map (fun y_ : Bool => (D.v (V.bl y_))))) ∧ ys_.length ≤ n_) (items := x_value) (e := (fun y_ : (Int × Int) => (D.tup [(D.v (V.int y_.1)), (D.v (V.int y_.2))]))) an8 hp9 hl10 nl12 (fun _ _ _ q_ => q_.2.1) hM ⟨wd_cell hW nl12, keep_cell nl12 Keep.refl, mo_newL (ds := []) hW nl12 repL_nil, Nat.le_refl _⟩ ?_ ?_
          · skip
            rintro x22 u23 n13 ys14 k15 H27 hn ⟨hW, hk16, mu17, ln18⟩ h24 hM Nx21 hN19
            replace h_value := rep_keep hk16 (rep_new nl12 h_value)
            refine ⟨rfl, ?_⟩
            refine tyes_of ?_
            refine ⟨_, rfl, ?_⟩
            refine ⟨(L11 :: ms), _, x22, _, rfl, hW.enter0, h24, hM, fun r28 u31 H32 hM e30 h29 => ?_⟩
            replace h_value := rep_ext e30 h_value
            replace hk16 := keep_ext e30 hk16
            replace h24 := rep_ext e30 h24
            replace mu17 := mo_ext e30 mu17
            replace hW := hW.ret0 e30
            obtain rfl := of_v h29
            refine mo_end mu17 hn (by rw [List.length_map]; exact ln18) fun vs33 hr34 => ?_
            have mk36 := mo_setL mu17 (repL_snoc (e := (fun y_ : Bool => (D.v (V.bl y_)))) (xs := ys14) (y := r28) hr34 rep_v)
            replace h_value := rep_put (o := .lst (vs33 ++ [V.bl r28])) mu17.im h_value
            replace hk16 := keep_put (o := .lst (vs33 ++ [V.bl r28])) mu17.im hk16
            replace h24 := rep_put (o := .lst (vs33 ++ [V.bl r28])) mu17.im h24
            replace hW := wd_put (o := .lst (vs33 ++ [V.bl r28])) hW mu17
            replace mu17 := mk36
            generalize upd H32 L11 (.lst (vs33 ++ [V.bl r28])) = H37 at *
            replace mu17 : MutO (L11 :: ms) [] H_0 H37 L11 (D.lst ((ys14 ++ [r28]).map (fun y_ : Bool => (D.v (V.bl y_))))) := mu17
            clear mk36
            exact hN19 r28 _ hM ⟨hW, hk16, mu17, by rw [List.length_append]; exact Nat.add_le_add_right ln18 1⟩
          · skip
            rintro n13 ys38 H39 hM ⟨hW, hk16, mu17, ln18⟩
            replace h_value := rep_keep hk16 (rep_new nl12 h_value)
            clear hk16 ln18
            have h40 := mo_rep_dr dr_here nm26 mu17
            replace hW := wd_dr dr_here mu17.hp hW
            replace h_value := rep_dr dr_here h_value
            clear mu17
            apply rep_all h40
            refine ⟨_, rfl, ?_⟩
            refine ite3 hM (fun hM => ?_) (fun hM => ?_)
            · skip
              exact hQ false _ _ hM hW.out rep_v
            · skip
              refine ⟨_, rfl, ?_⟩
              apply rep_iter h_value
              intro a41 xs42 _ an43 hp44 hl45
              obtain ⟨g46, hM⟩ := hM
              refine lc2_flatC (K := K) (items := x_value) (e := (fun y_ : (Int × Int) => (D.tup [(D.v (V.int y_.1)), (D.v (V.int y_.2))]))) (g := (fun y_ : (Int × Int) => ([y_.1, y_.2] : List Int))) (c := V.int) (fun _ => rfl) an43 hp44 hl45 g46 (show 1 < List.length _ from (by decide : 1 < 3)) (show 2 < List.length _ from (by decide : 2 < 3)) (by decide) ?_
              intro p47 n51
              have e48 := Rx.Ext.new (H := H39) (o := (HO.lst ((List.flatMap (fun y_ : (Int × Int) => ([y_.1, y_.2] : List Int)) x_value).map V.int))) n51
              have hp49 : upd H39 p47 (HO.lst ((List.flatMap (fun y_ : (Int × Int) => ([y_.1, y_.2] : List Int)) x_value).map V.int)) p47 = some (HO.lst ((List.flatMap (fun y_ : (Int × Int) => ([y_.1, y_.2] : List Int)) x_value).map V.int)) := upd_same
              generalize upd H39 p47 (HO.lst ((List.flatMap (fun y_ : (Int × Int) => ([y_.1, y_.2] : List Int)) x_value).map V.int)) = H52 at e48 hp49 ⊢
              have h50 : rep ms H52 (D.lst ((List.flatMap (fun y_ : (Int × Int) => ([y_.1, y_.2] : List Int)) x_value).map (fun y_ : Int => (D.v (V.int y_))))) (.ref p47) := rep_lst_mk hW n51 e48 hp49 repL_intsM
              replace h_value := rep_ext e48 h_value
              replace h40 := rep_ext e48 h40
              replace hW := hW.ret0 e48
              apply rep_sortI (xs := (List.flatMap (fun y_ : (Int × Int) => ([y_.1, y_.2] : List Int)) x_value)) h50
              intro ys53 hpm54 hst55
              replace hM := hM ys53 hpm54 hst55
              intro p56 n60
              have e57 := Rx.Ext.new (H := H52) (o := (HO.lst (ys53.map V.int))) n60
              have hp58 : upd H52 p56 (HO.lst (ys53.map V.int)) p56 = some (HO.lst (ys53.map V.int)) := upd_same
              generalize upd H52 p56 (HO.lst (ys53.map V.int)) = H61 at e57 hp58 ⊢
              have h59 : rep ms H61 (D.lst (ys53.map (fun y_ : Int => (D.v (V.int y_))))) (.ref p56) := rep_lst_mk hW n60 e57 hp58 repL_intsM
              replace h_value := rep_ext e57 h_value
              replace h40 := rep_ext e57 h40
              replace h50 := rep_ext e57 h50
              replace hW := hW.ret0 e57
              refine ⟨_, rfl, ?_⟩
              apply rep_lenL (e := (fun y_ : (Int × Int) => (D.tup [(D.v (V.int y_.1)), (D.v (V.int y_.2))]))) (xs := x_value) h_value
              refine ⟨_, _, rfl, rfl, .inl ⟨by decide, by decide⟩, ?_⟩
              obtain ⟨g62, hM⟩ := hM
              refine ⟨_, rfl, g62, ?_⟩
              intro p63 n67
              have e64 := Rx.Ext.new (H := H61) (o := (HO.lst (rgV (0 : Int) ((2 : Int) * (x_value.length : Int))))) n67
              have hp65 : upd H61 p63 (HO.lst (rgV (0 : Int) ((2 : Int) * (x_value.length : Int)))) p63 = some (HO.lst (rgV (0 : Int) ((2 : Int) * (x_value.length : Int)))) := upd_same
              generalize upd H61 p63 (HO.lst (rgV (0 : Int) ((2 : Int) * (x_value.length : Int)))) = H68 at e64 hp65 ⊢
              have h66 : rep ms H68 (D.lst ((rangeI (0 : Int) ((2 : Int) * (x_value.length : Int))).map (fun y_ : Int => (D.v (V.int y_))))) (.ref p63) := rep_rg_mk hW n67 e64 hp65
              replace h_value := rep_ext e64 h_value
              replace h40 := rep_ext e64 h40
              replace h50 := rep_ext e64 h50
              replace h59 := rep_ext e64 h59
              replace hW := hW.ret0 e64
              obtain ⟨g69, hM⟩ := hM
              apply rep_eqD (d := (D.lst (ys53.map (fun y_ : Int => (D.v (V.int y_)))))) (e := (D.lst ((rangeI (0 : Int) ((2 : Int) * (x_value.length : Int))).map (fun y_ : Int => (D.v (V.int y_)))))) h59 h66 g69.1 g69.2.1 g69.2.2.1 g69.2.2.2
              exact hQ (PyData.eqv (pyOf (D.lst (ys53.map (fun y_ : Int => (D.v (V.int y_)))))) (pyOf (D.lst ((rangeI (0 : Int) ((2 : Int) * (x_value.length : Int))).map (fun y_ : Int => (D.v (V.int y_))))))) _ _ hM hW.out rep_v
def M_check_rounds (x_rounds : (List (List (Int × Int)))) (KM : Unit → Prop) : Prop :=
  (M_is_list x_rounds fun r1 => (if (!r1) = true then False else (if (decide (V.int (x_rounds.length : Int) = V.int (0 : Int))) = true then False else (forC (fun (x11 : (Int × (List (Int × Int)))) (s13 : Unit) (k14 : Unit → Prop) => (M_is_round x11.2 fun r34 => (if (!r34) = true then False else (0 ≤ (0 : Int) ∧ ∃ g40 : Int.toNat (0 : Int) < x_rounds.length, ∀ x42, x42 = x_rounds[Int.toNat (0 : Int)]'g40 → (if (!(decide (V.int (x11.2.length : Int) = V.int (x42.length : Int)))) = true then False else (k14 ())))))) ((rangeI 0 (x_rounds.length : Int)).zip x_rounds) () fun s44 => (if (decide ((60 : Int) < (x_rounds.length : Int))) = true then False else (KM ()))))))
def sp_check_rounds (A : Ad) : Sp := fun vs H Q _ => ∃ (ms : List Addr) (v_rounds : V) (x_rounds : (List (List (Int × Int)))) (KM : Unit → Prop), vs = [v_rounds] ∧ Wd ms [] [] H H ∧ rep ms H (D.lst (x_rounds.map (fun y_ : (List (Int × Int)) => (D.lst (y_.map (fun y_ : (Int × Int) => (D.tup [(D.v (V.int y_.1)), (D.v (V.int y_.2))]))))))) v_rounds ∧ M_check_rounds x_rounds KM ∧ ∀ (r : Unit) (u : V) (H1 : Hp), KM r → Ret [] H H1 → rep ms H1 (D.v V.non) u → Q u H1
set_option maxHeartbeats 16000000 in
theorem ok_check_rounds {P : Program} {w : World} {K : PySem.W.Frag} {mg : Str → Option Value} {base : Heap} {A : Ad} (T : Txt w K mg base A) : FnOk P w K mg base CX0 4 A.a_check_rounds A.d_check_rounds ["rounds"] (sp_check_rounds A) := by
  refine T.F_check_rounds.ok sc_check_rounds (fun vs H Q E h => ?_) (fun cdv A_ outer s_ H_0 vs Q E hr h => ?_)
  · obtain ⟨ms, v_rounds, x_rounds, KM, rfl, _⟩ := h
    rfl
  · obtain ⟨ms, v_rounds, x_rounds, KM, rfl, hW, h_rounds, hM, hQ⟩ := h
    unfold M_check_rounds at hM
    refine ⟨_, (pss_cons (ps_if (PW.pt (pw_or (pt_not (pt_val (pe_call (ok_is_list T) (hr.mono (by decide)) (by rfl) T.g_is_list T.F_is_list.kp T.b_is_list .nil pass0 (pa_cons (pv 0) pa_nil)))) (pw_or1 (pt_cmpR op_eq (pe_callB (call_lenK (K := K) rfl) (by rfl) T.z_len PySem.boot_len (pa_cons (pv 0) pa_nil)) pe_int (nomark _))))) (pss_one ps_never) pss_nil) (pss_cons (ps_for PassesOwn.never rfl (pi_enum (by rfl) T.z_enumerate (pa_cons (pv 0) pa_nil)) (pg_tup rfl (pgs_cons (pg_name (i := 1) sc_check_rounds.nd rfl (by first | exact Or.inl rfl | exact Or.inr rfl)) (pgs_cons (pg_name (i := 2) sc_check_rounds.nd rfl (by first | exact Or.inl rfl | exact Or.inr rfl)) pgs_nil))) (pss_one (ps_if (PW.pt (pw_or (pt_not (pt_val (pe_call (ok_is_round T) (hr.mono (by decide)) (by rfl) T.g_is_round T.F_is_round.kp T.b_is_round .nil pass0 (pa_cons (pv 2) pa_nil)))) (pw_or1 (pt_cmpR op_ne (pe_callB (call_lenK (K := K) rfl) (by rfl) T.z_len PySem.boot_len (pa_cons (pv 2) pa_nil)) (pe_callB (call_lenK (K := K) rfl) (by rfl) T.z_len PySem.boot_len (pa_cons (pe_ix (ix_listK (K := K) rfl) (pv 0) pe_int (fun _ _ => rfl)) pa_nil)) (nomark _))))) (pss_one ps_never) pss_nil))) (pss_one (ps_if (pt_cmpR op_gt (pe_callB (call_lenK (K := K) rfl) (by rfl) T.z_len PySem.boot_len (pa_cons (pv 0) pa_nil)) (C8.pe_gc (by rfl) T.c_MOST_ROUNDS) (nomark _)) (pss_one ps_never) pss_nil)))), ?_⟩
    refine ⟨_, rfl, ?_⟩
    refine ⟨ms, _, x_rounds, _, rfl, hW.enter0, h_rounds, hM, fun r1 u4 H5 hM e3 h2 => ?_⟩
    replace h_rounds := rep_ext e3 h_rounds
    replace hW := hW.ret0 e3
    obtain rfl := of_v h2
    refine ⟨_, rfl, ?_⟩
    refine ite3 hM (fun hM => ?_) (fun hM => ?_)
    · skip
      refine iteT ?_
      exact hM
    · skip
      refine ⟨_, rfl, ?_⟩
      apply rep_lenL (e := (fun y_ : (List (Int × Int)) => (D.lst (y_.map (fun y_ : (Int × Int) => (D.tup [(D.v (V.int y_.1)), (D.v (V.int y_.2))])))))) (xs := x_rounds) h_rounds
      refine ⟨rfl, ?_⟩
      refine ⟨_, rfl, ?_⟩
      refine ite3 hM (fun hM => ?_) (fun hM => ?_)
      · skip
        exact hM
      · skip
        refine ⟨_, rfl, ?_⟩
        apply rep_iterE h_rounds
        intro a6 xs7 _ an8 hp9 hl10
        refine for_enumG (S := Unit) (items := x_rounds) (e := (fun y_ : (List (Int × Int)) => (D.lst (y_.map (fun y_ : (Int × Int) => (D.tup [(D.v (V.int y_.1)), (D.v (V.int y_.2))])))))) (ms := ms) (fun (s : Unit) σ_ h_ => ∃ (w_0 : Option V), ∃ (w_1 : Option V), σ_ = [some v_rounds, w_0, w_1] ∧ Wd ms [] [] H_0 h_ ∧ Keep ms H5 h_) () an8 hp9 hl10 (fun _ _ _ z_ => by obtain ⟨_, _, _, _, q_⟩ := z_; exact q_) (fun _ _ _ z_ => by obtain ⟨_, _, _, w_, _⟩ := z_; exact w_.tr) hM ⟨_, _, rfl, hW, Keep.refl⟩ ?_ ?_
        · skip
          rintro x11 u12 s13 k14 _ H23 H22 ⟨w19, w20, rfl, hW, hk15⟩ ex21 h16 hM Nx17 hN18
          replace h_rounds := rep_keep hk15 h_rounds
          replace h_rounds := rep_ext ex21 h_rounds
          replace hk15 := keep_ext ex21 hk15
          replace hW := hW.ret0 ex21
          apply rep_gtup h16 rfl
          intro vs24 hv25
          obtain ⟨u26, us27, rfl, h28, hv29⟩ := repL_uncons hv25
          obtain rfl := of_v h28
          obtain ⟨u30, us31, rfl, h32, hv33⟩ := repL_uncons hv29
          obtain rfl := repL_empty hv33
          refine ⟨_, _, rfl, ?_⟩
          refine ⟨_, _, rfl, ?_⟩
          refine ⟨rfl, ?_⟩
          refine ⟨_, rfl, ?_⟩
          refine ⟨ms, _, x11.2, _, rfl, hW.enter0, h32, hM, fun r34 u37 H38 hM e36 h35 => ?_⟩
          replace h_rounds := rep_ext e36 h_rounds
          replace hk15 := keep_ext e36 hk15
          replace h16 := rep_ext e36 h16
          replace h32 := rep_ext e36 h32
          replace hW := hW.ret0 e36
          obtain rfl := of_v h35
          refine ⟨_, rfl, ?_⟩
          refine ite3 hM (fun hM => ?_) (fun hM => ?_)
          · skip
            refine iteT ?_
            exact hM
          · skip
            refine ⟨_, rfl, ?_⟩
            apply rep_lenL (e := (fun y_ : (Int × Int) => (D.tup [(D.v (V.int y_.1)), (D.v (V.int y_.2))]))) (xs := x11.2) h32
            refine ⟨_, rfl, ?_⟩
            obtain ⟨g39, g40, hM⟩ := hM
            apply rep_ixL (e := (fun y_ : (List (Int × Int)) => (D.lst (y_.map (fun y_ : (Int × Int) => (D.tup [(D.v (V.int y_.1)), (D.v (V.int y_.2))])))))) (xs := x_rounds) h_rounds g39 g40
            intro u43 h41
            obtain ⟨x42, x42e⟩ : ∃ x_, x_ = x_rounds[Int.toNat (0 : Int)]'g40 := ⟨_, rfl⟩
            rw [← x42e] at h41
            replace hM := hM x42 x42e
            apply rep_lenL (e := (fun y_ : (Int × Int) => (D.tup [(D.v (V.int y_.1)), (D.v (V.int y_.2))]))) (xs := x42) h41
            refine ⟨rfl, ?_⟩
            refine ⟨_, rfl, ?_⟩
            refine ite3 hM (fun hM => ?_) (fun hM => ?_)
            · skip
              exact hM
            · skip
              exact hN18 () _ _ hM ⟨_, _, rfl, hW, hk15⟩
        · skip
          rintro s44 _ H48 hM ⟨w46, w47, rfl, hW, hk45⟩
          replace h_rounds := rep_keep hk45 h_rounds
          refine ⟨_, rfl, ?_⟩
          apply rep_lenL (e := (fun y_ : (List (Int × Int)) => (D.lst (y_.map (fun y_ : (Int × Int) => (D.tup [(D.v (V.int y_.1)), (D.v (V.int y_.2))])))))) (xs := x_rounds) h_rounds
          refine ⟨_, _, rfl, rfl, ?_⟩
          refine ⟨_, rfl, ?_⟩
          refine ite3 hM (fun hM => ?_) (fun hM => ?_)
          · skip
            exact hM
          · skip
            exact hQ () _ _ hM hW.out rep_v
def M_Table_init (x_rounds : (List (List (Int × Int)))) (KM : (List (List (Int × Int))) → Prop) : Prop :=
  (M_check_rounds x_rounds fun r1 => (x_rounds.length < 100000 ∧ mapC (fun (x22 : (List (Int × Int))) (k15 : (List (Int × Int)) → Prop) => (x22.length < 100000 ∧ mapC (fun (x44 : (Int × Int)) (k37 : (Int × Int) → Prop) => (k37 (x44.1, x44.2))) x22 [] fun ys74 => (∀ ys78 : List (Int × Int), ys78.Perm ys74 → ys78.Pairwise lePI → (k15 ys78)))) x_rounds [] fun ys94 => (KM ys94)))
def sp_Table_init (A : Ad) : Sp := fun vs H Q _ => ∃ (ms : List Addr) (p_ dx_ : Addr) (v_rounds : V) (x_rounds : (List (List (Int × Int)))) (KM : (List (List (Int × Int))) → Prop), vs = [.ref p_, v_rounds] ∧ Wd ms [] [] H H ∧ p_ ∈ ms ∧ H p_ = some (.ins A.c_Table dx_ []) ∧ rep ms H (D.lst (x_rounds.map (fun y_ : (List (Int × Int)) => (D.lst (y_.map (fun y_ : (Int × Int) => (D.tup [(D.v (V.int y_.1)), (D.v (V.int y_.2))]))))))) v_rounds ∧ M_Table_init x_rounds KM ∧ ∀ (r : (List (List (Int × Int)))) (us : List V) (H1 : Hp), KM r → KpI p_ H H1 → H1 p_ = some (.ins A.c_Table dx_ (List.zip ns_Table us)) → ns_Table.length = us.length → repL ms H1 [(D.lst (r.map (fun y_ : (List (Int × Int)) => (D.lst (y_.map (fun y_ : (Int × Int) => (D.tup [(D.v (V.int y_.1)), (D.v (V.int y_.2))])))))))] us → Q .non H1
set_option maxHeartbeats 16000000 in
theorem ok_Table_init {P : Program} {w : World} {K : PySem.W.Frag} {mg : Str → Option Value} {base : Heap} {A : Ad} (T : Txt w K mg base A) : FnOk P w K mg base CX0 5 A.a_Table_init A.d_Table_init ["self", "rounds"] (sp_Table_init A) := by
  refine T.F_Table_init.ok sc_Table_init (fun vs H Q E h => ?_) (fun cdv A_ outer s_ H_0 vs Q E hr h => ?_)
  · obtain ⟨ms, p_, dx_, v_rounds, x_rounds, KM, rfl, _⟩ := h
    rfl
  · obtain ⟨ms, p_, dx_, v_rounds, x_rounds, KM, rfl, hW, pm_, hp, h_rounds, hM, hQ⟩ := h
    unfold M_Table_init at hM
    have hK := ki_refl (p := p_) (H := H_0)
    replace hp : H_0 p_ = some (.ins A.c_Table dx_ (List.zip ([] : List Str) ([] : List V))) := hp
    refine ⟨_, (pss_cons (ps_expr (pe_call (ok_check_rounds T) (hr.mono (by decide)) (by rfl) T.g_check_rounds T.F_check_rounds.kp T.b_check_rounds .nil pass0 (pa_cons (pv 1) pa_nil))) (pss_one (ps_fld (pv 0) (pe_lc (own := [("meetings", 2)]) (g := gName 2) rfl sc_Table_init.nd (pi_list (pv 1)) (blkOk_by (N := ["self", "rounds", "meetings", "home", "away"]) (sc := defScope s_Table_init) (by decide +kernel)) (fun _ _ _ _ _ => pg_name (i := 2) sc_Table_init.nd rfl (by first | exact Or.inl rfl | exact Or.inr rfl)) (fun _ _ _ _ _ => pts_nil) (fun _ _ _ _ _ => (pe_callB (cr_sortedPK (K := K) rfl) (by rfl) T.z_sorted (by decide +kernel) (pa_cons (pe_lc (own := [("home", 3), ("away", 4)]) (g := (gTup K 2 (gCons (gName 3) (gCons (gName 4) gNil)))) rfl sc_Table_init.nd (pi_listK (K := K) rfl (pv 2)) (blkOk_in rfl (blkOk_by (N := ["self", "rounds", "meetings", "home", "away"]) (sc := defScope s_Table_init) (by decide +kernel)) (by decide +kernel)) (fun _ _ _ _ _ => (pg_tup rfl (pgs_cons (pg_name (i := 3) sc_Table_init.nd rfl (by first | exact Or.inl rfl | exact Or.inr rfl)) (pgs_cons (pg_name (i := 4) sc_Table_init.nd rfl (by first | exact Or.inl rfl | exact Or.inr rfl)) pgs_nil)))) (fun _ _ _ _ _ => pts_nil) (fun _ _ _ _ _ => (pe_tup (pa_cons (pv 3) (pa_cons (pv 4) pa_nil))))) pa_nil)))) rfl))), ?_⟩
    refine ⟨_, rfl, ?_⟩
    refine ⟨ms, _, x_rounds, _, rfl, hW.enter0, h_rounds, hM, fun r1 u4 H5 hM e3 h2 => ?_⟩
    replace h_rounds := rep_ext e3 h_rounds
    replace hp := Rx.Ext.keep e3 hp
    replace hW := hW.ret0 e3
    obtain rfl := of_v h2
    refine ⟨_, rfl, ?_⟩
    apply rep_iter h_rounds
    intro a6 xs7 _ an8 hp9 hl10
    refine fun L11 nl12 => ?_
    have nm26 := nm_new hW nl12
    refine lc_listG (L := L11) (fun n_ ys_ h_ => Wd (L11 :: ms) [] [] H_0 h_ ∧ Keep (L11 :: ms) H5 h_ ∧ MutO (L11 :: ms) [] H_0 h_ L11 (D.lst (ys_.map (fun y_ : (List (Int × Int)) => (D.lst (y_.map (fun y_ : (Int × Int) => (D.tup [(D.v (V.int y_.1)), (D.v (V.int y_.2))]))))))) ∧ ys_.length ≤ n_ ∧ h_ p_ = some (.ins A.c_Table dx_ (List.zip ([] : List Str) ([] : List V)))) (items := x_rounds) (e := (fun y_ : (List (Int × Int)) => (D.lst (y_.map (fun y_ : (Int × Int) => (D.tup [(D.v (V.int y_.1)), (D.v (V.int y_.2))])))))) an8 hp9 hl10 nl12 (fun _ _ _ q_ => q_.2.1) hM ⟨wd_cell hW nl12, keep_cell nl12 Keep.refl, mo_newL (ds := []) hW nl12 repL_nil, Nat.le_refl _, Rx.Ext.keep (Rx.Ext.new nl12) hp⟩ ?_ ?_
    · skip
      rintro x22 u23 n13 ys14 k15 H27 hn ⟨hW, hk16, mu17, ln18, hp⟩ h24 hM Nx21 hN19
      replace h_rounds := rep_keep hk16 (rep_new nl12 h_rounds)
      refine ⟨rfl, ?_⟩
      refine tyes_of ?_
      refine ⟨_, rfl, ?_⟩
      apply rep_iter h24
      intro a28 xs29 _ an30 hp31 hl32
      refine fun L33 nl34 => ?_
      have nm48 := nm_new hW nl34
      have kn49 := keep_none (w := hW) nl34 hk16
      have ne50 := mo_ne nl34 mu17
      refine lc_listG (L := L33) (fun n_ ys_ h_ => Wd (L33 :: (L11 :: ms)) [] [] H_0 h_ ∧ Keep (L33 :: (L11 :: ms)) H27 h_ ∧ MutO (L33 :: (L11 :: ms)) [] H_0 h_ L33 (D.lst (ys_.map (fun y_ : (Int × Int) => (D.tup [(D.v (V.int y_.1)), (D.v (V.int y_.2))])))) ∧ ys_.length ≤ n_ ∧ MutO (L33 :: (L11 :: ms)) [] H_0 h_ L11 (D.lst (ys14.map (fun y_ : (List (Int × Int)) => (D.lst (y_.map (fun y_ : (Int × Int) => (D.tup [(D.v (V.int y_.1)), (D.v (V.int y_.2))]))))))) ∧ h_ p_ = some (.ins A.c_Table dx_ (List.zip ([] : List Str) ([] : List V)))) (items := x22) (e := (fun y_ : (Int × Int) => (D.tup [(D.v (V.int y_.1)), (D.v (V.int y_.2))]))) an30 hp31 hl32 nl34 (fun _ _ _ q_ => q_.2.1) hM ⟨wd_cell hW nl34, keep_cell nl34 Keep.refl, mo_newL (ds := []) hW nl34 repL_nil, Nat.le_refl _, mo_cell nl34 mu17, Rx.Ext.keep (Rx.Ext.new nl34) hp⟩ ?_ ?_
      · skip
        clear mu17
        rintro x44 u45 n35 ys36 k37 H51 hn ⟨hW, hk38, mu39, ln40, mu52, hp⟩ h46 hM Nx43 hN41
        replace h_rounds := rep_keep hk38 (rep_new nl34 h_rounds)
        replace hk16 := Keep.trans (Keep.new hk16) hk38
        replace h24 := rep_keep hk38 (rep_new nl34 h24)
        apply rep_gtup h46 rfl
        intro vs53 hv54
        obtain ⟨u55, us56, rfl, h57, hv58⟩ := repL_uncons hv54
        obtain rfl := of_v h57
        obtain ⟨u59, us60, rfl, h61, hv62⟩ := repL_uncons hv58
        obtain rfl := of_v h61
        obtain rfl := repL_empty hv62
        refine ⟨_, _, rfl, ?_⟩
        refine ⟨_, _, rfl, ?_⟩
        refine ⟨rfl, ?_⟩
        refine ⟨rfl, ?_⟩
        refine tyes_of ?_
        refine ⟨_, rfl, ?_⟩
        refine ⟨_, rfl, ?_⟩
        refine ⟨(by show 2 ≤ sizeLine; decide), ?_⟩
        intro p63 n67
        have e64 := Rx.Ext.new (H := H51) (o := (HO.tup [V.int x44.1, V.int x44.2])) n67
        have hp65 : upd H51 p63 (HO.tup [V.int x44.1, V.int x44.2]) p63 = some (HO.tup [V.int x44.1, V.int x44.2]) := upd_same
        generalize upd H51 p63 (HO.tup [V.int x44.1, V.int x44.2]) = H68 at e64 hp65 ⊢
        have h66 : rep (L33 :: (L11 :: ms)) H68 (D.tup [(D.v (V.int x44.1)), (D.v (V.int x44.2))]) (.ref p63) := rep_tup_mk hW n67 e64 hp65 (repL_cons rep_v (repL_cons rep_v repL_nil))
        replace h_rounds := rep_ext e64 h_rounds
        replace hk16 := keep_ext e64 hk16
        replace h24 := rep_ext e64 h24
        replace hk38 := keep_ext e64 hk38
        replace h46 := rep_ext e64 h46
        replace mu52 := mo_ext e64 mu52
        replace mu39 := mo_ext e64 mu39
        replace hp := Rx.Ext.keep e64 hp
        replace hW := hW.ret0 e64
        refine mo_end mu39 hn (by rw [List.length_map]; exact ln40) fun vs69 hr70 => ?_
        have mk72 := mo_setL mu39 (repL_snoc (e := (fun y_ : (Int × Int) => (D.tup [(D.v (V.int y_.1)), (D.v (V.int y_.2))]))) (xs := ys36) (y := (x44.1, x44.2)) hr70 h66)
        replace mu52 := mo_put (o := .lst (vs69 ++ [(V.ref p63)])) mu39.im ne50 mu52
        replace h_rounds := rep_put (o := .lst (vs69 ++ [(V.ref p63)])) mu39.im h_rounds
        replace hk16 := keep_put (o := .lst (vs69 ++ [(V.ref p63)])) mu39.im hk16
        replace h24 := rep_put (o := .lst (vs69 ++ [(V.ref p63)])) mu39.im h24
        replace hk38 := keep_put (o := .lst (vs69 ++ [(V.ref p63)])) mu39.im hk38
        replace h46 := rep_put (o := .lst (vs69 ++ [(V.ref p63)])) mu39.im h46
        replace h66 := rep_put (o := .lst (vs69 ++ [(V.ref p63)])) mu39.im h66
        replace hp := at_put (o := .lst (vs69 ++ [(V.ref p63)])) hp mu39
        replace hW := wd_put (o := .lst (vs69 ++ [(V.ref p63)])) hW mu39
        replace mu39 := mk72
        generalize upd H68 L33 (.lst (vs69 ++ [(V.ref p63)])) = H73 at *
        replace mu39 : MutO (L33 :: (L11 :: ms)) [] H_0 H73 L33 (D.lst ((ys36 ++ [(x44.1, x44.2)]).map (fun y_ : (Int × Int) => (D.tup [(D.v (V.int y_.1)), (D.v (V.int y_.2))])))) := mu39
        clear mk72
        exact hN41 (x44.1, x44.2) _ hM ⟨hW, hk38, mu39, by rw [List.length_append]; exact Nat.add_le_add_right ln40 1, mu52, hp⟩
      · skip
        clear mu17
        rintro n35 ys74 H75 hM ⟨hW, hk38, mu39, ln40, mu76, hp⟩
        replace h_rounds := rep_keep hk38 (rep_new nl34 h_rounds)
        replace hk16 := Keep.trans (Keep.new hk16) hk38
        replace h24 := rep_keep hk38 (rep_new nl34 h24)
        clear hk38 ln40
        have h77 := mo_rep_dr dr_here nm48 mu39
        replace hW := wd_dr dr_here mu39.hp hW
        replace h_rounds := rep_dr dr_here h_rounds
        replace hk16 := keep_dr dr_here kn49 hk16
        replace h24 := rep_dr dr_here h24
        replace mu76 := mo_dr dr_here ne50 mu76
        clear mu39
        apply rep_sortP (xs := ys74) h77
        intro ys78 zs81 hpm79 hst80 hr82
        replace hM := hM ys78 hpm79 hst80
        intro p83 n87
        have e84 := Rx.Ext.new (H := H75) (o := (HO.lst (zs81))) n87
        have hp85 : upd H75 p83 (HO.lst (zs81)) p83 = some (HO.lst (zs81)) := upd_same
        generalize upd H75 p83 (HO.lst (zs81)) = H88 at e84 hp85 ⊢
        have h86 : rep (L11 :: ms) H88 (D.lst (ys78.map (fun y_ : (Int × Int) => (D.tup [(D.v (V.int y_.1)), (D.v (V.int y_.2))])))) (.ref p83) := rep_lst_mk hW n87 e84 hp85 hr82
        replace h_rounds := rep_ext e84 h_rounds
        replace hk16 := keep_ext e84 hk16
        replace h24 := rep_ext e84 h24
        replace h77 := rep_ext e84 h77
        replace mu76 := mo_ext e84 mu76
        replace hp := Rx.Ext.keep e84 hp
        replace hW := hW.ret0 e84
        refine mo_end mu76 hn (by rw [List.length_map]; exact ln18) fun vs89 hr90 => ?_
        have mk92 := mo_setL mu76 (repL_snoc (e := (fun y_ : (List (Int × Int)) => (D.lst (y_.map (fun y_ : (Int × Int) => (D.tup [(D.v (V.int y_.1)), (D.v (V.int y_.2))])))))) (xs := ys14) (y := ys78) hr90 h86)
        replace h_rounds := rep_put (o := .lst (vs89 ++ [(V.ref p83)])) mu76.im h_rounds
        replace hk16 := keep_put (o := .lst (vs89 ++ [(V.ref p83)])) mu76.im hk16
        replace h24 := rep_put (o := .lst (vs89 ++ [(V.ref p83)])) mu76.im h24
        replace h77 := rep_put (o := .lst (vs89 ++ [(V.ref p83)])) mu76.im h77
        replace h86 := rep_put (o := .lst (vs89 ++ [(V.ref p83)])) mu76.im h86
        replace hp := at_put (o := .lst (vs89 ++ [(V.ref p83)])) hp mu76
        replace hW := wd_put (o := .lst (vs89 ++ [(V.ref p83)])) hW mu76
        replace mu76 := mk92
        generalize upd H88 L11 (.lst (vs89 ++ [(V.ref p83)])) = H93 at *
        replace mu76 : MutO (L11 :: ms) [] H_0 H93 L11 (D.lst ((ys14 ++ [ys78]).map (fun y_ : (List (Int × Int)) => (D.lst (y_.map (fun y_ : (Int × Int) => (D.tup [(D.v (V.int y_.1)), (D.v (V.int y_.2))]))))))) := mu76
        clear mk92
        exact hN19 ys78 _ hM ⟨hW, hk16, mu76, by rw [List.length_append]; exact Nat.add_le_add_right ln18 1, hp⟩
    · skip
      rintro n13 ys94 H95 hM ⟨hW, hk16, mu17, ln18, hp⟩
      replace h_rounds := rep_keep hk16 (rep_new nl12 h_rounds)
      clear hk16 ln18
      have h96 := mo_rep_dr dr_here nm26 mu17
      replace hW := wd_dr dr_here mu17.hp hW
      replace h_rounds := rep_dr dr_here h_rounds
      clear mu17
      refine ⟨_, rfl, p_, A.c_Table, dx_, _, rfl, hp, T.cl_Table, T.na_Table__rounds, (by first | decide | simp), ?_⟩
      have z97 : putF ("_rounds" : Str) ((V.ref L11)) (List.zip ([] : List Str) ([] : List V)) = List.zip [("_rounds" : Str)] [(V.ref L11)] := putF_zip (ns := ([] : List Str)) (us := ([] : List V)) rfl (nin_of (by decide +kernel))
      replace h_rounds := rep_put (o := .ins A.c_Table dx_ (putF ("_rounds" : Str) ((V.ref L11)) (List.zip ([] : List Str) ([] : List V)))) pm_ h_rounds
      replace h96 := rep_put (o := .ins A.c_Table dx_ (putF ("_rounds" : Str) ((V.ref L11)) (List.zip ([] : List Str) ([] : List V)))) pm_ h96
      replace hK := ki_put (o := .ins A.c_Table dx_ (putF ("_rounds" : Str) ((V.ref L11)) (List.zip ([] : List Str) ([] : List V)))) hK hW
      replace hW := wd_at (p := p_) (o := .ins A.c_Table dx_ (putF ("_rounds" : Str) ((V.ref L11)) (List.zip ([] : List Str) ([] : List V)))) hW
      replace hp : upd H95 p_ (.ins A.c_Table dx_ (putF ("_rounds" : Str) ((V.ref L11)) (List.zip ([] : List Str) ([] : List V)))) p_ = some (.ins A.c_Table dx_ (putF ("_rounds" : Str) ((V.ref L11)) (List.zip ([] : List Str) ([] : List V)))) := upd_same
      generalize upd H95 p_ (.ins A.c_Table dx_ (putF ("_rounds" : Str) ((V.ref L11)) (List.zip ([] : List Str) ([] : List V)))) = H98 at *
      rw [z97] at hp
      exact hQ ys94 [(V.ref L11)] _ hM (ki_wd hK hW) hp rfl (repL_cons h96 repL_nil)
theorem make_Table_init {ms : List Addr} {ps : List PEn} {cs : List (Addr × List V)} {H0 H : Hp} {A : Ad} {v_rounds : V} {x_rounds : (List (List (Int × Int)))} {KM : (List (List (Int × Int))) → Prop} {Q : Addr → Hp → Prop} {E : XK} (hW : Wd ms ps cs H0 H) (h_rounds : rep ms H (D.lst (x_rounds.map (fun y_ : (List (Int × Int)) => (D.lst (y_.map (fun y_ : (Int × Int) => (D.tup [(D.v (V.int y_.1)), (D.v (V.int y_.2))]))))))) v_rounds) (hM : M_Table_init x_rounds KM)
    (k : ∀ (x : Addr) (H1 : Hp) (r : (List (List (Int × Int)))), KM r → Rx.Ext H H1 → rep ms H1 (eTable A r) (.ref x) → Q x H1) :
    ∀ x dx, H x = none → H dx = none → dx ≠ x → sp_Table_init A (.ref x :: ([v_rounds] ++ [])) (upd (upd H dx (.own x)) x (.ins A.c_Table dx [])) (fun v H2 => v = .non ∧ Q x H2) E := by
  intro x dx nx ndx ne
  exact ⟨x :: ms, x, dx, v_rounds, x_rounds, KM, rfl, wd_new hW nx ndx, List.mem_cons_self, upd_same, mem_new nx h_rounds ndx, hM, fun r us H1 hr hK hp hl hu => ⟨rfl, k x H1 r hr (ext_new hK nx ndx) (rep_insW hW nx hp hl hu)⟩⟩
def M_Table_size (x_self : (List (List (Int × Int)))) (KM : Int → Prop) : Prop :=
  (0 ≤ (0 : Int) ∧ ∃ g4 : Int.toNat (0 : Int) < x_self.length, ∀ x6, x6 = x_self[Int.toNat (0 : Int)]'g4 → (KM ((2 : Int) * (x6.length : Int))))
def sp_Table_size (A : Ad) : Sp := fun vs H Q _ => ∃ (ms : List Addr) (v_self : V) (x_self : (List (List (Int × Int)))) (KM : Int → Prop), vs = [v_self] ∧ Wd ms [] [] H H ∧ rep ms H (eTable A x_self) v_self ∧ M_Table_size x_self KM ∧ ∀ (r : Int) (u : V) (H1 : Hp), KM r → Ret [] H H1 → rep ms H1 (D.v (V.int r)) u → Q u H1
set_option maxHeartbeats 16000000 in
theorem ok_Table_size {P : Program} {w : World} {K : PySem.W.Frag} {mg : Str → Option Value} {base : Heap} {A : Ad} (T : Txt w K mg base A) : FnOk P w K mg base CX0 1 A.a_Table_size A.d_Table_size ["self"] (sp_Table_size A) := by
  refine T.F_Table_size.ok sc_Table_size (fun vs H Q E h => ?_) (fun cdv A_ outer s_ H_0 vs Q E hr h => ?_)
  · obtain ⟨ms, v_self, x_self, KM, rfl, _⟩ := h
    rfl
  · obtain ⟨ms, v_self, x_self, KM, rfl, hW, h_self, hM, hQ⟩ := h
    unfold M_Table_size at hM
    refine ⟨_, (pss_one (ps_ret (pe_op op_mul pe_int (pe_callB (call_lenK (K := K) rfl) (by rfl) T.z_len PySem.boot_len (pa_cons (pe_ix (ix_listK (K := K) rfl) (pe_fld (pv 0) rfl) pe_int (fun _ _ => rfl)) pa_nil))))), ?_⟩
    refine ⟨_, rfl, ?_⟩
    apply rep_fld (j := 0) h_self T.cl_Table T.na_Table__rounds nd_Table rfl rfl
    intro u2 h1
    obtain ⟨g3, g4, hM⟩ := hM
    apply rep_ixL (e := (fun y_ : (List (Int × Int)) => (D.lst (y_.map (fun y_ : (Int × Int) => (D.tup [(D.v (V.int y_.1)), (D.v (V.int y_.2))])))))) (xs := x_self) h1 g3 g4
    intro u7 h5
    obtain ⟨x6, x6e⟩ : ∃ x_, x_ = x_self[Int.toNat (0 : Int)]'g4 := ⟨_, rfl⟩
    rw [← x6e] at h5
    replace hM := hM x6 x6e
    apply rep_lenL (e := (fun y_ : (Int × Int) => (D.tup [(D.v (V.int y_.1)), (D.v (V.int y_.2))]))) (xs := x6) h5
    refine ⟨_, _, rfl, rfl, .inl ⟨by decide, by decide⟩, ?_⟩
    exact hQ ((2 : Int) * (x6.length : Int)) _ _ hM hW.out rep_v
def M_is_count (x_value : Int) (KM : Bool → Prop) : Prop :=
  (M_is_integer x_value fun r1 => (if r1 = true then (KM (decide ((0 : Int) ≤ x_value))) else (KM false)))
def sp_is_count (A : Ad) : Sp := fun vs H Q _ => ∃ (ms : List Addr) (x_value : Int) (KM : Bool → Prop), vs = [V.int x_value] ∧ Wd ms [] [] H H ∧ M_is_count x_value KM ∧ ∀ (r : Bool) (u : V) (H1 : Hp), KM r → Ret [] H H1 → rep ms H1 (D.v (V.bl r)) u → Q u H1
set_option maxHeartbeats 16000000 in
theorem ok_is_count {P : Program} {w : World} {K : PySem.W.Frag} {mg : Str → Option Value} {base : Heap} {A : Ad} (T : Txt w K mg base A) : FnOk P w K mg base CX0 2 A.a_is_count A.d_is_count ["value"] (sp_is_count A) := by
  refine T.F_is_count.ok sc_is_count (fun vs H Q E h => ?_) (fun cdv A_ outer s_ H_0 vs Q E hr h => ?_)
  · obtain ⟨ms, x_value, KM, rfl, _⟩ := h
    rfl
  · obtain ⟨ms, x_value, KM, rfl, hW, hM, hQ⟩ := h
    unfold M_is_count at hM
    refine ⟨_, (pss_one (ps_ret (pe_and (pe_call (ok_is_integer T) (hr.mono (by decide)) (by rfl) T.g_is_integer T.F_is_integer.kp T.b_is_integer .nil pass0 (pa_cons (pv 0) pa_nil)) (pe_one (pe_cmpR op_ge (pv 0) pe_int (nomark _)))))), ?_⟩
    refine ⟨_, rfl, ?_⟩
    refine ⟨ms, x_value, _, rfl, hW.enter0, hM, fun r1 u4 H5 hM e3 h2 => ?_⟩
    replace hW := hW.ret0 e3
    obtain rfl := of_v h2
    refine ⟨_, rfl, ?_⟩
    refine ite3 hM (fun hM => ?_) (fun hM => ?_)
    · skip
      refine ⟨_, rfl, ?_⟩
      refine ⟨_, _, rfl, rfl, ?_⟩
      exact hQ (decide ((0 : Int) ≤ x_value)) _ _ hM hW.out rep_v
    · skip
      exact hQ false _ _ hM hW.out rep_v
def M_check_team (x_team : Int) (x_teams : Int) (KM : Unit → Prop) : Prop :=
  (M_is_count x_team fun r1 => (if (!r1) = true then False else (if (decide (x_teams ≤ x_team)) = true then False else (KM ()))))
def sp_check_team (A : Ad) : Sp := fun vs H Q _ => ∃ (ms : List Addr) (x_team : Int) (x_teams : Int) (KM : Unit → Prop), vs = [V.int x_team, V.int x_teams] ∧ Wd ms [] [] H H ∧ M_check_team x_team x_teams KM ∧ ∀ (r : Unit) (u : V) (H1 : Hp), KM r → Ret [] H H1 → rep ms H1 (D.v V.non) u → Q u H1
set_option maxHeartbeats 16000000 in
theorem ok_check_team {P : Program} {w : World} {K : PySem.W.Frag} {mg : Str → Option Value} {base : Heap} {A : Ad} (T : Txt w K mg base A) : FnOk P w K mg base CX0 3 A.a_check_team A.d_check_team ["team", "teams"] (sp_check_team A) := by
  refine T.F_check_team.ok sc_check_team (fun vs H Q E h => ?_) (fun cdv A_ outer s_ H_0 vs Q E hr h => ?_)
  · obtain ⟨ms, x_team, x_teams, KM, rfl, _⟩ := h
    rfl
  · obtain ⟨ms, x_team, x_teams, KM, rfl, hW, hM, hQ⟩ := h
    unfold M_check_team at hM
    refine ⟨_, (pss_one (ps_if (PW.pt (pw_or (pt_not (pt_val (pe_call (ok_is_count T) (hr.mono (by decide)) (by rfl) T.g_is_count T.F_is_count.kp T.b_is_count .nil pass0 (pa_cons (pv 0) pa_nil)))) (pw_or1 (pt_cmpR op_ge (pv 0) (pv 1) (nomark _))))) (pss_one ps_never) pss_nil)), ?_⟩
    refine ⟨_, rfl, ?_⟩
    refine ⟨ms, x_team, _, rfl, hW.enter0, hM, fun r1 u4 H5 hM e3 h2 => ?_⟩
    replace hW := hW.ret0 e3
    obtain rfl := of_v h2
    refine ⟨_, rfl, ?_⟩
    refine ite3 hM (fun hM => ?_) (fun hM => ?_)
    · skip
      refine iteT ?_
      exact hM
    · skip
      refine ⟨_, rfl, ?_⟩
      refine ⟨_, rfl, ?_⟩
      refine ⟨_, _, rfl, rfl, ?_⟩
      refine ⟨_, rfl, ?_⟩
      refine ite3 hM (fun hM => ?_) (fun hM => ?_)
      · skip
        exact hM
      · skip
        exact hQ () _ _ hM hW.out rep_v
def M_mark_in (x_meetings : (List (Int × Int))) (x_team : Int) (KM : Str → Prop) : Prop :=
  (∃ KB1 : Str → Prop, (x_meetings.length < 100000 ∧ mapC (fun (x20 : (Int × Int)) (k13 : Int → Prop) => (k13 x20.1)) x_meetings [] fun ys34 => (if (inV (V.int x_team) (ys34.map V.int)) = true then (KB1 ("h" : Str)) else (KB1 ("a" : Str)))) ∧ ∀ r37 : Str, KB1 r37 → (KM r37))
def sp_mark_in (A : Ad) : Sp := fun vs H Q _ => ∃ (ms : List Addr) (v_meetings : V) (x_meetings : (List (Int × Int))) (x_team : Int) (KM : Str → Prop), vs = [v_meetings, V.int x_team] ∧ Wd ms [] [] H H ∧ rep ms H (D.lst (x_meetings.map (fun y_ : (Int × Int) => (D.tup [(D.v (V.int y_.1)), (D.v (V.int y_.2))])))) v_meetings ∧ M_mark_in x_meetings x_team KM ∧ ∀ (r : Str) (u : V) (H1 : Hp), KM r → Ret [] H H1 → rep ms H1 (D.v (V.str r)) u → Q u H1
set_option maxHeartbeats 16000000 in
theorem ok_mark_in {P : Program} {w : World} {K : PySem.W.Frag} {mg : Str → Option Value} {base : Heap} {A : Ad} (T : Txt w K mg base A) : FnOk P w K mg base CX0 1 A.a_mark_in A.d_mark_in ["meetings", "team"] (sp_mark_in A) := by
  refine T.F_mark_in.ok sc_mark_in (fun vs H Q E h => ?_) (fun cdv A_ outer s_ H_0 vs Q E hr h => ?_)
  · obtain ⟨ms, v_meetings, x_meetings, x_team, KM, rfl, _⟩ := h
    rfl
  · obtain ⟨ms, v_meetings, x_meetings, x_team, KM, rfl, hW, h_meetings, hM, hQ⟩ := h
    unfold M_mark_in at hM
    refine ⟨_, (pss_one (ps_ret (pe_up (pe_ifExp (pt_cmpR (op_inSK (K := K) rfl) (pv 1) (pe_lc (own := [("meeting", 2)]) (g := gName 2) rfl sc_mark_in.nd (pi_list (pv 0)) (blkOk_by (N := ["meetings", "team", "meeting"]) (sc := defScope s_mark_in) (by decide +kernel)) (fun _ _ _ _ _ => pg_name (i := 2) sc_mark_in.nd rfl (by first | exact Or.inl rfl | exact Or.inr rfl)) (fun _ _ _ _ _ => pts_nil) (fun _ _ _ _ _ => (pe_ix (ix_tupK (K := K) rfl) (pv 2) pe_int (fun _ _ => rfl)))) (by rfl)) pe_str pe_str)))), ?_⟩
    obtain ⟨KB1, hM, hKKB1⟩ := hM
    refine ⟨fun v H1 => ∃ r : Str, KB1 r ∧ Wd ms [] [] H_0 H1 ∧ Keep ms H_0 H1 ∧ rep ms H1 (D.v (V.str r)) v, ?_, ?_⟩
    · skip
      have hj3 := Keep.refl (ms := ms) (H := H_0)
      refine ⟨_, rfl, ?_⟩
      refine ⟨_, rfl, ?_⟩
      apply rep_iter h_meetings
      intro a4 xs5 _ an6 hp7 hl8
      refine fun L9 nl10 => ?_
      have nm24 := nm_new hW nl10
      have kn25 := keep_none (w := hW) nl10 hj3
      refine lc_listG (L := L9) (fun n_ ys_ h_ => Wd (L9 :: ms) [] [] H_0 h_ ∧ Keep (L9 :: ms) H_0 h_ ∧ MutO (L9 :: ms) [] H_0 h_ L9 (D.lst (ys_.map (fun y_ : Int => (D.v (V.int y_))))) ∧ ys_.length ≤ n_) (items := x_meetings) (e := (fun y_ : (Int × Int) => (D.tup [(D.v (V.int y_.1)), (D.v (V.int y_.2))]))) an6 hp7 hl8 nl10 (fun _ _ _ q_ => q_.2.1) hM ⟨wd_cell hW nl10, keep_cell nl10 Keep.refl, mo_newL (ds := []) hW nl10 repL_nil, Nat.le_refl _⟩ ?_ ?_
      · skip
        rintro x20 u21 n11 ys12 k13 H26 hn ⟨hW, hk14, mu15, ln16⟩ h22 hM Nx19 hN17
        replace h_meetings := rep_keep hk14 (rep_new nl10 h_meetings)
        replace hj3 := Keep.trans (Keep.new hj3) hk14
        refine ⟨rfl, ?_⟩
        refine tyes_of ?_
        refine ⟨_, rfl, ?_⟩
        apply rep_ixT 0 h22 rfl rfl
        intro u28 h27
        obtain rfl := of_v h27
        refine mo_end mu15 hn (by rw [List.length_map]; exact ln16) fun vs29 hr30 => ?_
        have mk32 := mo_setL mu15 (repL_snoc (e := (fun y_ : Int => (D.v (V.int y_)))) (xs := ys12) (y := x20.1) hr30 rep_v)
        replace h_meetings := rep_put (o := .lst (vs29 ++ [V.int x20.1])) mu15.im h_meetings
        replace hj3 := keep_put (o := .lst (vs29 ++ [V.int x20.1])) mu15.im hj3
        replace hk14 := keep_put (o := .lst (vs29 ++ [V.int x20.1])) mu15.im hk14
        replace h22 := rep_put (o := .lst (vs29 ++ [V.int x20.1])) mu15.im h22
        replace hW := wd_put (o := .lst (vs29 ++ [V.int x20.1])) hW mu15
        replace mu15 := mk32
        generalize upd H26 L9 (.lst (vs29 ++ [V.int x20.1])) = H33 at *
        replace mu15 : MutO (L9 :: ms) [] H_0 H33 L9 (D.lst ((ys12 ++ [x20.1]).map (fun y_ : Int => (D.v (V.int y_))))) := mu15
        clear mk32
        exact hN17 x20.1 _ hM ⟨hW, hk14, mu15, by rw [List.length_append]; exact Nat.add_le_add_right ln16 1⟩
      · skip
        rintro n11 ys34 H35 hM ⟨hW, hk14, mu15, ln16⟩
        replace h_meetings := rep_keep hk14 (rep_new nl10 h_meetings)
        replace hj3 := Keep.trans (Keep.new hj3) hk14
        clear hk14 ln16
        have h36 := mo_rep_dr dr_here nm24 mu15
        replace hW := wd_dr dr_here mu15.hp hW
        replace h_meetings := rep_dr dr_here h_meetings
        replace hj3 := keep_dr dr_here kn25 hj3
        clear mu15
        apply rep_inL (f := V.int) (xs := ys34) h36 rfl (fun _ => rfl)
        refine ⟨_, rfl, ?_⟩
        refine ite3 hM (fun hM => ?_) (fun hM => ?_)
        · skip
          exact ⟨("h" : Str), hM, hW, hj3, rep_v⟩
        · skip
          exact ⟨("a" : Str), hM, hW, hj3, rep_v⟩
    · skip
      rintro u39 Hj2 ⟨r37, hr, hW, hj3, h38⟩
      replace hM := hKKB1 r37 hr
      replace h_meetings := rep_keep hj3 h_meetings
      obtain rfl := of_v h38
      exact hQ r37 _ _ hM hW.out rep_v
def M_Table_row_of (x_self : (List (List (Int × Int)))) (x_team : Int) (KM : Str → Prop) : Prop :=
  (M_Table_size x_self fun r2 => (M_check_team x_team r2 fun r7 => (x_self.length < 100000 ∧ mapC (fun (x30 : (List (Int × Int))) (k23 : Str → Prop) => (M_mark_in x30 x_team fun r36 => (k23 r36))) x_self [] fun ys46 => ((ys46.map (·.length)).sum + ys46.length * ("" : Str).length ≤ 16777216 ∧ (KM (Txt.join ("" : Str) ys46))))))
def sp_Table_row_of (A : Ad) : Sp := fun vs H Q _ => ∃ (ms : List Addr) (v_self : V) (x_self : (List (List (Int × Int)))) (x_team : Int) (KM : Str → Prop), vs = [v_self, V.int x_team] ∧ Wd ms [] [] H H ∧ rep ms H (eTable A x_self) v_self ∧ M_Table_row_of x_self x_team KM ∧ ∀ (r : Str) (u : V) (H1 : Hp), KM r → Ret [] H H1 → rep ms H1 (D.v (V.str r)) u → Q u H1
set_option maxHeartbeats 16000000 in
theorem ok_Table_row_of {P : Program} {w : World} {K : PySem.W.Frag} {mg : Str → Option Value} {base : Heap} {A : Ad} (T : Txt w K mg base A) : FnOk P w K mg base CX0 4 A.a_Table_row_of A.d_Table_row_of ["self", "team"] (sp_Table_row_of A) := by
  refine T.F_Table_row_of.ok sc_Table_row_of (fun vs H Q E h => ?_) (fun cdv A_ outer s_ H_0 vs Q E hr h => ?_)
  · obtain ⟨ms, v_self, x_self, x_team, KM, rfl, _⟩ := h
    rfl
  · obtain ⟨ms, v_self, x_self, x_team, KM, rfl, hW, h_self, hM, hQ⟩ := h
    unfold M_Table_row_of at hM
    refine ⟨_, (pss_cons (ps_expr (pe_call (ok_check_team T) (hr.mono (by decide)) (by rfl) T.g_check_team T.F_check_team.kp T.b_check_team .nil pass0 (pa_cons (pv 1) (pa_cons (pe_prop (pv 0) T.cl_Table T.p_Table_size (ok_Table_size T) (hr.mono (by decide)) T.b_Table_size .nil pass0 rfl) pa_nil)))) (pss_one (ps_ret (pe_join pe_str (pe_lc (own := [("meetings", 2)]) (g := gName 2) rfl sc_Table_row_of.nd (pi_list (pe_fld (pv 0) rfl)) (blkOk_by (N := ["self", "team", "meetings"]) (sc := defScope s_Table_row_of) (by decide +kernel)) (fun _ _ _ _ _ => pg_name (i := 2) sc_Table_row_of.nd rfl (by first | exact Or.inl rfl | exact Or.inr rfl)) (fun _ _ _ _ _ => pts_nil) (fun _ _ _ _ _ => (pe_call (ok_mark_in T) (hr.mono (by decide)) (by rfl) T.g_mark_in T.F_mark_in.kp T.b_mark_in .nil pass0 (pa_cons (pv 2) (pa_cons (pv 1) pa_nil))))))))), ?_⟩
    refine ⟨_, rfl, ?_⟩
    refine ⟨_, rfl, ?_⟩
    apply rep_prop h_self
    intro _ h1
    refine ⟨ms, _, x_self, _, rfl, hW.enter0, h1, hM, fun r2 u5 H6 hM e4 h3 => ?_⟩
    replace h_self := rep_ext e4 h_self
    replace hW := hW.ret0 e4
    obtain rfl := of_v h3
    refine ⟨ms, x_team, r2, _, rfl, hW.enter0, hM, fun r7 u10 H11 hM e9 h8 => ?_⟩
    replace h_self := rep_ext e9 h_self
    replace hW := hW.ret0 e9
    obtain rfl := of_v h8
    refine ⟨⟨_, rfl⟩, ?_⟩
    refine ⟨_, rfl, ?_⟩
    apply rep_fld (j := 0) h_self T.cl_Table T.na_Table__rounds nd_Table rfl rfl
    intro u13 h12
    apply rep_iter h12
    intro a14 xs15 _ an16 hp17 hl18
    refine fun L19 nl20 => ?_
    have nm34 := nm_new hW nl20
    refine lc_listG (L := L19) (fun n_ ys_ h_ => Wd (L19 :: ms) [] [] H_0 h_ ∧ Keep (L19 :: ms) H11 h_ ∧ MutO (L19 :: ms) [] H_0 h_ L19 (D.lst (ys_.map (fun y_ : Str => (D.v (V.str y_))))) ∧ ys_.length ≤ n_) (items := x_self) (e := (fun y_ : (List (Int × Int)) => (D.lst (y_.map (fun y_ : (Int × Int) => (D.tup [(D.v (V.int y_.1)), (D.v (V.int y_.2))])))))) an16 hp17 hl18 nl20 (fun _ _ _ q_ => q_.2.1) hM ⟨wd_cell hW nl20, keep_cell nl20 Keep.refl, mo_newL (ds := []) hW nl20 repL_nil, Nat.le_refl _⟩ ?_ ?_
    · skip
      rintro x30 u31 n21 ys22 k23 H35 hn ⟨hW, hk24, mu25, ln26⟩ h32 hM Nx29 hN27
      replace h_self := rep_keep hk24 (rep_new nl20 h_self)
      replace h12 := rep_keep hk24 (rep_new nl20 h12)
      refine ⟨rfl, ?_⟩
      refine tyes_of ?_
      refine ⟨_, rfl, ?_⟩
      refine ⟨_, rfl, ?_⟩
      refine ⟨(L19 :: ms), _, x30, x_team, _, rfl, hW.enter0, h32, hM, fun r36 u39 H40 hM e38 h37 => ?_⟩
      replace h_self := rep_ext e38 h_self
      replace h12 := rep_ext e38 h12
      replace hk24 := keep_ext e38 hk24
      replace h32 := rep_ext e38 h32
      replace mu25 := mo_ext e38 mu25
      replace hW := hW.ret0 e38
      obtain rfl := of_v h37
      refine mo_end mu25 hn (by rw [List.length_map]; exact ln26) fun vs41 hr42 => ?_
      have mk44 := mo_setL mu25 (repL_snoc (e := (fun y_ : Str => (D.v (V.str y_)))) (xs := ys22) (y := r36) hr42 rep_v)
      replace h_self := rep_put (o := .lst (vs41 ++ [V.str r36])) mu25.im h_self
      replace h12 := rep_put (o := .lst (vs41 ++ [V.str r36])) mu25.im h12
      replace hk24 := keep_put (o := .lst (vs41 ++ [V.str r36])) mu25.im hk24
      replace h32 := rep_put (o := .lst (vs41 ++ [V.str r36])) mu25.im h32
      replace hW := wd_put (o := .lst (vs41 ++ [V.str r36])) hW mu25
      replace mu25 := mk44
      generalize upd H40 L19 (.lst (vs41 ++ [V.str r36])) = H45 at *
      replace mu25 : MutO (L19 :: ms) [] H_0 H45 L19 (D.lst ((ys22 ++ [r36]).map (fun y_ : Str => (D.v (V.str y_))))) := mu25
      clear mk44
      exact hN27 r36 _ hM ⟨hW, hk24, mu25, by rw [List.length_append]; exact Nat.add_le_add_right ln26 1⟩
    · skip
      rintro n21 ys46 H47 hM ⟨hW, hk24, mu25, ln26⟩
      replace h_self := rep_keep hk24 (rep_new nl20 h_self)
      replace h12 := rep_keep hk24 (rep_new nl20 h12)
      clear hk24 ln26
      have h48 := mo_rep_dr dr_here nm34 mu25
      replace hW := wd_dr dr_here mu25.hp hW
      replace h_self := rep_dr dr_here h_self
      replace h12 := rep_dr dr_here h12
      clear mu25
      obtain ⟨g49, hM⟩ := hM
      apply rep_join (a := ("" : Str)) (ys := ys46) h48 g49
      exact hQ (Txt.join ("" : Str) ys46) _ _ hM hW.out rep_v
def M_check_part (x_marks : Str) (KM : Unit → Prop) : Prop :=
  (M_is_marks x_marks fun r1 => (if (!r1) = true then False else (x_marks.length ≤ sizeLine ∧ (if (decide ((4 : Int) < (x_marks.length : Int))) = true then False else (KM ())))))
def sp_check_part (A : Ad) : Sp := fun vs H Q _ => ∃ (ms : List Addr) (x_marks : Str) (KM : Unit → Prop), vs = [V.str x_marks] ∧ Wd ms [] [] H H ∧ M_check_part x_marks KM ∧ ∀ (r : Unit) (u : V) (H1 : Hp), KM r → Ret [] H H1 → rep ms H1 (D.v V.non) u → Q u H1
set_option maxHeartbeats 16000000 in
theorem ok_check_part {P : Program} {w : World} {K : PySem.W.Frag} {mg : Str → Option Value} {base : Heap} {A : Ad} (T : Txt w K mg base A) : FnOk P w K mg base CX0 2 A.a_check_part A.d_check_part ["marks"] (sp_check_part A) := by
  refine T.F_check_part.ok sc_check_part (fun vs H Q E h => ?_) (fun cdv A_ outer s_ H_0 vs Q E hr h => ?_)
  · obtain ⟨ms, x_marks, KM, rfl, _⟩ := h
    rfl
  · obtain ⟨ms, x_marks, KM, rfl, hW, hM, hQ⟩ := h
    unfold M_check_part at hM
    refine ⟨_, (pss_one (ps_if (PW.pt (pw_or (pt_not (pt_val (pe_call (ok_is_marks T) (hr.mono (by decide)) (by rfl) T.g_is_marks T.F_is_marks.kp T.b_is_marks .nil pass0 (pa_cons (pv 0) pa_nil)))) (pw_or1 (pt_cmpR op_gt (pe_callB call_len_str (by rfl) T.z_len PySem.boot_len (pa_cons (pv 0) pa_nil)) (C8.pe_gc (by rfl) T.c_MOST_MARKS) (nomark _))))) (pss_one ps_never) pss_nil)), ?_⟩
    refine ⟨_, rfl, ?_⟩
    refine ⟨ms, x_marks, _, rfl, hW.enter0, hM, fun r1 u4 H5 hM e3 h2 => ?_⟩
    replace hW := hW.ret0 e3
    obtain rfl := of_v h2
    refine ⟨_, rfl, ?_⟩
    refine ite3 hM (fun hM => ?_) (fun hM => ?_)
    · skip
      refine iteT ?_
      exact hM
    · skip
      refine ⟨_, rfl, ?_⟩
      obtain ⟨g6, hM⟩ := hM
      refine ⟨_, rfl, g6, ?_⟩
      refine ⟨_, _, rfl, rfl, ?_⟩
      refine ⟨_, rfl, ?_⟩
      refine ite3 hM (fun hM => ?_) (fun hM => ?_)
      · skip
        exact hM
      · skip
        exact hQ () _ _ hM hW.out rep_v
def M_Word_init (x_head : Str) (x_middle : Str) (x_tail : Str) (KM : (Str × Str × Str) → Prop) : Prop :=
  (M_check_part x_head fun r1 => (M_check_part x_middle fun r6 => (if (decide (V.str x_middle = V.str ("" : Str))) = true then False else (M_check_part x_tail fun r11 => (KM (x_head, x_middle, x_tail))))))
def sp_Word_init (A : Ad) : Sp := fun vs H Q _ => ∃ (ms : List Addr) (p_ dx_ : Addr) (x_head : Str) (x_middle : Str) (x_tail : Str) (KM : (Str × Str × Str) → Prop), vs = [.ref p_, V.str x_head, V.str x_middle, V.str x_tail] ∧ Wd ms [] [] H H ∧ p_ ∈ ms ∧ H p_ = some (.ins A.c_Word dx_ []) ∧ M_Word_init x_head x_middle x_tail KM ∧ ∀ (r : (Str × Str × Str)) (us : List V) (H1 : Hp), KM r → KpI p_ H H1 → H1 p_ = some (.ins A.c_Word dx_ (List.zip ns_Word us)) → ns_Word.length = us.length → repL ms H1 [(D.v (V.str r.1)), (D.v (V.str r.2.1)), (D.v (V.str r.2.2))] us → Q .non H1
set_option maxHeartbeats 16000000 in
theorem ok_Word_init {P : Program} {w : World} {K : PySem.W.Frag} {mg : Str → Option Value} {base : Heap} {A : Ad} (T : Txt w K mg base A) : FnOk P w K mg base CX0 3 A.a_Word_init A.d_Word_init ["self", "head", "middle", "tail"] (sp_Word_init A) := by
  refine T.F_Word_init.ok sc_Word_init (fun vs H Q E h => ?_) (fun cdv A_ outer s_ H_0 vs Q E hr h => ?_)
  · obtain ⟨ms, p_, dx_, x_head, x_middle, x_tail, KM, rfl, _⟩ := h
    rfl
  · obtain ⟨ms, p_, dx_, x_head, x_middle, x_tail, KM, rfl, hW, pm_, hp, hM, hQ⟩ := h
    unfold M_Word_init at hM
    have hK := ki_refl (p := p_) (H := H_0)
    replace hp : H_0 p_ = some (.ins A.c_Word dx_ (List.zip ([] : List Str) ([] : List V))) := hp
    refine ⟨_, (pss_cons (ps_expr (pe_call (ok_check_part T) (hr.mono (by decide)) (by rfl) T.g_check_part T.F_check_part.kp T.b_check_part .nil pass0 (pa_cons (pv 1) pa_nil))) (pss_cons (ps_expr (pe_call (ok_check_part T) (hr.mono (by decide)) (by rfl) T.g_check_part T.F_check_part.kp T.b_check_part .nil pass0 (pa_cons (pv 2) pa_nil))) (pss_cons (ps_if (pt_cmpR op_eq (pv 2) pe_str (nomark _)) (pss_one ps_never) pss_nil) (pss_cons (ps_expr (pe_call (ok_check_part T) (hr.mono (by decide)) (by rfl) T.g_check_part T.F_check_part.kp T.b_check_part .nil pass0 (pa_cons (pv 3) pa_nil))) (pss_cons (ps_fld (pv 0) (pv 1) rfl) (pss_cons (ps_fld (pv 0) (pv 2) rfl) (pss_one (ps_fld (pv 0) (pv 3) rfl)))))))), ?_⟩
    refine ⟨_, rfl, ?_⟩
    refine ⟨ms, x_head, _, rfl, hW.enter0, hM, fun r1 u4 H5 hM e3 h2 => ?_⟩
    replace hp := Rx.Ext.keep e3 hp
    replace hW := hW.ret0 e3
    obtain rfl := of_v h2
    refine ⟨_, rfl, ?_⟩
    refine ⟨ms, x_middle, _, rfl, hW.enter0, hM, fun r6 u9 H10 hM e8 h7 => ?_⟩
    replace hp := Rx.Ext.keep e8 hp
    replace hW := hW.ret0 e8
    obtain rfl := of_v h7
    refine ⟨_, rfl, ?_⟩
    refine ⟨rfl, ?_⟩
    refine ⟨_, rfl, ?_⟩
    refine ite3 hM (fun hM => ?_) (fun hM => ?_)
    · skip
      exact hM
    · skip
      refine ⟨_, rfl, ?_⟩
      refine ⟨ms, x_tail, _, rfl, hW.enter0, hM, fun r11 u14 H15 hM e13 h12 => ?_⟩
      replace hp := Rx.Ext.keep e13 hp
      replace hW := hW.ret0 e13
      obtain rfl := of_v h12
      refine ⟨_, rfl, ?_⟩
      refine ⟨_, rfl, p_, A.c_Word, dx_, _, rfl, hp, T.cl_Word, T.na_Word__head, (by first | decide | simp), ?_⟩
      have z16 : putF ("_head" : Str) (V.str x_head) (List.zip ([] : List Str) ([] : List V)) = List.zip [("_head" : Str)] [V.str x_head] := putF_zip (ns := ([] : List Str)) (us := ([] : List V)) rfl (nin_of (by decide +kernel))
      replace hK := ki_put (o := .ins A.c_Word dx_ (putF ("_head" : Str) (V.str x_head) (List.zip ([] : List Str) ([] : List V)))) hK hW
      replace hW := wd_at (p := p_) (o := .ins A.c_Word dx_ (putF ("_head" : Str) (V.str x_head) (List.zip ([] : List Str) ([] : List V)))) hW
      replace hp : upd H15 p_ (.ins A.c_Word dx_ (putF ("_head" : Str) (V.str x_head) (List.zip ([] : List Str) ([] : List V)))) p_ = some (.ins A.c_Word dx_ (putF ("_head" : Str) (V.str x_head) (List.zip ([] : List Str) ([] : List V)))) := upd_same
      generalize upd H15 p_ (.ins A.c_Word dx_ (putF ("_head" : Str) (V.str x_head) (List.zip ([] : List Str) ([] : List V)))) = H17 at *
      rw [z16] at hp
      refine ⟨_, rfl, ?_⟩
      refine ⟨_, rfl, p_, A.c_Word, dx_, _, rfl, hp, T.cl_Word, T.na_Word__middle, (by first | decide | simp), ?_⟩
      have z18 : putF ("_middle" : Str) (V.str x_middle) (List.zip [("_head" : Str)] [V.str x_head]) = List.zip [("_head" : Str), ("_middle" : Str)] [V.str x_head, V.str x_middle] := putF_zip (ns := [("_head" : Str)]) (us := [V.str x_head]) rfl (nin_of (by decide +kernel))
      replace hK := ki_put (o := .ins A.c_Word dx_ (putF ("_middle" : Str) (V.str x_middle) (List.zip [("_head" : Str)] [V.str x_head]))) hK hW
      replace hW := wd_at (p := p_) (o := .ins A.c_Word dx_ (putF ("_middle" : Str) (V.str x_middle) (List.zip [("_head" : Str)] [V.str x_head]))) hW
      replace hp : upd H17 p_ (.ins A.c_Word dx_ (putF ("_middle" : Str) (V.str x_middle) (List.zip [("_head" : Str)] [V.str x_head]))) p_ = some (.ins A.c_Word dx_ (putF ("_middle" : Str) (V.str x_middle) (List.zip [("_head" : Str)] [V.str x_head]))) := upd_same
      generalize upd H17 p_ (.ins A.c_Word dx_ (putF ("_middle" : Str) (V.str x_middle) (List.zip [("_head" : Str)] [V.str x_head]))) = H19 at *
      rw [z18] at hp
      refine ⟨_, rfl, ?_⟩
      refine ⟨_, rfl, p_, A.c_Word, dx_, _, rfl, hp, T.cl_Word, T.na_Word__tail, (by first | decide | simp), ?_⟩
      have z20 : putF ("_tail" : Str) (V.str x_tail) (List.zip [("_head" : Str), ("_middle" : Str)] [V.str x_head, V.str x_middle]) = List.zip [("_head" : Str), ("_middle" : Str), ("_tail" : Str)] [V.str x_head, V.str x_middle, V.str x_tail] := putF_zip (ns := [("_head" : Str), ("_middle" : Str)]) (us := [V.str x_head, V.str x_middle]) rfl (nin_of (by decide +kernel))
      replace hK := ki_put (o := .ins A.c_Word dx_ (putF ("_tail" : Str) (V.str x_tail) (List.zip [("_head" : Str), ("_middle" : Str)] [V.str x_head, V.str x_middle]))) hK hW
      replace hW := wd_at (p := p_) (o := .ins A.c_Word dx_ (putF ("_tail" : Str) (V.str x_tail) (List.zip [("_head" : Str), ("_middle" : Str)] [V.str x_head, V.str x_middle]))) hW
      replace hp : upd H19 p_ (.ins A.c_Word dx_ (putF ("_tail" : Str) (V.str x_tail) (List.zip [("_head" : Str), ("_middle" : Str)] [V.str x_head, V.str x_middle]))) p_ = some (.ins A.c_Word dx_ (putF ("_tail" : Str) (V.str x_tail) (List.zip [("_head" : Str), ("_middle" : Str)] [V.str x_head, V.str x_middle]))) := upd_same
      generalize upd H19 p_ (.ins A.c_Word dx_ (putF ("_tail" : Str) (V.str x_tail) (List.zip [("_head" : Str), ("_middle" : Str)] [V.str x_head, V.str x_middle]))) = H21 at *
      rw [z20] at hp
      exact hQ (x_head, x_middle, x_tail) [V.str x_head, V.str x_middle, V.str x_tail] _ hM (ki_wd hK hW) hp rfl (repL_cons rep_v (repL_cons rep_v (repL_cons rep_v repL_nil)))
theorem make_Word_init {ms : List Addr} {ps : List PEn} {cs : List (Addr × List V)} {H0 H : Hp} {A : Ad} {x_head : Str} {x_middle : Str} {x_tail : Str} {KM : (Str × Str × Str) → Prop} {Q : Addr → Hp → Prop} {E : XK} (hW : Wd ms ps cs H0 H) (hM : M_Word_init x_head x_middle x_tail KM)
    (k : ∀ (x : Addr) (H1 : Hp) (r : (Str × Str × Str)), KM r → Rx.Ext H H1 → rep ms H1 (eWord A r) (.ref x) → Q x H1) :
    ∀ x dx, H x = none → H dx = none → dx ≠ x → sp_Word_init A (.ref x :: ([V.str x_head, V.str x_middle, V.str x_tail] ++ [])) (upd (upd H dx (.own x)) x (.ins A.c_Word dx [])) (fun v H2 => v = .non ∧ Q x H2) E := by
  intro x dx nx ndx ne
  exact ⟨x :: ms, x, dx, x_head, x_middle, x_tail, KM, rfl, wd_new hW nx ndx, List.mem_cons_self, upd_same, hM, fun r us H1 hr hK hp hl hu => ⟨rfl, k x H1 r hr (ext_new hK nx ndx) (rep_insW hW nx hp hl hu)⟩⟩
def M_Word_least (x_self : (Str × Str × Str)) (KM : Int → Prop) : Prop :=
  (x_self.1.length ≤ sizeLine ∧ (x_self.2.2.length ≤ sizeLine ∧ (KM (if ((x_self.1.length : Int) + (x_self.2.2.length : Int)) > (1 : Int) then ((x_self.1.length : Int) + (x_self.2.2.length : Int)) else (1 : Int)))))
def sp_Word_least (A : Ad) : Sp := fun vs H Q _ => ∃ (ms : List Addr) (v_self : V) (x_self : (Str × Str × Str)) (KM : Int → Prop), vs = [v_self] ∧ Wd ms [] [] H H ∧ rep ms H (eWord A x_self) v_self ∧ M_Word_least x_self KM ∧ ∀ (r : Int) (u : V) (H1 : Hp), KM r → Ret [] H H1 → rep ms H1 (D.v (V.int r)) u → Q u H1
set_option maxHeartbeats 16000000 in
theorem ok_Word_least {P : Program} {w : World} {K : PySem.W.Frag} {mg : Str → Option Value} {base : Heap} {A : Ad} (T : Txt w K mg base A) : FnOk P w K mg base CX0 1 A.a_Word_least A.d_Word_least ["self"] (sp_Word_least A) := by
  refine T.F_Word_least.ok sc_Word_least (fun vs H Q E h => ?_) (fun cdv A_ outer s_ H_0 vs Q E hr h => ?_)
  · obtain ⟨ms, v_self, x_self, KM, rfl, _⟩ := h
    rfl
  · obtain ⟨ms, v_self, x_self, KM, rfl, hW, h_self, hM, hQ⟩ := h
    unfold M_Word_least at hM
    refine ⟨_, (pss_one (ps_ret (pe_callB (call_max2 rfl) (by rfl) T.z_max (by decide +kernel) (pa_cons pe_int (pa_cons (pe_op op_add (pe_callB call_len_str (by rfl) T.z_len PySem.boot_len (pa_cons (pe_fld (pv 0) rfl) pa_nil)) (pe_callB call_len_str (by rfl) T.z_len PySem.boot_len (pa_cons (pe_fld (pv 0) rfl) pa_nil))) pa_nil))))), ?_⟩
    refine ⟨_, rfl, ?_⟩
    apply rep_fld (j := 0) h_self T.cl_Word T.na_Word__head nd_Word rfl rfl
    intro u2 h1
    obtain rfl := of_v h1
    obtain ⟨g3, hM⟩ := hM
    refine ⟨_, rfl, g3, ?_⟩
    refine ⟨_, rfl, ?_⟩
    apply rep_fld (j := 2) h_self T.cl_Word T.na_Word__tail nd_Word rfl rfl
    intro u5 h4
    obtain rfl := of_v h4
    obtain ⟨g6, hM⟩ := hM
    refine ⟨_, rfl, g6, ?_⟩
    refine ⟨_, _, rfl, rfl, ?_⟩
    refine ⟨_, _, rfl, ?_⟩
    exact hQ (if ((x_self.1.length : Int) + (x_self.2.2.length : Int)) > (1 : Int) then ((x_self.1.length : Int) + (x_self.2.2.length : Int)) else (1 : Int)) _ _ hM hW.out rep_v
def M_check_places (x_word : (Str × Str × Str)) (x_places : Int) (KM : Unit → Prop) : Prop :=
  (M_is_integer x_places fun r1 => (if (!r1) = true then False else (M_Word_least x_word fun r7 => (if (decide (x_places < r7)) = true then False else (KM ())))))
def sp_check_places (A : Ad) : Sp := fun vs H Q _ => ∃ (ms : List Addr) (v_word : V) (x_word : (Str × Str × Str)) (x_places : Int) (KM : Unit → Prop), vs = [v_word, V.int x_places] ∧ Wd ms [] [] H H ∧ rep ms H (eWord A x_word) v_word ∧ M_check_places x_word x_places KM ∧ ∀ (r : Unit) (u : V) (H1 : Hp), KM r → Ret [] H H1 → rep ms H1 (D.v V.non) u → Q u H1
set_option maxHeartbeats 16000000 in
theorem ok_check_places {P : Program} {w : World} {K : PySem.W.Frag} {mg : Str → Option Value} {base : Heap} {A : Ad} (T : Txt w K mg base A) : FnOk P w K mg base CX0 3 A.a_check_places A.d_check_places ["word", "places"] (sp_check_places A) := by
  refine T.F_check_places.ok sc_check_places (fun vs H Q E h => ?_) (fun cdv A_ outer s_ H_0 vs Q E hr h => ?_)
  · obtain ⟨ms, v_word, x_word, x_places, KM, rfl, _⟩ := h
    rfl
  · obtain ⟨ms, v_word, x_word, x_places, KM, rfl, hW, h_word, hM, hQ⟩ := h
    unfold M_check_places at hM
    refine ⟨_, (pss_one (ps_if (PW.pt (pw_or (pt_not (pt_val (pe_call (ok_is_integer T) (hr.mono (by decide)) (by rfl) T.g_is_integer T.F_is_integer.kp T.b_is_integer .nil pass0 (pa_cons (pv 1) pa_nil)))) (pw_or1 (pt_cmpR op_lt (pv 1) (pe_prop (pv 0) T.cl_Word T.p_Word_least (ok_Word_least T) (hr.mono (by decide)) T.b_Word_least .nil pass0 rfl) (nomark _))))) (pss_one ps_never) pss_nil)), ?_⟩
    refine ⟨_, rfl, ?_⟩
    refine ⟨ms, x_places, _, rfl, hW.enter0, hM, fun r1 u4 H5 hM e3 h2 => ?_⟩
    replace h_word := rep_ext e3 h_word
    replace hW := hW.ret0 e3
    obtain rfl := of_v h2
    refine ⟨_, rfl, ?_⟩
    refine ite3 hM (fun hM => ?_) (fun hM => ?_)
    · skip
      refine iteT ?_
      exact hM
    · skip
      refine ⟨_, rfl, ?_⟩
      refine ⟨_, rfl, ?_⟩
      apply rep_prop h_word
      intro _ h6
      refine ⟨ms, _, x_word, _, rfl, hW.enter0, h6, hM, fun r7 u10 H11 hM e9 h8 => ?_⟩
      replace h_word := rep_ext e9 h_word
      replace hW := hW.ret0 e9
      obtain rfl := of_v h8
      refine ⟨_, _, rfl, rfl, ?_⟩
      refine ⟨_, rfl, ?_⟩
      refine ite3 hM (fun hM => ?_) (fun hM => ?_)
      · skip
        exact hM
      · skip
        exact hQ () _ _ hM hW.out rep_v
def M_Word_row (x_self : (Str × Str × Str)) (x_places : Int) (KM : Str → Prop) : Prop :=
  (M_check_places x_self x_places fun r1 => (if (decide ((2000 : Int) < x_places)) = true then False else (x_self.1.length ≤ sizeLine ∧ (x_self.2.2.length ≤ sizeLine ∧ (MulOk x_self.2.1 ((x_places - (x_self.1.length : Int)) - (x_self.2.2.length : Int)) ∧ ((Txt.mul x_self.2.1 ((x_places - (x_self.1.length : Int)) - (x_self.2.2.length : Int))).length ≤ sizeLine ∧ ((x_self.1.length + (cutS (Txt.mul x_self.2.1 ((x_places - (x_self.1.length : Int)) - (x_self.2.2.length : Int))) none (some ((x_places - (x_self.1.length : Int)) - (x_self.2.2.length : Int)))).length ≤ sizeLine) ∧ (((x_self.1 ++ (cutS (Txt.mul x_self.2.1 ((x_places - (x_self.1.length : Int)) - (x_self.2.2.length : Int))) none (some ((x_places - (x_self.1.length : Int)) - (x_self.2.2.length : Int))))).length + x_self.2.2.length ≤ sizeLine) ∧ (KM ((x_self.1 ++ (cutS (Txt.mul x_self.2.1 ((x_places - (x_self.1.length : Int)) - (x_self.2.2.length : Int))) none (some ((x_places - (x_self.1.length : Int)) - (x_self.2.2.length : Int))))) ++ x_self.2.2))))))))))
def sp_Word_row (A : Ad) : Sp := fun vs H Q _ => ∃ (ms : List Addr) (v_self : V) (x_self : (Str × Str × Str)) (x_places : Int) (KM : Str → Prop), vs = [v_self, V.int x_places] ∧ Wd ms [] [] H H ∧ rep ms H (eWord A x_self) v_self ∧ M_Word_row x_self x_places KM ∧ ∀ (r : Str) (u : V) (H1 : Hp), KM r → Ret [] H H1 → rep ms H1 (D.v (V.str r)) u → Q u H1
set_option maxHeartbeats 16000000 in
theorem ok_Word_row {P : Program} {w : World} {K : PySem.W.Frag} {mg : Str → Option Value} {base : Heap} {A : Ad} (T : Txt w K mg base A) : FnOk P w K mg base CX0 4 A.a_Word_row A.d_Word_row ["self", "places"] (sp_Word_row A) := by
  refine T.F_Word_row.ok sc_Word_row (fun vs H Q E h => ?_) (fun cdv A_ outer s_ H_0 vs Q E hr h => ?_)
  · obtain ⟨ms, v_self, x_self, x_places, KM, rfl, _⟩ := h
    rfl
  · obtain ⟨ms, v_self, x_self, x_places, KM, rfl, hW, h_self, hM, hQ⟩ := h
    unfold M_Word_row at hM
    refine ⟨_, (pss_cons (ps_expr (pe_call (ok_check_places T) (hr.mono (by decide)) (by rfl) T.g_check_places T.F_check_places.kp T.b_check_places .nil pass0 (pa_cons (pv 0) (pa_cons (pv 1) pa_nil)))) (pss_cons (ps_if (pt_cmpR op_gt (pv 1) (C8.pe_gc (by rfl) T.c_MOST_PLACES) (nomark _)) (pss_one ps_never) pss_nil) (pss_cons (ps_set (i := 2) sc_Word_row.nd rfl (by first | exact Or.inl rfl | exact Or.inr rfl) (pe_op op_sub (pe_op op_sub (pv 1) (pe_callB call_len_str (by rfl) T.z_len PySem.boot_len (pa_cons (pe_fld (pv 0) rfl) pa_nil))) (pe_callB call_len_str (by rfl) T.z_len PySem.boot_len (pa_cons (pe_fld (pv 0) rfl) pa_nil)))) (pss_one (ps_ret (pe_op op_add_str (pe_op op_add_str (pe_fld (pv 0) rfl) (pe_slice sl_str (pe_op op_mulS (pe_fld (pv 0) rfl) (pv 2)) po_none (po_some (pv 2)))) (pe_fld (pv 0) rfl))))))), ?_⟩
    refine ⟨_, rfl, ?_⟩
    refine ⟨_, rfl, ?_⟩
    refine ⟨ms, _, x_self, x_places, _, rfl, hW.enter0, h_self, hM, fun r1 u4 H5 hM e3 h2 => ?_⟩
    replace h_self := rep_ext e3 h_self
    replace hW := hW.ret0 e3
    obtain rfl := of_v h2
    refine ⟨_, rfl, ?_⟩
    refine ⟨_, _, rfl, rfl, ?_⟩
    refine ⟨_, rfl, ?_⟩
    refine ite3 hM (fun hM => ?_) (fun hM => ?_)
    · skip
      exact hM
    · skip
      refine ⟨_, rfl, ?_⟩
      refine ⟨_, rfl, ?_⟩
      apply rep_fld (j := 0) h_self T.cl_Word T.na_Word__head nd_Word rfl rfl
      intro u7 h6
      obtain rfl := of_v h6
      obtain ⟨g8, hM⟩ := hM
      refine ⟨_, rfl, g8, ?_⟩
      refine ⟨_, _, rfl, rfl, ?_⟩
      refine ⟨_, rfl, ?_⟩
      apply rep_fld (j := 2) h_self T.cl_Word T.na_Word__tail nd_Word rfl rfl
      intro u10 h9
      obtain rfl := of_v h9
      obtain ⟨g11, hM⟩ := hM
      refine ⟨_, rfl, g11, ?_⟩
      refine ⟨_, _, rfl, rfl, ?_⟩
      refine ⟨_, rfl, ?_⟩
      apply rep_fld (j := 0) h_self T.cl_Word T.na_Word__head nd_Word rfl rfl
      intro u13 h12
      obtain rfl := of_v h12
      refine ⟨_, rfl, ?_⟩
      apply rep_fld (j := 1) h_self T.cl_Word T.na_Word__middle nd_Word rfl rfl
      intro u15 h14
      obtain rfl := of_v h14
      refine ⟨_, rfl, ?_⟩
      obtain ⟨g16, hM⟩ := hM
      refine ⟨_, _, rfl, rfl, g16, ?_⟩
      refine ⟨_, rfl, ?_⟩
      refine ⟨_, rfl, ?_⟩
      obtain ⟨g17, hM⟩ := hM
      refine ⟨_, rfl, g17, ?_⟩
      obtain ⟨g18, hM⟩ := hM
      refine ⟨_, _, rfl, rfl, g18, ?_⟩
      refine ⟨_, rfl, ?_⟩
      apply rep_fld (j := 2) h_self T.cl_Word T.na_Word__tail nd_Word rfl rfl
      intro u20 h19
      obtain rfl := of_v h19
      obtain ⟨g21, hM⟩ := hM
      refine ⟨_, _, rfl, rfl, g21, ?_⟩
      exact hQ ((x_self.1 ++ (cutS (Txt.mul x_self.2.1 ((x_places - (x_self.1.length : Int)) - (x_self.2.2.length : Int))) none (some ((x_places - (x_self.1.length : Int)) - (x_self.2.2.length : Int))))) ++ x_self.2.2) _ _ hM hW.out rep_v
def M_rows_of_others_right (KM : Bool → Prop) : Prop :=
  (M_many  fun r1 => (M_days r1 (30 : Int) fun r6 => (M_Table_init r6 fun r14 => ((rangeI (0 : Int) r1).length < 100000 ∧ mapC (fun (x27 : Int) (k20 : Str → Prop) => (M_Table_row_of r14 x27 fun r33 => (k20 r33))) (rangeI (0 : Int) r1) [] fun ys43 => ((rangeI (0 : Int) (3 : Int)).length < 100000 ∧ mapC (fun (x56 : Int) (k49 : Str → Prop) => (M_marks (4 : Int) fun r64 => (k49 r64))) (rangeI (0 : Int) (3 : Int)) [] fun ys74 => (0 ≤ (0 : Int) ∧ ∃ g79 : Int.toNat (0 : Int) < ys74.length, ∀ x81, x81 = ys74[Int.toNat (0 : Int)]'g79 → (0 ≤ (1 : Int) ∧ ∃ g84 : Int.toNat (1 : Int) < ys74.length, ∀ x86, x86 = ys74[Int.toNat (1 : Int)]'g84 → (0 ≤ (2 : Int) ∧ ∃ g89 : Int.toNat (2 : Int) < ys74.length, ∀ x91, x91 = ys74[Int.toNat (2 : Int)]'g89 → (M_Word_init x81 x86 x91 fun r96 => (M_Word_least r96 fun r99 => (M_draw (100 : Int) fun r104 => (M_Word_row r96 (r99 + r104) fun r109 => (ys43.length < 16777216 ∧ ((ys43 ++ [r109]).length < 100000 ∧ mapC (fun (x138 : Str) (k131 : Bool → Prop) => (M_row_right x138 fun r144 => (k131 r144))) (ys43 ++ [r109]) [] fun ys154 => (KM (List.all ys154 id))))))))))))))))
def sp_rows_of_others_right (A : Ad) : Sp := fun vs H Q _ => ∃ (ms : List Addr) (ap : Addr) (KM : Bool → Prop), vs = [.ref ap] ∧ Wd ms [(ap, none)] [] H H ∧ M_rows_of_others_right  KM ∧ ∀ (r : Bool) (u : V) (H1 : Hp), KM r → Ret [(ap, none)] H H1 → rep ms H1 (D.v (V.bl r)) u → Q u H1
set_option maxHeartbeats 16000000 in
theorem ok_rows_of_others_right {P : Program} {w : World} {K : PySem.W.Frag} {mg : Str → Option Value} {base : Heap} {A : Ad} (T : Txt w K mg base A) : FnOk P w K mg base CX0 7 A.a_rows_of_others_right A.d_rows_of_others_right ["_law_pot_here"] (sp_rows_of_others_right A) := by
  refine T.F_rows_of_others_right.ok sc_rows_of_others_right (fun vs H Q E h => ?_) (fun cdv A_ outer s_ H_0 vs Q E hr h => ?_)
  · obtain ⟨ms, ap, KM, rfl, _⟩ := h
    rfl
  · obtain ⟨ms, ap, KM, rfl, hW, hM, hQ⟩ := h
    unfold M_rows_of_others_right at hM
    refine ⟨_, (pss_cons (ps_set (i := 1) sc_rows_of_others_right.nd rfl (by first | exact Or.inl rfl | exact Or.inr rfl) (pe_call (ok_many T) (hr.mono (by decide)) (by rfl) T.g_many T.F_many.kp T.b_many .nil pass0 (pa_cons (pv 0) pa_nil))) (pss_cons (ps_set (i := 2) sc_rows_of_others_right.nd rfl (by first | exact Or.inl rfl | exact Or.inr rfl) (pe_make T.mk_Table (ok_Table_init T) (hr.mono (by decide)) (by rfl) T.g_Table T.b_Table_init .nil pass0 (pa_cons (pe_call (ok_days T) (hr.mono (by decide)) (by rfl) T.g_days T.F_days.kp T.b_days .nil pass0 (pa_cons (pv 0) (pa_cons (pv 1) (pa_cons pe_int pa_nil)))) pa_nil))) (pss_cons (ps_setLc (i := 3) (own := [("_law_who", 6)]) (g := gName 6) rfl sc_rows_of_others_right.nd rfl rfl (sw_true rfl rfl rfl (by decide +kernel)) (pi_rangeW1 (by rfl) T.z_range (pa_cons (pv 1) pa_nil)) (blkOk_by (N := ["_law_pot_here", "_law_many_here", "_law_made", "_law_rows_now", "_law_parts", "_law_found", "_law_who", "_law_turn", "_law_some"]) (sc := defScope s_rows_of_others_right) (by decide +kernel)) (fun _ _ _ _ _ => pg_name (i := 6) sc_rows_of_others_right.nd rfl (by first | exact Or.inl rfl | exact Or.inr rfl)) (fun _ _ _ _ _ => pts_nil) (fun _ _ _ _ _ => (pe_meth (pv 2) T.cl_Table T.m_Table_row_of (ok_Table_row_of T) (hr.mono (by decide)) T.b_Table_row_of .nil pass0 (pa_cons (pv 6) pa_nil)))) (pss_cons (ps_setLc (i := 4) (own := [("_law_turn", 7)]) (g := gName 7) rfl sc_rows_of_others_right.nd rfl rfl (sw_true rfl rfl rfl (by decide +kernel)) (pi_rangeW1 (by rfl) T.z_range (pa_cons pe_int pa_nil)) (blkOk_by (N := ["_law_pot_here", "_law_many_here", "_law_made", "_law_rows_now", "_law_parts", "_law_found", "_law_who", "_law_turn", "_law_some"]) (sc := defScope s_rows_of_others_right) (by decide +kernel)) (fun _ _ _ _ _ => pg_name (i := 7) sc_rows_of_others_right.nd rfl (by first | exact Or.inl rfl | exact Or.inr rfl)) (fun _ _ _ _ _ => pts_nil) (fun _ _ _ _ _ => (pe_call (ok_marks T) (hr.mono (by decide)) (by rfl) T.g_marks T.F_marks.kp T.b_marks .nil pass0 (pa_cons (pv 0) (pa_cons pe_int pa_nil))))) (pss_cons (ps_set (i := 5) sc_rows_of_others_right.nd rfl (by first | exact Or.inl rfl | exact Or.inr rfl) (pe_make T.mk_Word (ok_Word_init T) (hr.mono (by decide)) (by rfl) T.g_Word T.b_Word_init .nil pass0 (pa_cons (pe_ix (ix_listK (K := K) rfl) (pv 4) pe_int (fun _ _ => rfl)) (pa_cons (pe_ix (ix_listK (K := K) rfl) (pv 4) pe_int (fun _ _ => rfl)) (pa_cons (pe_ix (ix_listK (K := K) rfl) (pv 4) pe_int (fun _ _ => rfl)) pa_nil))))) (pss_cons (ps_expr (pe_bmK (K := K) rfl PySem.F.plainAttrs_list PySem.F.slot_list_append PySem.F.type_list_append mt_append (pv 3) (pa_cons (pe_meth (pv 5) T.cl_Word T.m_Word_row (ok_Word_row T) (hr.mono (by decide)) T.b_Word_row .nil pass0 (pa_cons (pe_op op_add (pe_prop (pv 5) T.cl_Word T.p_Word_least (ok_Word_least T) (hr.mono (by decide)) T.b_Word_least .nil pass0 rfl) (pe_call (ok_draw T) (hr.mono (by decide)) (by rfl) T.g_draw T.F_draw.kp T.b_draw .nil pass0 (pa_cons (pv 0) (pa_cons pe_int pa_nil)))) pa_nil)) pa_nil))) (pss_one (ps_ret (pe_callB (cr_allK (K := K) rfl rfl) (by rfl) T.z_all (by decide +kernel) (pa_cons (pe_lc (own := [("_law_some", 8)]) (g := gName 8) rfl sc_rows_of_others_right.nd (pi_list (pv 3)) (blkOk_by (N := ["_law_pot_here", "_law_many_here", "_law_made", "_law_rows_now", "_law_parts", "_law_found", "_law_who", "_law_turn", "_law_some"]) (sc := defScope s_rows_of_others_right) (by decide +kernel)) (fun _ _ _ _ _ => pg_name (i := 8) sc_rows_of_others_right.nd rfl (by first | exact Or.inl rfl | exact Or.inr rfl)) (fun _ _ _ _ _ => pts_nil) (fun _ _ _ _ _ => (pe_call (ok_row_right T) (hr.mono (by decide)) (by rfl) T.g_row_right T.F_row_right.kp T.b_row_right .nil pass0 (pa_cons (pv 8) pa_nil)))) pa_nil)))))))))), ?_⟩
    refine ⟨_, rfl, ?_⟩
    refine ⟨ms, ap, _, rfl, hW.enterP, hM, fun r1 u4 H5 hM e3 h2 => ?_⟩
    replace hW := hW.retP e3
    obtain rfl := of_v h2
    refine ⟨_, rfl, ?_⟩
    refine ⟨_, rfl, ?_⟩
    refine ⟨ms, ap, r1, (30 : Int), _, rfl, hW.enterP, hM, fun r6 u9 H10 hM e8 h7 => ?_⟩
    replace hW := hW.retP e8
    conv => whnf
    apply make_Table_init (ms := ms) hW h7 hM
    intro p11 H15 r14 hM e13 h12
    replace h7 := rep_ext e13 h7
    replace hW := hW.ret0 e13
    refine ⟨_, rfl, ?_⟩
    refine ⟨_, rfl, ?_⟩
    refine fun L16 nl17 => ?_
    have nm31 := nm_new hW nl17
    refine lc_rangeG (L := L16) (fun n_ ys_ h_ => Wd (L16 :: ms) [(ap, none)] [] H_0 h_ ∧ Keep (L16 :: ms) H15 h_ ∧ MutO (L16 :: ms) [(ap, none)] H_0 h_ L16 (D.lst (ys_.map (fun y_ : Str => (D.v (V.str y_))))) ∧ ys_.length ≤ n_) (lo := (0 : Int)) (hi := r1) (N := Int.toNat r1) (by simp) hM ⟨wd_cell hW nl17, keep_cell nl17 Keep.refl, mo_newL (ds := []) hW nl17 repL_nil, Nat.le_refl _⟩ ?_ ?_
    · skip
      rintro x27  n18 ys19 k20 H32 hn ⟨hW, hk21, mu22, ln23⟩ hM Nx26 hN24
      replace h7 := rep_keep hk21 (rep_new nl17 h7)
      replace h12 := rep_keep hk21 (rep_new nl17 h12)
      refine ⟨rfl, ?_⟩
      refine tyes_of ?_
      refine ⟨_, rfl, ?_⟩
      apply rep_meth (m := "row_of") h12 (by decide +kernel)
      refine ⟨_, rfl, ?_⟩
      refine ⟨(L16 :: ms), _, r14, x27, _, rfl, hW.enter0, h12, hM, fun r33 u36 H37 hM e35 h34 => ?_⟩
      replace h7 := rep_ext e35 h7
      replace h12 := rep_ext e35 h12
      replace hk21 := keep_ext e35 hk21
      replace mu22 := mo_ext e35 mu22
      replace hW := hW.ret0 e35
      obtain rfl := of_v h34
      refine mo_end mu22 hn (by rw [List.length_map]; exact ln23) fun vs38 hr39 => ?_
      have mk41 := mo_setL mu22 (repL_snoc (e := (fun y_ : Str => (D.v (V.str y_)))) (xs := ys19) (y := r33) hr39 rep_v)
      replace h7 := rep_put (o := .lst (vs38 ++ [V.str r33])) mu22.im h7
      replace h12 := rep_put (o := .lst (vs38 ++ [V.str r33])) mu22.im h12
      replace hk21 := keep_put (o := .lst (vs38 ++ [V.str r33])) mu22.im hk21
      replace hW := wd_put (o := .lst (vs38 ++ [V.str r33])) hW mu22
      replace mu22 := mk41
      generalize upd H37 L16 (.lst (vs38 ++ [V.str r33])) = H42 at *
      replace mu22 : MutO (L16 :: ms) [(ap, none)] H_0 H42 L16 (D.lst ((ys19 ++ [r33]).map (fun y_ : Str => (D.v (V.str y_))))) := mu22
      clear mk41
      exact hN24 r33 _ hM ⟨hW, hk21, mu22, by rw [List.length_append]; exact Nat.add_le_add_right ln23 1⟩
    · skip
      rintro n18 ys43 H44 hM ⟨hW, hk21, mu22, ln23⟩
      replace h7 := rep_keep hk21 (rep_new nl17 h7)
      replace h12 := rep_keep hk21 (rep_new nl17 h12)
      clear hk21 ln23
      refine ⟨_, rfl, ?_⟩
      refine fun L45 nl46 => ?_
      have nm60 := nm_new hW nl46
      have ne61 := mo_ne nl46 mu22
      refine lc_rangeG (L := L45) (fun n_ ys_ h_ => Wd (L45 :: (L16 :: ms)) [(ap, none)] [] H_0 h_ ∧ Keep (L45 :: (L16 :: ms)) H44 h_ ∧ MutO (L45 :: (L16 :: ms)) [(ap, none)] H_0 h_ L45 (D.lst (ys_.map (fun y_ : Str => (D.v (V.str y_))))) ∧ ys_.length ≤ n_ ∧ MutO (L45 :: (L16 :: ms)) [(ap, none)] H_0 h_ L16 (D.lst (ys43.map (fun y_ : Str => (D.v (V.str y_)))))) (lo := (0 : Int)) (hi := (3 : Int)) (N := Int.toNat (3 : Int)) (by simp) hM ⟨wd_cell hW nl46, keep_cell nl46 Keep.refl, mo_newL (ds := []) hW nl46 repL_nil, Nat.le_refl _, mo_cell nl46 mu22⟩ ?_ ?_
      · skip
        clear mu22
        rintro x56  n47 ys48 k49 H62 hn ⟨hW, hk50, mu51, ln52, mu63⟩ hM Nx55 hN53
        replace h7 := rep_keep hk50 (rep_new nl46 h7)
        replace h12 := rep_keep hk50 (rep_new nl46 h12)
        refine ⟨rfl, ?_⟩
        refine tyes_of ?_
        refine ⟨_, rfl, ?_⟩
        refine ⟨(L45 :: (L16 :: ms)), ap, (4 : Int), _, rfl, hW.enterP, hM, fun r64 u67 H68 hM e66 h65 => ?_⟩
        replace h7 := rep_ret hW e66 h7
        replace h12 := rep_ret hW e66 h12
        replace hk50 := keep_ret hW e66 hk50
        replace mu63 := mo_ret hW e66 mu63
        replace mu51 := mo_ret hW e66 mu51
        replace hW := hW.retP e66
        obtain rfl := of_v h65
        refine mo_end mu51 hn (by rw [List.length_map]; exact ln52) fun vs69 hr70 => ?_
        have mk72 := mo_setL mu51 (repL_snoc (e := (fun y_ : Str => (D.v (V.str y_)))) (xs := ys48) (y := r64) hr70 rep_v)
        replace mu63 := mo_put (o := .lst (vs69 ++ [V.str r64])) mu51.im ne61 mu63
        replace h7 := rep_put (o := .lst (vs69 ++ [V.str r64])) mu51.im h7
        replace h12 := rep_put (o := .lst (vs69 ++ [V.str r64])) mu51.im h12
        replace hk50 := keep_put (o := .lst (vs69 ++ [V.str r64])) mu51.im hk50
        replace hW := wd_put (o := .lst (vs69 ++ [V.str r64])) hW mu51
        replace mu51 := mk72
        generalize upd H68 L45 (.lst (vs69 ++ [V.str r64])) = H73 at *
        replace mu51 : MutO (L45 :: (L16 :: ms)) [(ap, none)] H_0 H73 L45 (D.lst ((ys48 ++ [r64]).map (fun y_ : Str => (D.v (V.str y_))))) := mu51
        clear mk72
        exact hN53 r64 _ hM ⟨hW, hk50, mu51, by rw [List.length_append]; exact Nat.add_le_add_right ln52 1, mu63⟩
      · skip
        clear mu22
        rintro n47 ys74 H75 hM ⟨hW, hk50, mu51, ln52, mu76⟩
        replace h7 := rep_keep hk50 (rep_new nl46 h7)
        replace h12 := rep_keep hk50 (rep_new nl46 h12)
        clear hk50 ln52
        have h77 := mo_rep_dr dr_here nm60 mu51
        replace hW := wd_dr dr_here mu51.hp hW
        replace h7 := rep_dr dr_here h7
        replace h12 := rep_dr dr_here h12
        replace mu76 := mo_dr dr_here ne61 mu76
        clear mu51
        refine ⟨_, rfl, ?_⟩
        obtain ⟨g78, g79, hM⟩ := hM
        apply rep_ixL (e := (fun y_ : Str => (D.v (V.str y_)))) (xs := ys74) h77 g78 g79
        intro u82 h80
        obtain ⟨x81, x81e⟩ : ∃ x_, x_ = ys74[Int.toNat (0 : Int)]'g79 := ⟨_, rfl⟩
        rw [← x81e] at h80
        replace hM := hM x81 x81e
        obtain rfl := of_v h80
        refine ⟨_, rfl, ?_⟩
        obtain ⟨g83, g84, hM⟩ := hM
        apply rep_ixL (e := (fun y_ : Str => (D.v (V.str y_)))) (xs := ys74) h77 g83 g84
        intro u87 h85
        obtain ⟨x86, x86e⟩ : ∃ x_, x_ = ys74[Int.toNat (1 : Int)]'g84 := ⟨_, rfl⟩
        rw [← x86e] at h85
        replace hM := hM x86 x86e
        obtain rfl := of_v h85
        refine ⟨_, rfl, ?_⟩
        obtain ⟨g88, g89, hM⟩ := hM
        apply rep_ixL (e := (fun y_ : Str => (D.v (V.str y_)))) (xs := ys74) h77 g88 g89
        intro u92 h90
        obtain ⟨x91, x91e⟩ : ∃ x_, x_ = ys74[Int.toNat (2 : Int)]'g89 := ⟨_, rfl⟩
        rw [← x91e] at h90
        replace hM := hM x91 x91e
        obtain rfl := of_v h90
        conv => whnf
        apply make_Word_init (ms := (L16 :: ms)) hW  hM
        intro p93 H97 r96 hM e95 h94
        replace h7 := rep_ext e95 h7
        replace h12 := rep_ext e95 h12
        replace h77 := rep_ext e95 h77
        replace mu76 := mo_ext e95 mu76
        replace hW := hW.ret0 e95
        refine ⟨_, rfl, ?_⟩
        refine ⟨mo_tyL mu76, ?_⟩
        refine ⟨_, rfl, ?_⟩
        apply rep_meth (m := "row") h94 (by decide +kernel)
        refine ⟨_, rfl, ?_⟩
        apply rep_prop h94
        intro _ h98
        refine ⟨(L16 :: ms), _, r96, _, rfl, hW.enter0, h98, hM, fun r99 u102 H103 hM e101 h100 => ?_⟩
        replace h7 := rep_ext e101 h7
        replace h12 := rep_ext e101 h12
        replace h77 := rep_ext e101 h77
        replace h94 := rep_ext e101 h94
        replace mu76 := mo_ext e101 mu76
        replace hW := hW.ret0 e101
        obtain rfl := of_v h100
        refine ⟨_, rfl, ?_⟩
        refine ⟨(L16 :: ms), ap, (100 : Int), _, rfl, hW.enterP, hM, fun r104 u107 H108 hM e106 h105 => ?_⟩
        replace h7 := rep_ret hW e106 h7
        replace h12 := rep_ret hW e106 h12
        replace h77 := rep_ret hW e106 h77
        replace h94 := rep_ret hW e106 h94
        replace mu76 := mo_ret hW e106 mu76
        replace hW := hW.retP e106
        obtain rfl := of_v h105
        refine ⟨_, _, rfl, rfl, ?_⟩
        refine ⟨(L16 :: ms), _, r96, (r99 + r104), _, rfl, hW.enter0, h94, hM, fun r109 u112 H113 hM e111 h110 => ?_⟩
        replace h7 := rep_ext e111 h7
        replace h12 := rep_ext e111 h12
        replace h77 := rep_ext e111 h77
        replace h94 := rep_ext e111 h94
        replace mu76 := mo_ext e111 mu76
        replace hW := hW.ret0 e111
        obtain rfl := of_v h110
        obtain ⟨g114, hM⟩ := hM
        apply mo_appU mu76 (by rw [List.length_map]; exact g114)
        intro vs115 hr117
        have mk119 := mo_setL mu76 (repL_snoc (e := (fun y_ : Str => (D.v (V.str y_)))) (xs := ys43) (y := r109) hr117 rep_v)
        replace h7 := rep_put (o := .lst (vs115 ++ [V.str r109])) mu76.im h7
        replace h12 := rep_put (o := .lst (vs115 ++ [V.str r109])) mu76.im h12
        replace h77 := rep_put (o := .lst (vs115 ++ [V.str r109])) mu76.im h77
        replace h94 := rep_put (o := .lst (vs115 ++ [V.str r109])) mu76.im h94
        replace hW := wd_put (o := .lst (vs115 ++ [V.str r109])) hW mu76
        replace mu76 := mk119
        generalize upd H113 L16 (.lst (vs115 ++ [V.str r109])) = H120 at *
        replace mu76 : MutO (L16 :: ms) [(ap, none)] H_0 H120 L16 (D.lst ((ys43 ++ [r109]).map (fun y_ : Str => (D.v (V.str y_))))) := mu76
        clear mk119
        have h121 := mo_rep_dr dr_here nm31 mu76
        replace hW := wd_dr dr_here mu76.hp hW
        replace h7 := rep_dr dr_here h7
        replace h12 := rep_dr dr_here h12
        replace h77 := rep_dr dr_here h77
        replace h94 := rep_dr dr_here h94
        clear mu76
        refine ⟨_, rfl, ?_⟩
        apply rep_iter h121
        intro a122 xs123 _ an124 hp125 hl126
        refine fun L127 nl128 => ?_
        have nm142 := nm_new hW nl128
        refine lc_listG (L := L127) (fun n_ ys_ h_ => Wd (L127 :: ms) [(ap, none)] [] H_0 h_ ∧ Keep (L127 :: ms) H120 h_ ∧ MutO (L127 :: ms) [(ap, none)] H_0 h_ L127 (D.lst (ys_.map (fun y_ : Bool => (D.v (V.bl y_))))) ∧ ys_.length ≤ n_) (items := (ys43 ++ [r109])) (e := (fun y_ : Str => (D.v (V.str y_)))) an124 hp125 hl126 nl128 (fun _ _ _ q_ => q_.2.1) hM ⟨wd_cell hW nl128, keep_cell nl128 Keep.refl, mo_newL (ds := []) hW nl128 repL_nil, Nat.le_refl _⟩ ?_ ?_
        · skip
          rintro x138 u139 n129 ys130 k131 H143 hn ⟨hW, hk132, mu133, ln134⟩ h140 hM Nx137 hN135
          replace h7 := rep_keep hk132 (rep_new nl128 h7)
          replace h12 := rep_keep hk132 (rep_new nl128 h12)
          replace h77 := rep_keep hk132 (rep_new nl128 h77)
          replace h94 := rep_keep hk132 (rep_new nl128 h94)
          replace h121 := rep_keep hk132 (rep_new nl128 h121)
          obtain rfl := of_v h140
          refine ⟨rfl, ?_⟩
          refine tyes_of ?_
          refine ⟨_, rfl, ?_⟩
          refine ⟨(L127 :: ms), x138, _, rfl, hW.enter0, hM, fun r144 u147 H148 hM e146 h145 => ?_⟩
          replace h7 := rep_ext e146 h7
          replace h12 := rep_ext e146 h12
          replace h77 := rep_ext e146 h77
          replace h94 := rep_ext e146 h94
          replace h121 := rep_ext e146 h121
          replace hk132 := keep_ext e146 hk132
          replace mu133 := mo_ext e146 mu133
          replace hW := hW.ret0 e146
          obtain rfl := of_v h145
          refine mo_end mu133 hn (by rw [List.length_map]; exact ln134) fun vs149 hr150 => ?_
          have mk152 := mo_setL mu133 (repL_snoc (e := (fun y_ : Bool => (D.v (V.bl y_)))) (xs := ys130) (y := r144) hr150 rep_v)
          replace h7 := rep_put (o := .lst (vs149 ++ [V.bl r144])) mu133.im h7
          replace h12 := rep_put (o := .lst (vs149 ++ [V.bl r144])) mu133.im h12
          replace h77 := rep_put (o := .lst (vs149 ++ [V.bl r144])) mu133.im h77
          replace h94 := rep_put (o := .lst (vs149 ++ [V.bl r144])) mu133.im h94
          replace h121 := rep_put (o := .lst (vs149 ++ [V.bl r144])) mu133.im h121
          replace hk132 := keep_put (o := .lst (vs149 ++ [V.bl r144])) mu133.im hk132
          replace hW := wd_put (o := .lst (vs149 ++ [V.bl r144])) hW mu133
          replace mu133 := mk152
          generalize upd H148 L127 (.lst (vs149 ++ [V.bl r144])) = H153 at *
          replace mu133 : MutO (L127 :: ms) [(ap, none)] H_0 H153 L127 (D.lst ((ys130 ++ [r144]).map (fun y_ : Bool => (D.v (V.bl y_))))) := mu133
          clear mk152
          exact hN135 r144 _ hM ⟨hW, hk132, mu133, by rw [List.length_append]; exact Nat.add_le_add_right ln134 1⟩
        · skip
          rintro n129 ys154 H155 hM ⟨hW, hk132, mu133, ln134⟩
          replace h7 := rep_keep hk132 (rep_new nl128 h7)
          replace h12 := rep_keep hk132 (rep_new nl128 h12)
          replace h77 := rep_keep hk132 (rep_new nl128 h77)
          replace h94 := rep_keep hk132 (rep_new nl128 h94)
          replace h121 := rep_keep hk132 (rep_new nl128 h121)
          clear hk132 ln134
          have h156 := mo_rep_dr dr_here nm142 mu133
          replace hW := wd_dr dr_here mu133.hp hW
          replace h7 := rep_dr dr_here h7
          replace h12 := rep_dr dr_here h12
          replace h77 := rep_dr dr_here h77
          replace h94 := rep_dr dr_here h94
          replace h121 := rep_dr dr_here h121
          clear mu133
          apply rep_all h156
          exact hQ (List.all ys154 id) _ _ hM hW.out rep_v
def M_is_marks_D (x_value : D) (KM : Bool → Prop) : Prop :=
  (tyOk x_value = true ∧ (if (isT x_value "str") = true then (∃ y2 : Str, x_value = D.v (V.str y2) ∧ (y2.length ≤ sizeLine ∧ (KM (decide (V.int ((Txt.count y2 ("h" : Str) : Int) + (Txt.count y2 ("a" : Str) : Int)) = V.int (y2.length : Int)))))) else (KM false)))
def sp_is_marks_D (A : Ad) : Sp := fun vs H Q _ => ∃ (ms : List Addr) (v_value : V) (x_value : D) (KM : Bool → Prop), vs = [v_value] ∧ Wd ms [] [] H H ∧ rep ms H x_value v_value ∧ M_is_marks_D x_value KM ∧ ∀ (r : Bool) (u : V) (H1 : Hp), KM r → Ret [] H H1 → rep ms H1 (D.v (V.bl r)) u → Q u H1
set_option maxHeartbeats 16000000 in
theorem ok_is_marks_D {P : Program} {w : World} {K : PySem.W.Frag} {mg : Str → Option Value} {base : Heap} {A : Ad} (T : Txt w K mg base A) : FnOk P w K mg base CX0 1 A.a_is_marks A.d_is_marks ["value"] (sp_is_marks_D A) := by
  refine T.F_is_marks.ok sc_is_marks (fun vs H Q E h => ?_) (fun cdv A_ outer s_ H_0 vs Q E hr h => ?_)
  · obtain ⟨ms, v_value, x_value, KM, rfl, _⟩ := h
    rfl
  · obtain ⟨ms, v_value, x_value, KM, rfl, hW, h_value, hM, hQ⟩ := h
    unfold M_is_marks_D at hM
    refine ⟨_, (pss_one (ps_ret (pe_and (pe_callB (call_isiK (K := K) rfl) (by rfl) T.z_isinstance (by decide +kernel) (pa_cons (pv 0) (pa_cons (pe_bltn (v := .ty "str") (by rfl) T.z_str (by decide +kernel) rfl) pa_nil))) (pe_one (pe_cmpR op_eq (pe_op op_add (pe_m1 PySem.F.slot_str_count PySem.F.type_str_count mt_count (pv 0) pe_str) (pe_m1 PySem.F.slot_str_count PySem.F.type_str_count mt_count (pv 0) pe_str)) (pe_callB call_len_str (by rfl) T.z_len PySem.boot_len (pa_cons (pv 0) pa_nil)) (nomark _)))))), ?_⟩
    refine ⟨_, rfl, ?_⟩
    obtain ⟨g1, hM⟩ := hM
    apply rep_isi1 (d := x_value) (a := tyN x_value) (b := "str") (r := isT x_value "str") h_value g1 rfl (kitB_isT g1 (by simp))
    refine ⟨_, rfl, ?_⟩
    refine ite3 hM (fun hM => ?_) (fun hM => ?_)
    · skip
      obtain ⟨y2, hy3, hM⟩ := hM
      have hu4 : v_value = V.str y2 := of_v (rep_cast hy3 h_value)
      try rw [hu4]
      refine ⟨_, rfl, ?_⟩
      refine ⟨⟨_, rfl⟩, ?_⟩
      refine ⟨_, _, rfl, rfl, ?_⟩
      refine ⟨_, rfl, ?_⟩
      refine ⟨⟨_, rfl⟩, ?_⟩
      refine ⟨_, _, rfl, rfl, ?_⟩
      refine ⟨_, _, rfl, rfl, ?_⟩
      refine ⟨_, rfl, ?_⟩
      obtain ⟨g5, hM⟩ := hM
      refine ⟨_, rfl, g5, ?_⟩
      refine ⟨rfl, ?_⟩
      try rw [← hu4]
      exact hQ (decide (V.int ((Txt.count y2 ("h" : Str) : Int) + (Txt.count y2 ("a" : Str) : Int)) = V.int (y2.length : Int))) _ _ hM hW.out rep_v
    · skip
      exact hQ false _ _ hM hW.out rep_v
def M_stays_in_D (x_marks : D) (KM : Unit → Prop) (KE_InvalidMarks : D → Prop) : Prop :=
  (M_is_marks_D x_marks fun r1 => (if (!r1) = true then (KE_InvalidMarks x_marks) else (((plainD x_marks = true ∧ plainD (D.v (V.str ("" : Str))) = true ∧ SeqAt.shaped (pyOf x_marks) = true ∧ SeqAt.shaped (pyOf (D.v (V.str ("" : Str)))) = true)) ∧ (if (PyData.eqv (pyOf x_marks) (pyOf (D.v (V.str ("" : Str))))) = true then (KE_InvalidMarks x_marks) else False))))
def sp_stays_in_D (A : Ad) : Sp := fun vs H Q E => ∃ (ms : List Addr) (v_marks : V) (x_marks : D) (KM : Unit → Prop) (KE_InvalidMarks : D → Prop), vs = [v_marks] ∧ Wd ms [] [] H H ∧ rep ms H x_marks v_marks ∧ M_stays_in_D x_marks KM KE_InvalidMarks ∧ (∀ (r : Unit) (u : V) (H1 : Hp), KM r → Ret [] H H1 → rep ms H1 (D.v V.non) u → Q u H1) ∧ (∀ (e0_ : D) (cls : Value) (d : Option Addr) (H1 : Hp), KE_InvalidMarks e0_ → Ret [] H H1 → excR ms H1 A.c_InvalidMarks [("value" : Str)] [e0_] cls d → E cls d H1)
set_option maxHeartbeats 16000000 in
theorem ok_stays_in_D {P : Program} {w : World} {K : PySem.W.Frag} {mg : Str → Option Value} {base : Heap} {A : Ad} (T : Txt w K mg base A) : FnOk P w K mg base (L2.CX P w) 3 A.a_stays_in A.d_stays_in ["marks"] (sp_stays_in_D A) := by
  refine T.F_stays_in.okX sc_stays_in (fun vs H Q E h => ?_) (fun cdv A_ outer s_ H_0 vs Q E hr h => ?_)
  · obtain ⟨ms, v_marks, x_marks, KM, KE_InvalidMarks, rfl, _⟩ := h
    rfl
  · obtain ⟨ms, v_marks, x_marks, KM, KE_InvalidMarks, rfl, hW, h_marks, hM, hQ, hE_InvalidMarks⟩ := h
    unfold M_stays_in_D at hM
    refine ⟨_, (pss_cons (ps_if (PW.pt (pw_or (pt_not (pt_val (pe_call (ok_is_marks_D T) (hr.mono (by decide)) (by rfl) T.g_is_marks T.F_is_marks.kp T.b_is_marks .nil pass0 (pa_cons (pv 0) pa_nil)))) (pw_or1 (pt_cmpR (op_eqDK (K := K) rfl hr.units) (pv 0) pe_str (nomark _))))) (pss_one (ps_raise rfl (tkE rfl rfl rfl rfl) (pmk_oex T.ox_InvalidMarks T.ii_InvalidMarks T.ti_InvalidMarks (ok_InvalidMarks_init T) (hr.mono (by decide)) T.b_InvalidMarks_init .nil pass0 (by rfl) T.g_InvalidMarks (pa_cons (pv 0) pa_nil)))) pss_nil) (pss_cons ps_never (pss_one ps_never))), ?_⟩
    refine ⟨_, rfl, ?_⟩
    refine ⟨ms, _, x_marks, _, rfl, hW.enter0, h_marks, hM, fun r1 u4 H5 hM e3 h2 => ?_⟩
    replace h_marks := rep_ext e3 h_marks
    replace hW := hW.ret0 e3
    obtain rfl := of_v h2
    refine ⟨_, rfl, ?_⟩
    refine ite3 hM (fun hM => ?_) (fun hM => ?_)
    · skip
      refine iteT ?_
      refine ⟨_, rfl, ?_⟩
      refine exc_mk1 fun dx6 nd7 => ?_
      obtain ⟨er8, ex9⟩ := exc_out (n := "value") (dv := x_marks) (C := A.c_InvalidMarks) hW h_marks nd7
      exact hE_InvalidMarks x_marks _ _ _ hM er8 (excR_sub (by intro a_ h_; simp [h_]) ex9)
    · skip
      refine ⟨_, rfl, ?_⟩
      unfold tC
      obtain ⟨g10, hM⟩ := hM
      apply rep_eqD (d := x_marks) (e := (D.v (V.str ("" : Str)))) h_marks rep_v g10.1 g10.2.1 g10.2.2.1 g10.2.2.2
      refine ⟨_, rfl, ?_⟩
      refine ite3 hM (fun hM => ?_) (fun hM => ?_)
      · skip
        refine ⟨_, rfl, ?_⟩
        refine exc_mk1 fun dx11 nd12 => ?_
        obtain ⟨er13, ex14⟩ := exc_out (n := "value") (dv := x_marks) (C := A.c_InvalidMarks) hW h_marks nd12
        exact hE_InvalidMarks x_marks _ _ _ hM er13 (excR_sub (by intro a_ h_; simp [h_]) ex14)
      · skip
        exact hM.elim
def M_breaks_in_D (x_marks : D) (KM : Unit → Prop) (KE_InvalidMarks : D → Prop) : Prop :=
  (M_stays_in_D x_marks (fun _ => False) (fun x11 => (KE_InvalidMarks x11)))
def sp_breaks_in_D (A : Ad) : Sp := fun vs H Q E => ∃ (ms : List Addr) (v_marks : V) (x_marks : D) (KM : Unit → Prop) (KE_InvalidMarks : D → Prop), vs = [v_marks] ∧ Wd ms [] [] H H ∧ rep ms H x_marks v_marks ∧ M_breaks_in_D x_marks KM KE_InvalidMarks ∧ (∀ (r : Unit) (u : V) (H1 : Hp), KM r → Ret [] H H1 → rep ms H1 (D.v V.non) u → Q u H1) ∧ (∀ (e0_ : D) (cls : Value) (d : Option Addr) (H1 : Hp), KE_InvalidMarks e0_ → Ret [] H H1 → excR ms H1 A.c_InvalidMarks [("value" : Str)] [e0_] cls d → E cls d H1)
set_option maxHeartbeats 16000000 in
theorem ok_breaks_in_D {P : Program} {w : World} {K : PySem.W.Frag} {mg : Str → Option Value} {base : Heap} {A : Ad} (T : Txt w K mg base A) : FnOk P w K mg base (L2.CX P w) 4 A.a_breaks_in A.d_breaks_in ["marks"] (sp_breaks_in_D A) := by
  refine T.F_breaks_in.okX sc_breaks_in (fun vs H Q E h => ?_) (fun cdv A_ outer s_ H_0 vs Q E hr h => ?_)
  · obtain ⟨ms, v_marks, x_marks, KM, KE_InvalidMarks, rfl, _⟩ := h
    rfl
  · obtain ⟨ms, v_marks, x_marks, KM, KE_InvalidMarks, rfl, hW, h_marks, hM, hQ, hE_InvalidMarks⟩ := h
    unfold M_breaks_in_D at hM
    refine ⟨_, (pss_one (ps_ret (pe_callB (cr_sumK (K := K) rfl rfl) (by rfl) T.z_sum (by decide +kernel) (pa_cons (pe_lc (own := [("length", 1)]) (g := gName 1) rfl sc_breaks_in.nd (pi_list (pe_call (ok_stays_in_D T) (hr.mono (by decide)) (by rfl) T.g_stays_in T.F_stays_in.kp T.b_stays_in .nil (passE rfl rfl rfl rfl) (pa_cons (pv 0) pa_nil))) (blkOk_by (N := ["marks", "length"]) (sc := defScope s_breaks_in) (by decide +kernel)) (fun _ _ _ _ _ => pg_name (i := 1) sc_breaks_in.nd rfl (by first | exact Or.inl rfl | exact Or.inr rfl)) (fun _ _ _ _ _ => pts_nil) (fun _ _ _ _ _ => pe_never)) pa_nil)))), ?_⟩
    refine ⟨_, rfl, ?_⟩
    refine ⟨ms, _, x_marks, (fun _ => False), _, rfl, hW.enter0, h_marks, hM, fun _ _ _ hM _ _ => hM.elim, fun x11 cl12 d13 H14 hM er15 ex16 => ?_⟩
    · skip
      replace h_marks := rep_ext er15 h_marks
      replace hW := hW.ret0 er15
      exact hE_InvalidMarks x11 _ _ _ hM hW.out (excR_sub (by intro a_ h_; simp [h_]) ex16)
def M_told (ML : (Unit → Prop) → (D → Prop) → Prop) (KM : (List D) → Prop) : Prop :=
  (ML (fun _ => False) (fun x12 => (KM ([(D.v (V.str ("marks" : Str))), x12, (D.v (V.bl true))] : List D))))
def TT_told (A : Ad) : (XK → Hp → VK → Prop) → Hp → VK → Prop := fun tl H Q => ∃ (ms : List Addr) (ML : (Unit → Prop) → (D → Prop) → Prop) (KM : (List D) → Prop), Wd ms [] [] H H ∧ (∀ (ms_ : List Addr) (H1 : Hp) (E : XK) (Q1 : VK) (KN : Unit → Prop) (KE_InvalidMarks : (D → Prop)), (∀ a ∈ ms_, a ∈ ms ∨ H a = none) → Ret [] H H1 → Wd ms_ [] [] H1 H1 → ML KN KE_InvalidMarks → (∀ (r : Unit) (u : V) (H2 : Hp), KN r → Ret [] H1 H2 → rep ms_ H2 (D.v V.non) u → Q1 u H2) → (∀ (e0_ : D) (cls : Value) (d : Option Addr) (H2 : Hp), KE_InvalidMarks e0_ → Ret [] H1 H2 → excR ms_ H2 A.c_InvalidMarks [("value" : Str)] [e0_] cls d → E cls d H2) → tl E H1 Q1) ∧ M_told ML KM ∧ ∀ (r : (List D)) (u : V) (H1 : Hp), KM r → Ret [] H H1 → rep ms H1 (D.lst (r.map (fun y_ : D => y_))) u → Q u H1
set_option maxHeartbeats 16000000 in
theorem gives_told {X : Cx} {A : Ad} (T : Txt X.w X.K X.mg X.base A) (gu : X.A.guards = some []) (q : Str) : ∀ cdv, Gives X ["_law_call", "_law_told_here", "e"] "_law_told" (defScope s_told) A.a_told cdv (defBody s_told) "_law_call" q (TT_told A) := by
  intro cdv f_ c_ s_ H_0 Q tl hr act hco_ h
  obtain ⟨ms, ML, KM, hW, hlam, hM, hQ⟩ := h
  unfold M_told at hM
  refine ⟨_, (pss_cons (ps_set (i := 1) sc_told.nd rfl (by first | exact Or.inl rfl | exact Or.inr rfl) (pe_lst (pa_cons pe_str pa_nil))) (pss_cons (ps_try_as (i := 2) rfl rfl sc_told.nd rfl rfl ⟨(by rfl), (by rfl), .inl T.g_InvalidMarks⟩ takes0 (fun W_ pn_ xe_ tk_ _ => (pss_one (ps_expr (act W_ pn_ xe_ _ _ tk_)))) (fun a_x oe_ cls_ d_ pn_ hz_ hf_ => (pss_one (ps_set (i := 1) sc_told.nd rfl (by first | exact Or.inl rfl | exact Or.inr rfl) (pe_lst (pa_cons pe_str (pa_cons (pe_xf T.xf_InvalidMarks T.no_InvalidMarks_value hz_ hf_ (pv 2)) (pa_cons (pe_callB (call_isX hz_ hf_) (by rfl) T.z_isinstance (by decide +kernel) (pa_cons (pv 2) (pa_cons (pe_glob (v := .ref A.c_LeagueError) (by rfl) T.g_LeagueError rfl) pa_nil))) pa_nil)))))))) (pss_one (ps_ret (pv 1))))), ?_⟩
  refine ⟨(by show 1 ≤ sizeLine; decide), ?_⟩
  intro p1 n5
  have e2 := Rx.Ext.new (H := H_0) (o := (HO.lst [V.str ("made" : Str)])) n5
  have hp3 : upd H_0 p1 (HO.lst [V.str ("made" : Str)]) p1 = some (HO.lst [V.str ("made" : Str)]) := upd_same
  generalize upd H_0 p1 (HO.lst [V.str ("made" : Str)]) = H6 at e2 hp3 ⊢
  have h4 : rep ms H6 (D.lst (([("made" : Str)] : List Str).map (fun y_ : Str => (D.v (V.str y_))))) (.ref p1) := rep_lst_mk hW n5 e2 hp3 (repL_cons rep_v repL_nil)
  replace hco_ := Rx.Ext.keep e2 hco_
  replace hW := hW.ret0 e2
  refine ⟨rfl, hco_, _, fun _ _ _ h_ => h_, hlam _ _ _ _ (fun _ => False) _ (fun _ h_ => .inl h_) hW.out hW.enter0 hM (fun _ _ _ hM _ _ => hM.elim) (fun x12 cl13 d14 H15 hM er16 ex17 => ?_)⟩
  · skip
    replace h4 := rep_ext er16 h4
    replace hco_ := Rx.Ext.keep er16 hco_
    replace hW := hW.ret0 er16
    obtain ⟨rfl, dd22, vs18, rfl, hx19, hn20, hr21⟩ := ex17
    obtain ⟨u23, us24, rfl, h25, hr26⟩ := repL_uncons hr21
    obtain rfl := repL_empty hr26
    refine ⟨true, T.xm_InvalidMarks_InvalidMarks, fun _ a_x na_x => ?_, (fun z_ => by cases z_)⟩
    refine ⟨_, rfl, ?_⟩
    refine ⟨rfl, rfl, _, _, u23, rfl, hx19, rfl, ?_⟩
    refine ⟨_, rfl, ?_⟩
    refine ⟨_, _, _, _, _, _, rfl, rfl, T.xc_InvalidMarks, (fun _ r_ => r_), T.xk_InvalidMarks_LeagueError, rfl, hx19, ?_⟩
    refine ⟨(by show 3 ≤ sizeLine; decide), ?_⟩
    intro p27 n31
    have e28 := Rx.Ext.new (H := H15) (o := (HO.lst [V.str ("marks" : Str), u23, V.bl true])) n31
    have hp29 : upd H15 p27 (HO.lst [V.str ("marks" : Str), u23, V.bl true]) p27 = some (HO.lst [V.str ("marks" : Str), u23, V.bl true]) := upd_same
    generalize upd H15 p27 (HO.lst [V.str ("marks" : Str), u23, V.bl true]) = H32 at e28 hp29 ⊢
    have h30 : rep ms H32 (D.lst (([(D.v (V.str ("marks" : Str))), x12, (D.v (V.bl true))] : List D).map (fun y_ : D => y_))) (.ref p27) := rep_lst_mk hW n31 e28 hp29 (repL_cons rep_v (repL_cons h25 (repL_cons rep_v repL_nil)))
    replace h4 := rep_ext e28 h4
    replace h25 := rep_ext e28 h25
    replace hx19 := Rx.Ext.keep e28 hx19
    replace hW := hW.ret0 e28
    refine ⟨_, rfl, ?_⟩
    exact hQ ([(D.v (V.str ("marks" : Str))), x12, (D.v (V.bl true))] : List D) _ _ hM hW.out h30
def M_told_Lli (ML : ((List Int) → Prop) → Prop) (KM : (List Str) → Prop) : Prop :=
  (ML (fun r7 => (KM ([("made" : Str)] : List Str))))
def TT_told_Lli (A : Ad) : (XK → Hp → VK → Prop) → Hp → VK → Prop := fun tl H Q => ∃ (ms : List Addr) (ML : ((List Int) → Prop) → Prop) (KM : (List Str) → Prop), Wd ms [] [] H H ∧ (∀ (ms_ : List Addr) (H1 : Hp) (E : XK) (Q1 : VK) (KN : (List Int) → Prop), (∀ a ∈ ms_, a ∈ ms ∨ H a = none) → Ret [] H H1 → Wd ms_ [] [] H1 H1 → ML KN → (∀ (r : (List Int)) (u : V) (H2 : Hp), KN r → Ret [] H1 H2 → rep ms_ H2 (D.lst (r.map (fun y_ : Int => (D.v (V.int y_))))) u → Q1 u H2) → tl E H1 Q1) ∧ M_told_Lli ML KM ∧ ∀ (r : (List Str)) (u : V) (H1 : Hp), KM r → Ret [] H H1 → rep ms H1 (D.lst (r.map (fun y_ : Str => (D.v (V.str y_))))) u → Q u H1
set_option maxHeartbeats 16000000 in
theorem gives_told_Lli {X : Cx} {A : Ad} (T : Txt X.w X.K X.mg X.base A) (gu : X.A.guards = some []) (q : Str) : ∀ cdv, Gives X ["_law_call", "_law_told_here", "e"] "_law_told" (defScope s_told) A.a_told cdv (defBody s_told) "_law_call" q (TT_told_Lli A) := by
  intro cdv f_ c_ s_ H_0 Q tl hr act hco_ h
  obtain ⟨ms, ML, KM, hW, hlam, hM, hQ⟩ := h
  unfold M_told_Lli at hM
  refine ⟨_, (pss_cons (ps_set (i := 1) sc_told.nd rfl (by first | exact Or.inl rfl | exact Or.inr rfl) (pe_lst (pa_cons pe_str pa_nil))) (pss_cons (ps_try_as (i := 2) rfl rfl sc_told.nd rfl rfl ⟨(by rfl), (by rfl), .inl T.g_InvalidMarks⟩ takes0 (fun W_ pn_ xe_ tk_ _ => (pss_one (ps_expr (act W_ pn_ xe_ _ _ tk_)))) (fun a_x oe_ cls_ d_ pn_ hz_ hf_ => (pss_one ps_never))) (pss_one (ps_ret (pv 1))))), ?_⟩
  refine ⟨(by show 1 ≤ sizeLine; decide), ?_⟩
  intro p1 n5
  have e2 := Rx.Ext.new (H := H_0) (o := (HO.lst [V.str ("made" : Str)])) n5
  have hp3 : upd H_0 p1 (HO.lst [V.str ("made" : Str)]) p1 = some (HO.lst [V.str ("made" : Str)]) := upd_same
  generalize upd H_0 p1 (HO.lst [V.str ("made" : Str)]) = H6 at e2 hp3 ⊢
  have h4 : rep ms H6 (D.lst (([("made" : Str)] : List Str).map (fun y_ : Str => (D.v (V.str y_))))) (.ref p1) := rep_lst_mk hW n5 e2 hp3 (repL_cons rep_v repL_nil)
  replace hco_ := Rx.Ext.keep e2 hco_
  replace hW := hW.ret0 e2
  refine ⟨rfl, hco_, _, fun _ _ _ h_ => h_, hlam _ _ _ _ _  (fun _ h_ => .inl h_) hW.out hW.enter0 hM (fun r7 u10 H11 hM e9 h8 => ?_) ⟩
  · skip
    replace h4 := rep_ext e9 h4
    replace hco_ := Rx.Ext.keep e9 hco_
    replace hW := hW.ret0 e9
    refine ⟨_, rfl, ?_⟩
    exact hQ ([("made" : Str)] : List Str) _ _ hM hW.out h4
def M_refused_right (KM : Bool → Prop) : Prop :=
  (M_marks (9 : Int) fun r1 => ((r1.length + ("H" : Str).length ≤ sizeLine) ∧ ((r1.length + (" " : Str).length ≤ sizeLine) ∧ ((r1.length + ("b" : Str).length ≤ sizeLine) ∧ ((r1).cps.size ≤ sizeLine ∧ ((r1.length + ("\n" : Str).length ≤ sizeLine) ∧ (forC (fun (x46 : D) (s48 : Unit) (k49 : Unit → Prop) => (M_told (fun KN_ KE_InvalidMarks => (M_breaks_in_D x46 (fun _ => False) (fun x75 => (KE_InvalidMarks x75)))) fun r59 => (((r59.map fun y_ : D => y_).length = (([(D.v (V.str ("marks" : Str))), x46, (D.v (V.bl true))] : List D).map fun y_ : D => y_).length ∧ ∀ p_ ∈ List.zip (r59.map fun y_ : D => y_) (([(D.v (V.str ("marks" : Str))), x46, (D.v (V.bl true))] : List D).map fun y_ : D => y_), okX p_.1 p_.2 = true) ∧ (if (!((List.zip (r59.map fun y_ : D => y_) (([(D.v (V.str ("marks" : Str))), x46, (D.v (V.bl true))] : List D).map fun y_ : D => y_)).all fun p_ => eqX p_.1 p_.2)) = true then (KM false) else (M_told (fun KN_ KE_InvalidMarks => (M_stays_in_D x46 (fun _ => False) (fun x107 => (KE_InvalidMarks x107)))) fun r91 => (((r91.map fun y_ : D => y_).length = (([(D.v (V.str ("marks" : Str))), x46, (D.v (V.bl true))] : List D).map fun y_ : D => y_).length ∧ ∀ p_ ∈ List.zip (r91.map fun y_ : D => y_) (([(D.v (V.str ("marks" : Str))), x46, (D.v (V.bl true))] : List D).map fun y_ : D => y_), okX p_.1 p_.2 = true) ∧ (if (!((List.zip (r91.map fun y_ : D => y_) (([(D.v (V.str ("marks" : Str))), x46, (D.v (V.bl true))] : List D).map fun y_ : D => y_)).all fun p_ => eqX p_.1 p_.2)) = true then (KM false) else (k49 ())))))))) ([(D.v (V.str (r1 ++ ("H" : Str)))), (D.v (V.str (r1 ++ (" " : Str)))), (D.v (V.str (r1 ++ ("b" : Str)))), (D.lst (([r1] : List Str).map (fun y_ : Str => (D.v (V.str y_))))), (D.lst ((Rx.signs r1).map (fun y_ : Str => (D.v (V.str y_))))), (D.tup [(D.v (V.str r1))]), (D.v V.non), (D.v (V.int (0 : Int))), (D.v (V.bl true)), (D.dct [] []), (D.v (V.str ("" : Str))), (D.v (V.str (r1 ++ ("\n" : Str)))), (D.v (V.str ("home" : Str)))] : List D) () fun s120 => (M_told_Lli (fun KN_  => (M_stays_in r1 fun r133 => (KN_ r133))) fun r127 => (((plainD (D.lst (r127.map (fun y_ : Str => (D.v (V.str y_))))) = true ∧ plainD (D.lst (([("made" : Str)] : List Str).map (fun y_ : Str => (D.v (V.str y_))))) = true ∧ SeqAt.shaped (pyOf (D.lst (r127.map (fun y_ : Str => (D.v (V.str y_)))))) = true ∧ SeqAt.shaped (pyOf (D.lst (([("made" : Str)] : List Str).map (fun y_ : Str => (D.v (V.str y_)))))) = true)) ∧ (KM (PyData.eqv (pyOf (D.lst (r127.map (fun y_ : Str => (D.v (V.str y_)))))) (pyOf (D.lst (([("made" : Str)] : List Str).map (fun y_ : Str => (D.v (V.str y_)))))))))))))))))
def sp_refused_right (A : Ad) : Sp := fun vs H Q _ => ∃ (ms : List Addr) (ap : Addr) (KM : Bool → Prop), vs = [.ref ap] ∧ Wd ms ((ap, none) :: A.tbs) [] H H ∧ M_refused_right  KM ∧ ∀ (r : Bool) (u : V) (H1 : Hp), KM r → Ret ((ap, none) :: A.tbs) H H1 → rep ms H1 (D.v (V.bl r)) u → Q u H1
set_option maxHeartbeats 16000000 in
theorem ok_refused_right {P : Program} {w : World} {K : PySem.W.Frag} {mg : Str → Option Value} {base : Heap} {A : Ad} (T : Txt w K mg base A) : FnG P w K mg base 8 A.a_refused_right A.d_refused_right ["_law_pot_here"] (sp_refused_right A) := by
  refine okGT T.F_refused_right sc_refused_right (fun vs H Q E h => ?_) (fun cdv A_ outer s_ H_0 vs Q E hcd_ gu hr h => ?_)
  · obtain ⟨ms, ap, KM, rfl, _⟩ := h
    rfl
  · obtain ⟨ms, ap, KM, rfl, hW, hM, hQ⟩ := h
    unfold M_refused_right at hM
    refine ⟨_, (pss_cons (ps_set (i := 1) sc_refused_right.nd rfl (by first | exact Or.inl rfl | exact Or.inr rfl) (pe_call (ok_marks T) (hr.mono (by decide)) (by rfl) T.g_marks T.F_marks.kp T.b_marks .nil pass0 (pa_cons (pv 0) (pa_cons pe_int pa_nil)))) (pss_cons (ps_set (i := 2) sc_refused_right.nd rfl (by first | exact Or.inl rfl | exact Or.inr rfl) (pe_lst (pa_cons (pe_op op_add_str (pv 1) pe_str) (pa_cons (pe_op op_add_str (pv 1) pe_str) (pa_cons (pe_op op_add_str (pv 1) pe_str) (pa_cons (pe_lst (pa_cons (pv 1) pa_nil)) (pa_cons (pe_callTy (call_listS rfl) (by rfl) T.z_list (by decide +kernel) (pa_cons (pv 1) pa_nil)) (pa_cons (pe_tup (pa_cons (pv 1) pa_nil)) (pa_cons pe_non (pa_cons pe_int (pa_cons pe_bl (pa_cons pe_dnewK (pa_cons pe_str (pa_cons (pe_op op_add_str (pv 1) pe_str) (pa_cons pe_str pa_nil))))))))))))))) (pss_cons (ps_for PassesOwn.never rfl (pi_list (pv 2)) (pg_name (i := 3) sc_refused_right.nd rfl (by first | exact Or.inl rfl | exact Or.inr rfl)) (pss_cons (ps_if (pt_cmpR (op_neL (K := K) rfl hr.units) (pe_lamcall6 (k := 4) (("_law_refused_right" : Str) ++ (".<locals>." : Str)) qual_nox (by rfl) T.g_told T.F_told T.b_told sc_told (.inl rfl) (gives_told T gu _) T.tb_refused_right (hcd_.symm.trans T.cd_refused_right) (hr.mono (by decide)) (LamX.lamS_by (sc := defScope s_refused_right) (by decide +kernel)) rfl (fun _ _ _ _ _ => rfl) (fun A_ outer_ s_ H_ E f_ c_ hr => (pe_call (ok_breaks_in_D T) (hr.mono (by decide)) (by rfl) T.g_breaks_in T.F_breaks_in.kp T.b_breaks_in .nil (passE rfl rfl rfl rfl) (pa_cons (pv 3) pa_nil)))) (pe_lst (pa_cons pe_str (pa_cons (pv 3) (pa_cons pe_bl pa_nil)))) (nomark _)) (pss_one (ps_ret pe_bl)) pss_nil) (pss_one (ps_if (pt_cmpR (op_neL (K := K) rfl hr.units) (pe_lamcall6 (k := 3) (("_law_refused_right" : Str) ++ (".<locals>." : Str)) qual_nox (by rfl) T.g_told T.F_told T.b_told sc_told (.inl rfl) (gives_told T gu _) T.tb_refused_right (hcd_.symm.trans T.cd_refused_right) (hr.mono (by decide)) (LamX.lamS_by (sc := defScope s_refused_right) (by decide +kernel)) rfl (fun _ _ _ _ _ => rfl) (fun A_ outer_ s_ H_ E f_ c_ hr => (pe_call (ok_stays_in_D T) (hr.mono (by decide)) (by rfl) T.g_stays_in T.F_stays_in.kp T.b_stays_in .nil (passE rfl rfl rfl rfl) (pa_cons (pv 3) pa_nil)))) (pe_lst (pa_cons pe_str (pa_cons (pv 3) (pa_cons pe_bl pa_nil)))) (nomark _)) (pss_one (ps_ret pe_bl)) pss_nil)))) (pss_one (ps_ret (pe_cmpR (op_eqDK (K := K) rfl hr.units) (pe_lamcall6 (k := 2) (("_law_refused_right" : Str) ++ (".<locals>." : Str)) qual_nox (by rfl) T.g_told T.F_told T.b_told sc_told (.inl rfl) (gives_told_Lli T gu _) T.tb_refused_right (hcd_.symm.trans T.cd_refused_right) (hr.mono (by decide)) (LamX.lamS_by (sc := defScope s_refused_right) (by decide +kernel)) rfl (fun _ _ _ _ _ => rfl) (fun A_ outer_ s_ H_ E f_ c_ hr => (pe_call (ok_stays_in T) (hr.mono (by decide)) (by rfl) T.g_stays_in T.F_stays_in.kp T.b_stays_in .nil pass0 (pa_cons (pv 1) pa_nil)))) (pe_lst (pa_cons pe_str pa_nil)) (nomark _))))))), ?_⟩
    refine ⟨_, rfl, ?_⟩
    refine ⟨ms, ap, (9 : Int), _, rfl, (hW.enterS (by simp)), hM, fun r1 u4 H5 hM e3 h2 => ?_⟩
    replace e3 := Ret.upS (by simp) (by simp) hW e3
    replace hW := hW.retP e3
    obtain rfl := of_v h2
    refine ⟨_, rfl, ?_⟩
    obtain ⟨g6, hM⟩ := hM
    refine ⟨_, _, rfl, rfl, g6, ?_⟩
    refine ⟨_, rfl, ?_⟩
    obtain ⟨g7, hM⟩ := hM
    refine ⟨_, _, rfl, rfl, g7, ?_⟩
    refine ⟨_, rfl, ?_⟩
    obtain ⟨g8, hM⟩ := hM
    refine ⟨_, _, rfl, rfl, g8, ?_⟩
    refine ⟨_, rfl, ?_⟩
    refine ⟨(by show 1 ≤ sizeLine; decide), ?_⟩
    intro p9 n13
    have e10 := Rx.Ext.new (H := H5) (o := (HO.lst [V.str r1])) n13
    have hp11 : upd H5 p9 (HO.lst [V.str r1]) p9 = some (HO.lst [V.str r1]) := upd_same
    generalize upd H5 p9 (HO.lst [V.str r1]) = H14 at e10 hp11 ⊢
    have h12 : rep ms H14 (D.lst (([r1] : List Str).map (fun y_ : Str => (D.v (V.str y_))))) (.ref p9) := rep_lst_mk hW n13 e10 hp11 (repL_cons rep_v repL_nil)
    replace hW := hW.ret0 e10
    refine ⟨_, rfl, ?_⟩
    obtain ⟨g15, hM⟩ := hM
    refine ⟨_, rfl, g15, ?_⟩
    intro p16 n20
    have e17 := Rx.Ext.new (H := H14) (o := (HO.lst ((Rx.signs r1).map V.str))) n20
    have hp18 : upd H14 p16 (HO.lst ((Rx.signs r1).map V.str)) p16 = some (HO.lst ((Rx.signs r1).map V.str)) := upd_same
    generalize upd H14 p16 (HO.lst ((Rx.signs r1).map V.str)) = H21 at e17 hp18 ⊢
    have h19 : rep ms H21 (D.lst ((Rx.signs r1).map (fun y_ : Str => (D.v (V.str y_))))) (.ref p16) := rep_lst_mk hW n20 e17 hp18 repL_strsM
    replace h12 := rep_ext e17 h12
    replace hW := hW.ret0 e17
    refine ⟨_, rfl, ?_⟩
    refine ⟨(by show 1 ≤ sizeLine; decide), ?_⟩
    intro p22 n26
    have e23 := Rx.Ext.new (H := H21) (o := (HO.tup [V.str r1])) n26
    have hp24 : upd H21 p22 (HO.tup [V.str r1]) p22 = some (HO.tup [V.str r1]) := upd_same
    generalize upd H21 p22 (HO.tup [V.str r1]) = H27 at e23 hp24 ⊢
    have h25 : rep ms H27 (D.tup [(D.v (V.str r1))]) (.ref p22) := rep_tup_mk hW n26 e23 hp24 (repL_cons rep_v repL_nil)
    replace h12 := rep_ext e23 h12
    replace h19 := rep_ext e23 h19
    replace hW := hW.ret0 e23
    intro p28 n32
    have e29 := Rx.Ext.new (H := H27) (o := (HO.dK [])) n32
    have hp30 : upd H27 p28 (HO.dK []) p28 = some (HO.dK []) := upd_same
    generalize upd H27 p28 (HO.dK []) = H33 at e29 hp30 ⊢
    have h31 : rep ms H33 (D.dct [] []) (.ref p28) := rep_dct0 hW n32 hp30
    replace h12 := rep_ext e29 h12
    replace h19 := rep_ext e29 h19
    replace h25 := rep_ext e29 h25
    replace hW := hW.ret0 e29
    refine ⟨_, rfl, ?_⟩
    obtain ⟨g34, hM⟩ := hM
    refine ⟨_, _, rfl, rfl, g34, ?_⟩
    refine ⟨(by show 13 ≤ sizeLine; decide), ?_⟩
    intro p35 n39
    have e36 := Rx.Ext.new (H := H33) (o := (HO.lst [V.str (r1 ++ ("H" : Str)), V.str (r1 ++ (" " : Str)), V.str (r1 ++ ("b" : Str)), (V.ref p9), (V.ref p16), (V.ref p22), V.non, V.int (0 : Int), V.bl true, (V.ref p28), V.str ("" : Str), V.str (r1 ++ ("\n" : Str)), V.str ("home" : Str)])) n39
    have hp37 : upd H33 p35 (HO.lst [V.str (r1 ++ ("H" : Str)), V.str (r1 ++ (" " : Str)), V.str (r1 ++ ("b" : Str)), (V.ref p9), (V.ref p16), (V.ref p22), V.non, V.int (0 : Int), V.bl true, (V.ref p28), V.str ("" : Str), V.str (r1 ++ ("\n" : Str)), V.str ("home" : Str)]) p35 = some (HO.lst [V.str (r1 ++ ("H" : Str)), V.str (r1 ++ (" " : Str)), V.str (r1 ++ ("b" : Str)), (V.ref p9), (V.ref p16), (V.ref p22), V.non, V.int (0 : Int), V.bl true, (V.ref p28), V.str ("" : Str), V.str (r1 ++ ("\n" : Str)), V.str ("home" : Str)]) := upd_same
    generalize upd H33 p35 (HO.lst [V.str (r1 ++ ("H" : Str)), V.str (r1 ++ (" " : Str)), V.str (r1 ++ ("b" : Str)), (V.ref p9), (V.ref p16), (V.ref p22), V.non, V.int (0 : Int), V.bl true, (V.ref p28), V.str ("" : Str), V.str (r1 ++ ("\n" : Str)), V.str ("home" : Str)]) = H40 at e36 hp37 ⊢
    have h38 : rep ms H40 (D.lst (([(D.v (V.str (r1 ++ ("H" : Str)))), (D.v (V.str (r1 ++ (" " : Str)))), (D.v (V.str (r1 ++ ("b" : Str)))), (D.lst (([r1] : List Str).map (fun y_ : Str => (D.v (V.str y_))))), (D.lst ((Rx.signs r1).map (fun y_ : Str => (D.v (V.str y_))))), (D.tup [(D.v (V.str r1))]), (D.v V.non), (D.v (V.int (0 : Int))), (D.v (V.bl true)), (D.dct [] []), (D.v (V.str ("" : Str))), (D.v (V.str (r1 ++ ("\n" : Str)))), (D.v (V.str ("home" : Str)))] : List D).map (fun y_ : D => y_))) (.ref p35) := rep_lst_mk hW n39 e36 hp37 (repL_cons rep_v (repL_cons rep_v (repL_cons rep_v (repL_cons h12 (repL_cons h19 (repL_cons h25 (repL_cons rep_v (repL_cons rep_v (repL_cons rep_v (repL_cons h31 (repL_cons rep_v (repL_cons rep_v (repL_cons rep_v repL_nil)))))))))))))
    replace h12 := rep_ext e36 h12
    replace h19 := rep_ext e36 h19
    replace h25 := rep_ext e36 h25
    replace h31 := rep_ext e36 h31
    replace hW := hW.ret0 e36
    refine ⟨_, rfl, ?_⟩
    apply rep_iter h38
    intro a41 xs42 _ an43 hp44 hl45
    refine for_listG (S := Unit) (items := ([(D.v (V.str (r1 ++ ("H" : Str)))), (D.v (V.str (r1 ++ (" " : Str)))), (D.v (V.str (r1 ++ ("b" : Str)))), (D.lst (([r1] : List Str).map (fun y_ : Str => (D.v (V.str y_))))), (D.lst ((Rx.signs r1).map (fun y_ : Str => (D.v (V.str y_))))), (D.tup [(D.v (V.str r1))]), (D.v V.non), (D.v (V.int (0 : Int))), (D.v (V.bl true)), (D.dct [] []), (D.v (V.str ("" : Str))), (D.v (V.str (r1 ++ ("\n" : Str)))), (D.v (V.str ("home" : Str)))] : List D)) (e := (fun y_ : D => y_)) (ms := ms) (fun (s : Unit) σ_ h_ => ∃ (w_0 : Option V), σ_ = [some (V.ref ap), some (V.str r1), some (V.ref p35), w_0] ∧ Wd ms ((ap, none) :: A.tbs) [] H_0 h_ ∧ Keep ms H40 h_) () an43 hp44 hl45 (fun _ _ _ z_ => by obtain ⟨_, _, _, q_⟩ := z_; exact q_) hM ⟨_, rfl, hW, Keep.refl⟩ ?_ ?_
    · skip
      rintro x46 u47 s48 k49 _ H55 ⟨w54, rfl, hW, hk50⟩ h51 hM Nx52 hN53
      replace h12 := rep_keep hk50 h12
      replace h19 := rep_keep hk50 h19
      replace h25 := rep_keep hk50 h25
      replace h31 := rep_keep hk50 h31
      replace h38 := rep_keep hk50 h38
      refine ⟨hW.pot (A.t_refused_right, some ((("_law_refused_right" : Str) ++ (".<locals>." : Str)) ++ ("<lambda>" : Str))) (List.mem_cons_of_mem _ (tm_refused_right A)), fun H56 e57_ t58 => ?_⟩
      have e57 : Ret ((ap, none) :: A.tbs) H55 H56 := Ret.upX (sub1 (List.mem_cons_of_mem _ (tm_refused_right A))) tab1 hW (ret_tab (q := ((("_law_refused_right" : Str) ++ (".<locals>." : Str)) ++ ("<lambda>" : Str))) e57_ t58)
      clear e57_ t58
      replace h12 := rep_ret hW e57 h12
      replace h19 := rep_ret hW e57 h19
      replace h25 := rep_ret hW e57 h25
      replace h31 := rep_ret hW e57 h31
      replace h38 := rep_ret hW e57 h38
      replace hk50 := keep_ret hW e57 hk50
      replace h51 := rep_ret hW e57 h51
      replace hW := hW.retP e57
      refine ⟨ms, _, _, hW.enter0, fun ms_l H64 E Q KN_ KE_InvalidMarks hs_ el_ hWl_ hMl_ hQl_ hE_InvalidMarks => ?_, hM, fun r59 u62 H63 hM e61 h60 => ?_⟩
      · skip
        replace h12 := rep_lam hs_ el_ h12
        replace h19 := rep_lam hs_ el_ h19
        replace h25 := rep_lam hs_ el_ h25
        replace h31 := rep_lam hs_ el_ h31
        replace h38 := rep_lam hs_ el_ h38
        clear hk50
        replace h51 := rep_lam hs_ el_ h51
        clear hW hM
        have hW := hWl_; have hM := hMl_; have hQ := hQl_; clear hWl_ hMl_ hQl_
        refine ⟨_, rfl, ?_⟩
        refine ⟨ms_l, _, x46, (fun _ => False), _, rfl, hW.enter0, h51, hM, fun _ _ _ hM _ _ => hM.elim, fun x75 cl76 d77 H78 hM er79 ex80 => ?_⟩
        · skip
          replace h12 := rep_ext er79 h12
          replace h19 := rep_ext er79 h19
          replace h25 := rep_ext er79 h25
          replace h31 := rep_ext er79 h31
          replace h38 := rep_ext er79 h38
          replace h51 := rep_ext er79 h51
          replace hW := hW.ret0 er79
          exact hE_InvalidMarks x75 _ _ _ hM hW.out (excR_sub (by intro a_ h_; simp [h_]) ex80)
      · skip
        replace h12 := rep_ext e61 h12
        replace h19 := rep_ext e61 h19
        replace h25 := rep_ext e61 h25
        replace h31 := rep_ext e61 h31
        replace h38 := rep_ext e61 h38
        replace hk50 := keep_ext e61 hk50
        replace h51 := rep_ext e61 h51
        replace hW := hW.ret0 e61
        refine ⟨_, rfl, ?_⟩
        refine ⟨(by show 3 ≤ sizeLine; decide), ?_⟩
        intro p81 n85
        have e82 := Rx.Ext.new (H := H63) (o := (HO.lst [V.str ("marks" : Str), u47, V.bl true])) n85
        have hp83 : upd H63 p81 (HO.lst [V.str ("marks" : Str), u47, V.bl true]) p81 = some (HO.lst [V.str ("marks" : Str), u47, V.bl true]) := upd_same
        generalize upd H63 p81 (HO.lst [V.str ("marks" : Str), u47, V.bl true]) = H86 at e82 hp83 ⊢
        have h84 : rep ms H86 (D.lst (([(D.v (V.str ("marks" : Str))), x46, (D.v (V.bl true))] : List D).map (fun y_ : D => y_))) (.ref p81) := rep_lst_mk hW n85 e82 hp83 (repL_cons rep_v (repL_cons h51 (repL_cons rep_v repL_nil)))
        replace h12 := rep_ext e82 h12
        replace h19 := rep_ext e82 h19
        replace h25 := rep_ext e82 h25
        replace h31 := rep_ext e82 h31
        replace h38 := rep_ext e82 h38
        replace hk50 := keep_ext e82 hk50
        replace h51 := rep_ext e82 h51
        replace h60 := rep_ext e82 h60
        replace hW := hW.ret0 e82
        obtain ⟨g87, hM⟩ := hM
        apply rep_neL (ds := (r59.map fun y_ : D => y_)) (es := (([(D.v (V.str ("marks" : Str))), x46, (D.v (V.bl true))] : List D).map fun y_ : D => y_)) h60 h84 g87
        refine ⟨_, rfl, ?_⟩
        refine ite3 hM (fun hM => ?_) (fun hM => ?_)
        · skip
          exact hQ false _ _ hM hW.out rep_v
        · skip
          refine ⟨hW.pot (A.t_refused_right, some ((("_law_refused_right" : Str) ++ (".<locals>." : Str)) ++ ("<lambda>" : Str))) (List.mem_cons_of_mem _ (tm_refused_right A)), fun H88 e89_ t90 => ?_⟩
          have e89 : Ret ((ap, none) :: A.tbs) H86 H88 := Ret.upX (sub1 (List.mem_cons_of_mem _ (tm_refused_right A))) tab1 hW (ret_tab (q := ((("_law_refused_right" : Str) ++ (".<locals>." : Str)) ++ ("<lambda>" : Str))) e89_ t90)
          clear e89_ t90
          replace h12 := rep_ret hW e89 h12
          replace h19 := rep_ret hW e89 h19
          replace h25 := rep_ret hW e89 h25
          replace h31 := rep_ret hW e89 h31
          replace h38 := rep_ret hW e89 h38
          replace hk50 := keep_ret hW e89 hk50
          replace h51 := rep_ret hW e89 h51
          replace h60 := rep_ret hW e89 h60
          replace h84 := rep_ret hW e89 h84
          replace hW := hW.retP e89
          refine ⟨ms, _, _, hW.enter0, fun ms_l H96 E Q KN_ KE_InvalidMarks hs_ el_ hWl_ hMl_ hQl_ hE_InvalidMarks => ?_, hM, fun r91 u94 H95 hM e93 h92 => ?_⟩
          · skip
            replace h12 := rep_lam hs_ el_ h12
            replace h19 := rep_lam hs_ el_ h19
            replace h25 := rep_lam hs_ el_ h25
            replace h31 := rep_lam hs_ el_ h31
            replace h38 := rep_lam hs_ el_ h38
            clear hk50
            replace h51 := rep_lam hs_ el_ h51
            replace h60 := rep_lam hs_ el_ h60
            replace h84 := rep_lam hs_ el_ h84
            clear hW hM
            have hW := hWl_; have hM := hMl_; have hQ := hQl_; clear hWl_ hMl_ hQl_
            refine ⟨_, rfl, ?_⟩
            refine ⟨ms_l, _, x46, (fun _ => False), _, rfl, hW.enter0, h51, hM, fun _ _ _ hM _ _ => hM.elim, fun x107 cl108 d109 H110 hM er111 ex112 => ?_⟩
            · skip
              replace h12 := rep_ext er111 h12
              replace h19 := rep_ext er111 h19
              replace h25 := rep_ext er111 h25
              replace h31 := rep_ext er111 h31
              replace h38 := rep_ext er111 h38
              replace h51 := rep_ext er111 h51
              replace h60 := rep_ext er111 h60
              replace h84 := rep_ext er111 h84
              replace hW := hW.ret0 er111
              exact hE_InvalidMarks x107 _ _ _ hM hW.out (excR_sub (by intro a_ h_; simp [h_]) ex112)
          · skip
            replace h12 := rep_ext e93 h12
            replace h19 := rep_ext e93 h19
            replace h25 := rep_ext e93 h25
            replace h31 := rep_ext e93 h31
            replace h38 := rep_ext e93 h38
            replace hk50 := keep_ext e93 hk50
            replace h51 := rep_ext e93 h51
            replace h60 := rep_ext e93 h60
            replace h84 := rep_ext e93 h84
            replace hW := hW.ret0 e93
            refine ⟨_, rfl, ?_⟩
            refine ⟨(by show 3 ≤ sizeLine; decide), ?_⟩
            intro p113 n117
            have e114 := Rx.Ext.new (H := H95) (o := (HO.lst [V.str ("marks" : Str), u47, V.bl true])) n117
            have hp115 : upd H95 p113 (HO.lst [V.str ("marks" : Str), u47, V.bl true]) p113 = some (HO.lst [V.str ("marks" : Str), u47, V.bl true]) := upd_same
            generalize upd H95 p113 (HO.lst [V.str ("marks" : Str), u47, V.bl true]) = H118 at e114 hp115 ⊢
            have h116 : rep ms H118 (D.lst (([(D.v (V.str ("marks" : Str))), x46, (D.v (V.bl true))] : List D).map (fun y_ : D => y_))) (.ref p113) := rep_lst_mk hW n117 e114 hp115 (repL_cons rep_v (repL_cons h51 (repL_cons rep_v repL_nil)))
            replace h12 := rep_ext e114 h12
            replace h19 := rep_ext e114 h19
            replace h25 := rep_ext e114 h25
            replace h31 := rep_ext e114 h31
            replace h38 := rep_ext e114 h38
            replace hk50 := keep_ext e114 hk50
            replace h51 := rep_ext e114 h51
            replace h60 := rep_ext e114 h60
            replace h84 := rep_ext e114 h84
            replace h92 := rep_ext e114 h92
            replace hW := hW.ret0 e114
            obtain ⟨g119, hM⟩ := hM
            apply rep_neL (ds := (r91.map fun y_ : D => y_)) (es := (([(D.v (V.str ("marks" : Str))), x46, (D.v (V.bl true))] : List D).map fun y_ : D => y_)) h92 h116 g119
            refine ⟨_, rfl, ?_⟩
            refine ite3 hM (fun hM => ?_) (fun hM => ?_)
            · skip
              exact hQ false _ _ hM hW.out rep_v
            · skip
              exact hN53 () _ _ hM ⟨_, rfl, hW, hk50⟩
    · skip
      rintro s120 _ H123 hM ⟨w122, rfl, hW, hk121⟩
      replace h12 := rep_keep hk121 h12
      replace h19 := rep_keep hk121 h19
      replace h25 := rep_keep hk121 h25
      replace h31 := rep_keep hk121 h31
      replace h38 := rep_keep hk121 h38
      refine ⟨hW.pot (A.t_refused_right, some ((("_law_refused_right" : Str) ++ (".<locals>." : Str)) ++ ("<lambda>" : Str))) (List.mem_cons_of_mem _ (tm_refused_right A)), fun H124 e125_ t126 => ?_⟩
      have e125 : Ret ((ap, none) :: A.tbs) H123 H124 := Ret.upX (sub1 (List.mem_cons_of_mem _ (tm_refused_right A))) tab1 hW (ret_tab (q := ((("_law_refused_right" : Str) ++ (".<locals>." : Str)) ++ ("<lambda>" : Str))) e125_ t126)
      clear e125_ t126
      replace h12 := rep_ret hW e125 h12
      replace h19 := rep_ret hW e125 h19
      replace h25 := rep_ret hW e125 h25
      replace h31 := rep_ret hW e125 h31
      replace h38 := rep_ret hW e125 h38
      replace hW := hW.retP e125
      refine ⟨ms, _, _, hW.enter0, fun ms_l H132 E Q KN_  hs_ el_ hWl_ hMl_ hQl_  => ?_, hM, fun r127 u130 H131 hM e129 h128 => ?_⟩
      · skip
        replace h12 := rep_lam hs_ el_ h12
        replace h19 := rep_lam hs_ el_ h19
        replace h25 := rep_lam hs_ el_ h25
        replace h31 := rep_lam hs_ el_ h31
        replace h38 := rep_lam hs_ el_ h38
        clear hW hM
        have hW := hWl_; have hM := hMl_; have hQ := hQl_; clear hWl_ hMl_ hQl_
        refine ⟨_, rfl, ?_⟩
        refine ⟨ms_l, r1, _, rfl, hW.enter0, hM, fun r133 u136 H137 hM e135 h134 hfr138 => ?_⟩
        replace h12 := rep_ext e135 h12
        replace h19 := rep_ext e135 h19
        replace h25 := rep_ext e135 h25
        replace h31 := rep_ext e135 h31
        replace h38 := rep_ext e135 h38
        replace hW := hW.ret0 e135
        exact hQ r133 _ _ hM hW.out h134
      · skip
        replace h12 := rep_ext e129 h12
        replace h19 := rep_ext e129 h19
        replace h25 := rep_ext e129 h25
        replace h31 := rep_ext e129 h31
        replace h38 := rep_ext e129 h38
        replace hW := hW.ret0 e129
        refine ⟨(by show 1 ≤ sizeLine; decide), ?_⟩
        intro p139 n143
        have e140 := Rx.Ext.new (H := H131) (o := (HO.lst [V.str ("made" : Str)])) n143
        have hp141 : upd H131 p139 (HO.lst [V.str ("made" : Str)]) p139 = some (HO.lst [V.str ("made" : Str)]) := upd_same
        generalize upd H131 p139 (HO.lst [V.str ("made" : Str)]) = H144 at e140 hp141 ⊢
        have h142 : rep ms H144 (D.lst (([("made" : Str)] : List Str).map (fun y_ : Str => (D.v (V.str y_))))) (.ref p139) := rep_lst_mk hW n143 e140 hp141 (repL_cons rep_v repL_nil)
        replace h12 := rep_ext e140 h12
        replace h19 := rep_ext e140 h19
        replace h25 := rep_ext e140 h25
        replace h31 := rep_ext e140 h31
        replace h38 := rep_ext e140 h38
        replace h128 := rep_ext e140 h128
        replace hW := hW.ret0 e140
        obtain ⟨g145, hM⟩ := hM
        apply rep_eqD (d := (D.lst (r127.map (fun y_ : Str => (D.v (V.str y_)))))) (e := (D.lst (([("made" : Str)] : List Str).map (fun y_ : Str => (D.v (V.str y_)))))) h128 h142 g145.1 g145.2.1 g145.2.2.1 g145.2.2.2
        exact hQ (PyData.eqv (pyOf (D.lst (r127.map (fun y_ : Str => (D.v (V.str y_)))))) (pyOf (D.lst (([("made" : Str)] : List Str).map (fun y_ : Str => (D.v (V.str y_))))))) _ _ hM hW.out rep_v
def M_right (KM : Bool → Prop) : Prop :=
  (M_pick ([(1 : Int), (3 : Int), (12 : Int), (400 : Int)] : List Int) fun r7 => (M_marks r7 fun r12 => (M_marks (12 : Int) fun r17 => (M_row_right r12 fun r22 => (if (!r22) = true then (KM false) else (M_row_right r17 fun r27 => (if (!r27) = true then (KM false) else (M_joined_right r12 r17 fun r32 => (if (!r32) = true then (KM false) else (M_joined_right r17 r12 fun r37 => (if r37 = true then (M_rows_of_others_right  fun r42 => (if r42 = true then (M_refused_right  fun r47 => (KM r47)) else (KM false))) else (KM false))))))))))))
def sp_right (A : Ad) : Sp := fun vs H Q _ => ∃ (ms : List Addr) (ap : Addr) (KM : Bool → Prop), vs = [.ref ap] ∧ Wd ms ((ap, none) :: A.tbs) [] H H ∧ M_right  KM ∧ ∀ (r : Bool) (u : V) (H1 : Hp), KM r → Ret ((ap, none) :: A.tbs) H H1 → rep ms H1 (D.v (V.bl r)) u → Q u H1
set_option maxHeartbeats 16000000 in
theorem ok_right {P : Program} {w : World} {K : PySem.W.Frag} {mg : Str → Option Value} {base : Heap} {A : Ad} (T : Txt w K mg base A) : FnG P w K mg base 9 A.a_right A.d_right ["_law_pot_here"] (sp_right A) := by
  refine okG T.F_right sc_right (fun vs H Q E h => ?_) (fun cdv A_ outer s_ H_0 vs Q E gu hr h => ?_)
  · obtain ⟨ms, ap, KM, rfl, _⟩ := h
    rfl
  · obtain ⟨ms, ap, KM, rfl, hW, hM, hQ⟩ := h
    unfold M_right at hM
    refine ⟨_, (pss_cons (ps_par (i := 1) (j := 2) (by rfl) sc_right.nd rfl rfl (by decide) rfl rfl (pa_cons (pe_call (ok_marks T) (hr.mono (by decide)) (by rfl) T.g_marks T.F_marks.kp T.b_marks .nil pass0 (pa_cons (pv 0) (pa_cons (pe_call (ok_pick T) (hr.mono (by decide)) (by rfl) T.g_pick T.F_pick.kp T.b_pick .nil pass0 (pa_cons (pv 0) (pa_cons (pe_lst (pa_cons pe_int (pa_cons pe_int (pa_cons pe_int (pa_cons pe_int pa_nil))))) pa_nil))) pa_nil))) (pa_cons (pe_call (ok_marks T) (hr.mono (by decide)) (by rfl) T.g_marks T.F_marks.kp T.b_marks .nil pass0 (pa_cons (pv 0) (pa_cons pe_int pa_nil))) pa_nil)) (by rfl)) (pss_cons (ps_if (PW.pt (pw_or (pt_not (pt_val (pe_call (ok_row_right T) (hr.mono (by decide)) (by rfl) T.g_row_right T.F_row_right.kp T.b_row_right .nil pass0 (pa_cons (pv 1) pa_nil)))) (pw_or (pt_not (pt_val (pe_call (ok_row_right T) (hr.mono (by decide)) (by rfl) T.g_row_right T.F_row_right.kp T.b_row_right .nil pass0 (pa_cons (pv 2) pa_nil)))) (pw_or1 (pt_not (pt_val (pe_call (ok_joined_right T) (hr.mono (by decide)) (by rfl) T.g_joined_right T.F_joined_right.kp T.b_joined_right .nil pass0 (pa_cons (pv 1) (pa_cons (pv 2) pa_nil))))))))) (pss_one (ps_ret pe_bl)) pss_nil) (pss_one (ps_ret (pe_and (pe_call (ok_joined_right T) (hr.mono (by decide)) (by rfl) T.g_joined_right T.F_joined_right.kp T.b_joined_right .nil pass0 (pa_cons (pv 2) (pa_cons (pv 1) pa_nil))) (pe_and (pe_call (ok_rows_of_others_right T) (hr.mono (by decide)) (by rfl) T.g_rows_of_others_right T.F_rows_of_others_right.kp T.b_rows_of_others_right .nil pass0 (pa_cons (pv 0) pa_nil)) (pe_one (pe_callG (ok_refused_right T) gu (hr.mono (by decide)) (by rfl) T.g_refused_right T.F_refused_right.kp T.b_refused_right (pa_cons (pv 0) pa_nil))))))))), ?_⟩
    refine ⟨_, rfl, ?_⟩
    refine ⟨_, rfl, ?_⟩
    refine ⟨(by show 4 ≤ sizeLine; decide), ?_⟩
    intro p1 n5
    have e2 := Rx.Ext.new (H := H_0) (o := (HO.lst [V.int (1 : Int), V.int (3 : Int), V.int (12 : Int), V.int (400 : Int)])) n5
    have hp3 : upd H_0 p1 (HO.lst [V.int (1 : Int), V.int (3 : Int), V.int (12 : Int), V.int (400 : Int)]) p1 = some (HO.lst [V.int (1 : Int), V.int (3 : Int), V.int (12 : Int), V.int (400 : Int)]) := upd_same
    generalize upd H_0 p1 (HO.lst [V.int (1 : Int), V.int (3 : Int), V.int (12 : Int), V.int (400 : Int)]) = H6 at e2 hp3 ⊢
    have h4 : rep ms H6 (D.lst (([(1 : Int), (3 : Int), (12 : Int), (400 : Int)] : List Int).map (fun y_ : Int => (D.v (V.int y_))))) (.ref p1) := rep_lst_mk hW n5 e2 hp3 (repL_cons rep_v (repL_cons rep_v (repL_cons rep_v (repL_cons rep_v repL_nil))))
    replace hW := hW.ret0 e2
    refine ⟨ms, ap, _, ([(1 : Int), (3 : Int), (12 : Int), (400 : Int)] : List Int), _, rfl, (hW.enterS (by simp)), h4, hM, fun r7 u10 H11 hM e9 h8 => ?_⟩
    replace e9 := Ret.upS (by simp) (by simp) hW e9
    replace h4 := rep_ret hW e9 h4
    replace hW := hW.retP e9
    obtain rfl := of_v h8
    refine ⟨ms, ap, r7, _, rfl, (hW.enterS (by simp)), hM, fun r12 u15 H16 hM e14 h13 => ?_⟩
    replace e14 := Ret.upS (by simp) (by simp) hW e14
    replace h4 := rep_ret hW e14 h4
    replace hW := hW.retP e14
    obtain rfl := of_v h13
    refine ⟨_, rfl, ?_⟩
    refine ⟨ms, ap, (12 : Int), _, rfl, (hW.enterS (by simp)), hM, fun r17 u20 H21 hM e19 h18 => ?_⟩
    replace e19 := Ret.upS (by simp) (by simp) hW e19
    replace h4 := rep_ret hW e19 h4
    replace hW := hW.retP e19
    obtain rfl := of_v h18
    refine ⟨_, _, rfl, ?_⟩
    refine ⟨_, rfl, ?_⟩
    refine ⟨ms, r12, _, rfl, hW.enter0, hM, fun r22 u25 H26 hM e24 h23 => ?_⟩
    replace h4 := rep_ext e24 h4
    replace hW := hW.ret0 e24
    obtain rfl := of_v h23
    refine ⟨_, rfl, ?_⟩
    refine ite3 hM (fun hM => ?_) (fun hM => ?_)
    · skip
      refine iteT ?_
      exact hQ false _ _ hM hW.out rep_v
    · skip
      refine ⟨_, rfl, ?_⟩
      refine ⟨ms, r17, _, rfl, hW.enter0, hM, fun r27 u30 H31 hM e29 h28 => ?_⟩
      replace h4 := rep_ext e29 h4
      replace hW := hW.ret0 e29
      obtain rfl := of_v h28
      refine ⟨_, rfl, ?_⟩
      refine ite3 hM (fun hM => ?_) (fun hM => ?_)
      · skip
        refine iteT ?_
        exact hQ false _ _ hM hW.out rep_v
      · skip
        refine ⟨_, rfl, ?_⟩
        refine ⟨_, rfl, ?_⟩
        refine ⟨ms, r12, r17, _, rfl, hW.enter0, hM, fun r32 u35 H36 hM e34 h33 => ?_⟩
        replace h4 := rep_ext e34 h4
        replace hW := hW.ret0 e34
        obtain rfl := of_v h33
        refine ⟨_, rfl, ?_⟩
        refine ite3 hM (fun hM => ?_) (fun hM => ?_)
        · skip
          exact hQ false _ _ hM hW.out rep_v
        · skip
          refine ⟨_, rfl, ?_⟩
          refine ⟨_, rfl, ?_⟩
          refine ⟨ms, r17, r12, _, rfl, hW.enter0, hM, fun r37 u40 H41 hM e39 h38 => ?_⟩
          replace h4 := rep_ext e39 h4
          replace hW := hW.ret0 e39
          obtain rfl := of_v h38
          refine ⟨_, rfl, ?_⟩
          refine ite3 hM (fun hM => ?_) (fun hM => ?_)
          · skip
            refine ⟨_, rfl, ?_⟩
            refine ⟨ms, ap, _, rfl, (hW.enterS (by simp)), hM, fun r42 u45 H46 hM e44 h43 => ?_⟩
            replace e44 := Ret.upS (by simp) (by simp) hW e44
            replace h4 := rep_ret hW e44 h4
            replace hW := hW.retP e44
            obtain rfl := of_v h43
            refine ⟨_, rfl, ?_⟩
            refine ite3 hM (fun hM => ?_) (fun hM => ?_)
            · skip
              refine ⟨_, rfl, ?_⟩
              refine ⟨ms, ap, _, rfl, hW.enterP, hM, fun r47 u50 H51 hM e49 h48 => ?_⟩
              replace h4 := rep_ret hW e49 h4
              replace hW := hW.retP e49
              obtain rfl := of_v h48
              exact hQ r47 _ _ hM hW.out rep_v
            · skip
              exact hQ false _ _ hM hW.out rep_v
          · skip
            exact hQ false _ _ hM hW.out rep_v
/-! ### the pot of a cell, and the law -/
def sp_pot (K : PySem.W.Frag) : Sp := fun vs H Q _ => ∃ (a : Addr) (ns : List Int) (k : Int), vs = [.ref a, .int k] ∧ SqL K H a (ns.map V.int) ∧ ns.length ≤ 63 ∧ 0 ≤ k ∧ k ≤ 100 ∧
  ∀ (p : Addr) (H1 : Hp) (i j : Int), H p = none → Rx.Ext H H1 → H1 p = some (.lst [.int i, .int j]) → j.natAbs < 4294967296 → Q (.ref p) H1
theorem ok_pot {P : Program} {w : World} {K : PySem.W.Frag} {mg : Str → Option Value} {base : Heap} {A : Ad} (T : Txt w K mg base A) : FnOk P w K mg base CX0 1 A.a_pot A.d_pot ["_law_script", "_law_k"] (sp_pot K) := by
  refine T.F_pot.ok sc_pot (fun vs H Q E h => ?_) (fun cdv A_ outer s_ H_0 vs Q E hr h => ?_)
  · obtain ⟨a, ns, k, rfl, _⟩ := h
    rfl
  · obtain ⟨a, ns, k, rfl, hS, hl, k0, k1, hQ⟩ := h
    refine ⟨_, pss_cons (ps_set (i := 2) sc_pot.nd rfl (.inl rfl) (pe_op op_add (pe_op op_mul pe_int (pv 1)) pe_int))
      (pss_cons (ps_if (pt_cmpR op_lt (pv 1) (pe_callB call_len (by rfl) T.z_len PySem.boot_len (pa_cons (pv 0) pa_nil)) (nomark _))
        (pss_one (ps_set (i := 2) sc_pot.nd rfl (.inl rfl) (pe_callB call_abs (by rfl) T.z_abs (by decide +kernel) (pa_cons (pe_ix ix_list (pv 0) (pv 1) (fun _ _ => rfl)) pa_nil)))) pss_nil)
      (pss_one (ps_ret (pe_lst (pa_cons (pe_callB (call_max2 rfl) (by rfl) T.z_max (by decide +kernel) (pa_cons pe_int (pa_cons (pe_op op_sub (pv 2) (pe_op op_pow pe_int pe_int)) pa_nil)))
        (pa_cons (pe_op op_add (pe_op op_mod (pe_op op_mul (pe_callTy call_int1 (by rfl) T.z_int (by decide +kernel) (pa_cons (pe_op op_add (pe_op op_mod (pe_callTy call_int1 (by rfl) T.z_int (by decide +kernel) (pa_cons (pv 2) pa_nil)) pe_int) pe_int) pa_nil))
          (pe_op op_pow (pe_op op_add (pe_op op_mul pe_int (pv 1)) pe_int) pe_int)) pe_int) pe_int) pa_nil)))))), ?_⟩
    refine ⟨_, rfl, _, _, rfl, rfl, .inl ⟨by decide, by decide⟩, _, _, rfl, rfl, ?_⟩
    refine ⟨_, rfl, _, rfl, _, ns.length, rfl, .inl ⟨_, hS, by rw [List.length_map]⟩, _, _, rfl, rfl, _, rfl, ?_⟩
    have fin : ∀ (c : Int) (p : Addr) (x y : Int), H_0 p = none → Q (.ref p) (upd H_0 p (.lst [.int x, .int (y % 2147483477 + 1)])) := fun c p x y np =>
      hQ p _ _ _ np (Rx.Ext.new np) upd_same (by omega)
    refine ite2 (fun c => ?_) (fun c => ?_)
    · have hk : k.toNat < ns.length := by
        have := of_decide_eq_true c
        omega
      refine ⟨_, rfl, _, rfl, a, _, k, .int (ns[k.toNat]), rfl, rfl, hS, at_of (j := k.toNat) (by omega) (by rw [List.getElem?_map, List.getElem?_eq_getElem hk]; rfl), _, rfl, ?_⟩
      refine ⟨_, rfl, _, _, rfl, rfl, ⟨by decide, by decide, by decide⟩, _, _, rfl, rfl, _, _, rfl, _, rfl, .inl ⟨_, rfl, _, _, rfl, rfl, (by show (0 : Int) < 2147483549; decide), _, _, rfl, rfl, .inl ⟨_, rfl, _, rfl, _, _, rfl, rfl, .inl ⟨by decide, by decide⟩, _, _, rfl, rfl, _, _, rfl, rfl, ⟨by decide, by decide, by show (2 * k + 3).natAbs < 2 ^ 64; omega⟩, _, _, rfl, rfl, ?_, _, _, rfl, rfl, (by show (0 : Int) < 2147483477; decide), _, _, rfl, rfl, (by show 2 ≤ sizeLine; decide), fun p np => fin 0 p _ _ np⟩⟩⟩
      exact .inl ⟨by omega, by omega⟩
    · refine ⟨_, rfl, _, _, rfl, rfl, ⟨by decide, by decide, by decide⟩, _, _, rfl, rfl, _, _, rfl, _, rfl, .inl ⟨_, rfl, _, _, rfl, rfl, (by show (0 : Int) < 2147483549; decide), _, _, rfl, rfl, .inl ⟨_, rfl, _, rfl, _, _, rfl, rfl, .inl ⟨by decide, by decide⟩, _, _, rfl, rfl, _, _, rfl, rfl, ⟨by decide, by decide, by show (2 * k + 3).natAbs < 2 ^ 64; omega⟩, _, _, rfl, rfl, ?_, _, _, rfl, rfl, (by show (0 : Int) < 2147483477; decide), _, _, rfl, rfl, (by show 2 ≤ sizeLine; decide), fun p np => fin 0 p _ _ np⟩⟩⟩
      exact .inl ⟨by omega, by omega⟩

open Wm
set_option exponentiation.threshold 20000
/-! lengths of runs -/
def bump : List Int → List Int
  | [] => []
  | x :: xs => (x + 1) :: xs
def rl : List Nat → List Int
  | [] => []
  | [_] => [1]
  | a :: b :: cs => if a = b then bump (rl (b :: cs)) else 1 :: rl (b :: cs)
theorem rl3 (a b : Nat) (cs : List Nat) : rl (a :: b :: cs) = if a = b then bump (rl (b :: cs)) else 1 :: rl (b :: cs) := by rw [rl]
theorem filMap_congr {α β : Type} {f g : α → Option β} : ∀ {l : List α}, (∀ x ∈ l, f x = g x) → l.filterMap f = l.filterMap g
  | [], _ => rfl
  | x :: l, h => by rw [List.filterMap_cons, List.filterMap_cons, h x List.mem_cons_self, filMap_congr fun y hy => h y (List.mem_cons_of_mem _ hy)]
theorem rl_cons : ∀ (a : Nat) (cs : List Nat), ∃ x xs, rl (a :: cs) = x :: xs
  | a, [] => ⟨1, [], rfl⟩
  | a, b :: cs => by
    obtain ⟨x, xs, e⟩ := rl_cons b cs
    by_cases h : a = b
    · exact ⟨x + 1, xs, by rw [rl3, if_pos h, e]; rfl⟩
    · exact ⟨1, rl (b :: cs), by rw [rl3, if_neg h]⟩
theorem bump_sum (x : Int) (xs : List Int) : (bump (x :: xs)).sum = (x :: xs).sum + 1 := by
  simp only [bump, List.sum_cons]
  omega
theorem rl_sum : ∀ s : List Nat, (rl s).sum = (s.length : Int)
  | [] => rfl
  | [_] => rfl
  | a :: b :: cs => by
    have ih := rl_sum (b :: cs)
    obtain ⟨x, xs, e⟩ := rl_cons b cs
    by_cases h : a = b
    · rw [rl3, if_pos h, e, bump_sum, ← e, ih]
      simp
    · rw [rl3, if_neg h, List.sum_cons, ih]
      simp only [List.length_cons]
      omega
theorem rl_map (f : Nat → Nat) : ∀ s : List Nat, (∀ a ∈ s, ∀ b ∈ s, f a = f b → a = b) → rl (s.map f) = rl s
  | [], _ => rfl
  | [_], _ => rfl
  | a :: b :: cs, h => by
    have ih := rl_map f (b :: cs) fun x hx y hy => h x (List.mem_cons_of_mem _ hx) y (List.mem_cons_of_mem _ hy)
    show rl (f a :: f b :: cs.map f) = _
    have ih' : rl (f b :: cs.map f) = rl (b :: cs) := ih
    by_cases e : a = b
    · rw [rl3, rl3, if_pos e, if_pos (congrArg f e), ih']
    · rw [rl3, rl3, if_neg e, if_neg fun z => e (h a (by simp) b (by simp) z), ih']
/-- two lists of runs, the last of one and the first of the other one run -/
def jn : List Int → List Int → List Int
  | [], ys => ys
  | [x], y :: ys => (x + y) :: ys
  | [x], [] => [x]
  | x :: x' :: xs, ys => x :: jn (x' :: xs) ys
theorem jn_snoc (x y : Int) (ys : List Int) : ∀ l : List Int, jn (l ++ [x]) (y :: ys) = l ++ (x + y) :: ys
  | [] => rfl
  | [a] => rfl
  | a :: b :: l => by
    show a :: jn (b :: l ++ [x]) (y :: ys) = _
    rw [jn_snoc x y ys (b :: l)]
    rfl
theorem jn_bump (y : Int) (ys : List Int) : ∀ (x : Int) (xs : List Int), jn (bump (x :: xs)) (y :: ys) = bump (jn (x :: xs) (y :: ys))
  | x, [] => by
    show [x + 1 + y] ++ ys = [x + y + 1] ++ ys
    rw [show x + 1 + y = x + y + 1 from by omega]
  | x, x' :: xs => rfl
theorem rl_app_eq (b : Nat) (t : List Nat) : ∀ (s : List Nat), s.getLast? = some b → rl (s ++ b :: t) = jn (rl s) (rl (b :: t))
  | [], h => by cases h
  | [a], h => by
    obtain rfl : a = b := by simpa using h
    obtain ⟨x, xs, e⟩ := rl_cons a t
    show rl (a :: a :: t) = jn [1] _
    rw [rl3, if_pos rfl, e]
    show (x + 1) :: xs = (1 + x) :: xs
    rw [Int.add_comm]
  | a :: a' :: s, h => by
    have ih := rl_app_eq b t (a' :: s) (by rw [List.getLast?_cons_cons] at h; exact h)
    obtain ⟨x, xs, e⟩ := rl_cons a' s
    obtain ⟨y, ys, e2⟩ := rl_cons b t
    show rl (a :: a' :: (s ++ b :: t)) = _
    have ih' : rl (a' :: (s ++ b :: t)) = jn (rl (a' :: s)) (rl (b :: t)) := ih
    by_cases c : a = a'
    · rw [rl3, rl3, if_pos c, if_pos c, ih', e, e2, jn_bump]
    · rw [rl3, rl3, if_neg c, if_neg c, ih', e]
      rfl
theorem rl_app_ne (a b : Nat) (t : List Nat) (ab : a ≠ b) : ∀ (s : List Nat), s.getLast? = some a → rl (s ++ b :: t) = rl s ++ rl (b :: t)
  | [], h => by cases h
  | [a'], h => by
    obtain rfl : a' = a := by simpa using h
    show rl (a' :: b :: t) = _
    rw [rl3, if_neg ab]
    rfl
  | a1 :: a2 :: s, h => by
    have ih : rl (a2 :: (s ++ b :: t)) = rl (a2 :: s) ++ rl (b :: t) := rl_app_ne a b t ab (a2 :: s) (by rw [List.getLast?_cons_cons] at h; exact h)
    obtain ⟨x, xs, e⟩ := rl_cons a2 s
    show rl (a1 :: a2 :: (s ++ b :: t)) = _
    by_cases c : a1 = a2
    · rw [rl3, rl3, if_pos c, if_pos c, ih, e]
      rfl
    · rw [rl3, rl3, if_neg c, if_neg c, ih]
      rfl
theorem rl_rev : ∀ s : List Nat, rl s.reverse = (rl s).reverse
  | [] => rfl
  | [_] => rfl
  | a :: b :: cs => by
    have ih := rl_rev (b :: cs)
    obtain ⟨x, xs, e⟩ := rl_cons b cs
    have gl : (b :: cs).reverse.getLast? = some b := by simp
    rw [List.reverse_cons]
    by_cases c : a = b
    · subst c
      rw [rl_app_eq a [] _ gl, ih, rl3, if_pos rfl, e]
      show jn ((x :: xs).reverse) [1] = (bump (x :: xs)).reverse
      rw [List.reverse_cons, jn_snoc]
      simp [bump]
    · rw [rl_app_ne b a [] (fun z => c z.symm) _ gl, ih, rl3, if_neg c, List.reverse_cons]
      rfl
/-- differences of neighbours -/
def dif : List Int → List Int
  | x :: y :: r => (y - x) :: dif (y :: r)
  | _ => []
theorem dif_shift : ∀ l : List Int, dif (l.map (· + 1)) = dif l
  | [] => rfl
  | [_] => rfl
  | x :: y :: r => by
    show (y + 1 - (x + 1)) :: dif ((y :: r).map (· + 1)) = (y - x) :: dif (y :: r)
    rw [dif_shift (y :: r), show y + 1 - (x + 1) = y - x from by omega]
/-- where the sign turns -/
def cuts (s : List Nat) : List Int := (rangeI 1 (s.length : Int)).filterMap fun i => if s[i.toNat]? = s[(i - 1).toNat]? then none else some i
theorem rangeI_1 (n : Nat) : rangeI 1 ((n : Int) + 1) = (List.range n).map fun i : Nat => (i : Int) + 1 := by
  unfold rangeI
  rw [show ((n : Int) + 1 - 1).toNat = n from by omega]
  exact List.map_congr_left fun i _ => Int.add_comm _ _
theorem cuts_cons (a b : Nat) (cs : List Nat) : cuts (a :: b :: cs) = (if a = b then [] else [1]) ++ (cuts (b :: cs)).map (· + 1) := by
  unfold cuts
  have e1 : rangeI 1 ((a :: b :: cs).length : Int) = 1 :: (rangeI 1 ((b :: cs).length : Int)).map (· + 1) := by
    rw [show ((a :: b :: cs).length : Int) = ((cs.length + 1 : Nat) : Int) + 1 from by simp, rangeI_1, show ((b :: cs).length : Int) = (cs.length : Int) + 1 from by simp, rangeI_1, List.range_succ_eq_map, List.map_cons, List.map_map, List.map_map]
    refine congrArg (List.cons (1 : Int)) (List.map_congr_left fun i _ => ?_)
    rfl
  have e2 : (rangeI 1 ((b :: cs).length : Int)).filterMap ((fun i : Int => if (a :: b :: cs)[i.toNat]? = (a :: b :: cs)[(i - 1).toNat]? then none else some i) ∘ (· + 1)) = ((rangeI 1 ((b :: cs).length : Int)).filterMap fun i => if (b :: cs)[i.toNat]? = (b :: cs)[(i - 1).toNat]? then none else some i).map (· + 1) := by
    rw [List.map_filterMap]
    refine filMap_congr fun i hi => ?_
    have := rangeI_mem hi
    have p1 : (a :: b :: cs)[(i + 1).toNat]? = (b :: cs)[i.toNat]? := by rw [show (i + 1).toNat = i.toNat + 1 from by omega]; rfl
    have p2 : (a :: b :: cs)[(i + 1 - 1).toNat]? = (b :: cs)[(i - 1).toNat]? := by rw [show (i + 1 - 1).toNat = (i - 1).toNat + 1 from by omega]; rfl
    show (if (a :: b :: cs)[(i + 1).toNat]? = (a :: b :: cs)[(i + 1 - 1).toNat]? then none else some (i + 1)) = _
    rw [p1, p2]
    split
    · rfl
    · rfl
  rw [e1, List.filterMap_cons, List.filterMap_map, e2]
  have g1 : (if (a :: b :: cs)[Int.toNat 1]? = (a :: b :: cs)[(1 - 1 : Int).toNat]? then none else some (1 : Int)) = if a = b then none else some 1 := by
    show (if some b = some a then none else some (1 : Int)) = _
    by_cases c : a = b
    · simp [c]
    · have c' : ¬ b = a := fun z => c z.symm
      simp [c, c']
  rw [g1]
  by_cases c : a = b
  · subst c
    simp
  · have c' : ¬ b = a := fun z => c z.symm
    simp [c, c']
theorem dif_cuts : ∀ (a : Nat) (cs : List Nat), dif (0 :: (cuts (a :: cs) ++ [((a :: cs).length : Int)])) = rl (a :: cs)
  | a, [] => rfl
  | a, b :: cs => by
    have ih := dif_cuts b cs
    have e : ((a :: b :: cs).length : Int) = ((b :: cs).length : Int) + 1 := by simp
    have em : (cuts (b :: cs)).map (· + 1) ++ [((b :: cs).length : Int) + 1] = (cuts (b :: cs) ++ [((b :: cs).length : Int)]).map (· + 1) := by simp
    rw [cuts_cons, e, List.append_assoc, em]
    generalize hX : cuts (b :: cs) ++ [((b :: cs).length : Int)] = X at ih
    by_cases c : a = b
    · rw [rl3, if_pos c, if_pos c, ← ih]
      cases X with
      | nil => simp at hX
      | cons x xs =>
        show (x + 1 - 0) :: dif ((x :: xs).map (· + 1)) = bump ((x - 0) :: dif (x :: xs))
        rw [dif_shift]
        show _ = (x - 0 + 1) :: _
        rw [show x + 1 - 0 = x - 0 + 1 from by omega]
    · rw [rl3, if_neg c, if_neg c, ← ih]
      show dif (0 :: 1 :: X.map (· + 1)) = 1 :: dif (0 :: X)
      have : (1 : Int) :: X.map (· + 1) = (0 :: X).map (· + 1) := rfl
      rw [this]
      show _ = 1 :: dif (0 :: X)
      rw [← dif_shift (0 :: X)]
      rfl
theorem dif_range : ∀ l : List Int, (List.range (l.length - 1)).map (fun i => l.getD (i + 1) 0 - l.getD i 0) = dif l
  | [] => rfl
  | [_] => rfl
  | x :: y :: r => by
    have ih := dif_range (y :: r)
    show (List.range (r.length + 1)).map _ = (y - x) :: dif (y :: r)
    rw [List.range_succ_eq_map, List.map_cons, List.map_map, ← ih]
    rfl
theorem dif_zip (n : Int) : ∀ (c : List Int) (x : Int), (List.zip (x :: c) (c ++ [n])).map (fun p => p.2 - p.1) = dif (x :: (c ++ [n]))
  | [], x => rfl
  | y :: c, x => by
    show (y - x) :: (List.zip (y :: c) (c ++ [n])).map (fun p => p.2 - p.1) = _
    rw [dif_zip n c y]
    rfl
theorem rl_len_le : ∀ s : List Nat, (rl s).length ≤ s.length
  | [] => Nat.le_refl _
  | [_] => Nat.le_refl _
  | a :: b :: cs => by
    have ih := rl_len_le (b :: cs)
    obtain ⟨x, xs, e⟩ := rl_cons b cs
    by_cases c : a = b
    · rw [rl3, if_pos c]
      rw [e] at ih ⊢
      simp only [bump, List.length_cons] at ih ⊢
      omega
    · rw [rl3, if_neg c]
      simp only [List.length_cons] at ih ⊢
      omega
theorem sum_less : ∀ l : List Int, (l.map (· - 1)).sum = l.sum - l.length
  | [] => rfl
  | x :: l => by
    rw [List.map_cons, List.sum_cons, sum_less l, List.sum_cons]
    simp only [List.length_cons]
    omega
abbrev MkN (l : List Nat) : Prop := ∀ c ∈ l, c = 104 ∨ c = 97
structure WV (w : Str × Str × Str) : Prop where
  h4 : (L w.1).length ≤ 4
  m1 : 1 ≤ (L w.2.1).length
  m4 : (L w.2.1).length ≤ 4
  t4 : (L w.2.2).length ≤ 4
  mh : ∀ c ∈ L w.1, c = 104 ∨ c = 97
  mm : ∀ c ∈ L w.2.1, c = 104 ∨ c = 97
  mt : ∀ c ∈ L w.2.2, c = 104 ∨ c = 97
theorem line_of {z : Str} {n : Nat} (h : (L z).length ≤ n) (hn : n ≤ 100000) : z.length ≤ sizeLine := by
  rw [len_L]
  exact Nat.le_trans h (Nat.le_trans hn (by decide))
theorem line4 {z : Str} (h : (L z).length ≤ 4) : z.length ≤ sizeLine := line_of h (by decide)
def lst (w : Str × Str × Str) : Int := if ((L w.1).length : Int) + (L w.2.2).length > 1 then ((L w.1).length : Int) + (L w.2.2).length else 1
theorem lst_ge {w : Str × Str × Str} : ((L w.1).length : Int) + (L w.2.2).length ≤ lst w ∧ 1 ≤ lst w := by
  unfold lst
  split <;> omega
theorem lst_le {w : Str × Str × Str} (hw : WV w) : lst w ≤ 8 := by
  have := hw.h4
  have := hw.t4
  unfold lst
  split <;> omega
theorem wleast_ok {w : Str × Str × Str} (hw : WV w) {k : Int → Prop} (q : k (lst w)) : M_Word_least w k := by
  unfold M_Word_least
  refine ⟨line4 hw.h4, line4 hw.t4, ?_⟩
  rw [len_L, len_L]
  exact q
theorem checkp_ok {w : Str × Str × Str} (hw : WV w) {n : Int} (hn : lst w ≤ n) {k : Unit → Prop} (q : k ()) : M_check_places w n k := by
  unfold M_check_places M_is_integer
  show (if (!!false) = true then _ else _)
  rw [if_neg (by decide)]
  refine wleast_ok hw ?_
  rw [if_neg (by simpa using hn)]
  exact q
abbrev rw_ (w : Str × Str × Str) (n : Int) : List Nat := row (L w.1) (L w.2.1) (L w.2.2) n.toNat
theorem rw_len {w : Str × Str × Str} {n : Int} (hn : lst w ≤ n) : (rw_ w n).length = n.toNat := row_len (by
  have := @lst_ge w
  omega)
theorem at_nat' {α : Type} {xs : List α} {i : Int} {c : α} (h0 : 0 ≤ i) (h : xs[i.toNat]? = some c) : atI xs i = some c := by
  rw [show i = ((i.toNat : Nat) : Int) by omega]
  exact atI_nat h
theorem draw_ok {n : Int} {k : Int → Prop} (h0 : 0 < n) (h1 : n < 1073741824) (q : ∀ d, 0 ≤ d → d < n → k d) : M_draw n k := ⟨⟨h0, h1⟩, q⟩
theorem str1 (c : Nat) : (Str.mk #[c]).length = 1 := rfl
theorem word_ok {w : Str × Str × Str} (hw : WV w) {k : Str × Str × Str → Prop} (q : k w) : M_Word_init w.1 w.2.1 w.2.2 k := by
  have one : ∀ {z : Str} {k : Unit → Prop}, (L z).length ≤ 4 → (∀ c ∈ L z, c = 104 ∨ c = 97) → k () → M_check_part z k := fun {z k} h4 hm q => by
    unfold M_check_part M_is_marks
    refine ⟨line4 h4, ?_⟩
    rw [count_h, count_a, marks_all _ hm, len_L]
    show (if (!decide (V.int _ = V.int _)) = true then _ else _)
    rw [if_neg (by simp)]
    refine ⟨line4 h4, ?_⟩
    rw [if_neg (by simp only [decide_eq_true_eq]; omega)]
    exact q
  unfold M_Word_init
  refine one hw.h4 hw.mh (one hw.m4 hw.mm ?_)
  rw [if_neg]
  · exact one hw.t4 hw.mt q
  · rw [eqS, L_empty]
    have := hw.m1
    simp
    intro z
    rw [show L w.2.1 = [] from by rw [L, z]] at this
    simp at this
def S (l : List Nat) : Str := ⟨l.toArray⟩
theorem L_S (l : List Nat) : L (S l) = l := L_mk l
theorem S_L (z : Str) : S (L z) = z := mk_L z
theorem cyc_mk {m : List Nat} (hm : 0 < m.length) (mk : MkN m) (k : Nat) : MkN (cyc m k) := fun c hc => by
  unfold cyc at hc
  obtain ⟨j, _, e⟩ := List.mem_map.mp hc
  rw [← e, List.getD_eq_getElem?_getD, List.getElem?_eq_getElem (Nat.mod_lt j hm)]
  exact mk _ (List.getElem_mem _)
theorem mul_L (x : Str) {k : Nat} (hk : 1 ≤ k) : L (Txt.mul x (k : Int)) = (List.replicate k (L x)).flatten := by
  unfold Txt.mul
  rw [if_neg (by omega)]
  by_cases c : (((k : Int) == 1) || x.length == 0) = true
  · rw [if_pos c]
    simp only [Bool.or_eq_true, beq_iff_eq] at c
    rcases c with c | c
    · have : k = 1 := by omega
      subst this
      simp
    · rw [len_L] at c
      rw [List.length_eq_zero_iff.mp c]
      simp
  · rw [if_neg c, Int.toNat_natCast]
    have go : ∀ (n : Nat) (acc : Array Nat), ((List.replicate n x.cps).foldl (· ++ ·) acc).toList = acc.toList ++ (List.replicate n x.cps.toList).flatten := by
      intro n
      induction n with
      | zero => intro acc; simp
      | succ n ih =>
        intro acc
        rw [List.replicate_succ, List.foldl_cons, ih, List.replicate_succ, List.flatten_cons, Array.toList_append, List.append_assoc]
    have := go k #[]
    simpa [L] using this
theorem mul_L0 (x : Str) (k : Nat) : L (Txt.mul x (k : Int)) = (List.replicate k (L x)).flatten := by
  cases k with
  | zero =>
    unfold Txt.mul
    rw [if_pos (by omega)]
    rfl
  | succ k => exact mul_L x (by omega)
theorem mulok0 {x : Str} {k : Nat} (h : (L x).length ≤ 4) (hk : k ≤ 1000) : MulOk x (k : Int) := by
  have hl : x.length ≤ 4 := by rw [len_L]; exact h
  refine ⟨?_, fun h1 _ => ?_, fun h1 _ => ?_⟩
  · rw [Bool.or_eq_false_iff, decide_eq_false_iff_not, decide_eq_false_iff_not]
    omega
  · have a : (4 : Int) ≤ (2 ^ 63 - 1) / (k : Int) := Int.le_ediv_of_mul_le (by omega) (by omega)
    have : (x.length : Int) ≤ 4 := by omega
    omega
  · unfold Builtin.Str.tooLong
    rw [decide_eq_false_iff_not, Int.toNat_natCast]
    have e : sizeLine = 16777216 := sizeLine_eq
    have : x.length * k ≤ 4 * 1000 := Nat.mul_le_mul hl hk
    omega
theorem cyc_rep {m : List Nat} (hm : 0 < m.length) : ∀ k : Nat, (List.replicate k m).flatten = cyc m (k * m.length)
  | 0 => by rw [Nat.zero_mul]; rfl
  | k + 1 => by
    rw [List.replicate_succ, List.flatten_cons, cyc_rep hm k, Nat.succ_mul, Nat.add_comm, cyc_add hm]
theorem wrow_ok {w : Str × Str × Str} (hw : WV w) {n : Int} (hn : lst w ≤ n) (hb : n ≤ 900) {k : Str → Prop} (q : k (S (rw_ w n))) : M_Word_row w n k := by
  have g := @lst_ge w
  have h4 := hw.h4
  have m1 := hw.m1
  have m4 := hw.m4
  have t4 := hw.t4
  have e : sizeLine = 16777216 := sizeLine_eq
  have kb : n - (w.1.length : Int) - (w.2.2.length : Int) = ((n.toNat - (L w.1).length - (L w.2.2).length : Nat) : Int) := by
    rw [len_L, len_L]
    omega
  unfold M_Word_row
  refine checkp_ok hw hn ?_
  rw [if_neg (by simp only [decide_eq_true_eq]; omega)]
  refine ⟨line4 h4, line4 t4, ?_⟩
  rw [kb]
  generalize hK : n.toNat - (L w.1).length - (L w.2.2).length = K
  have hc : L (cutS (Txt.mul w.2.1 (K : Int)) none (some (K : Int))) = cyc (L w.2.1) K := by
    rw [cut_take _ (by omega), Int.toNat_natCast, mul_L0, cyc_rep (by omega), cyc_take _ (Nat.le_mul_of_pos_right _ (by omega))]
  have hm : (L (Txt.mul w.2.1 (K : Int))).length ≤ 4000 := by
    rw [mul_L0, cyc_rep (by omega), cyc_len]
    have : K * (L w.2.1).length ≤ 900 * 4 := Nat.mul_le_mul (by omega) m4
    omega
  refine ⟨mulok0 m4 (by omega), line_of hm (by decide), ?_, ?_, ?_⟩
  · rw [len_L, len_L, hc, cyc_len]
    omega
  · rw [len_L, L_app, List.length_append, len_L, hc, cyc_len]
    omega
  · have ez : w.1 ++ cutS (Txt.mul w.2.1 (K : Int)) none (some (K : Int)) ++ w.2.2 = S (rw_ w n) := L_ext (by
      rw [L_app, L_app, hc, L_S, ← hK]
      rfl)
    rw [ez]
    exact q
theorem rw_mk {w : Str × Str × Str} (hw : WV w) (n : Int) : MkN (rw_ w n) := fun c hc => by
  have m1 := hw.m1
  unfold rw_ row at hc
  rcases List.mem_append.mp hc with hc | hc
  · rcases List.mem_append.mp hc with hc | hc
    · exact hw.mh c hc
    · exact cyc_mk (by omega) hw.mm _ c hc
  · exact hw.mt c hc
theorem cut_dropM {α : Type} (xs : List α) {k : Int} (h : 0 ≤ k) : cutM xs (some k) none = xs.drop k.toNat := by
  obtain ⟨n, rfl⟩ := Int.eq_ofNat_of_zero_le h
  unfold cutM
  rw [HT.sIx_none, HT.sIx_nat, Int.toNat_natCast]
  by_cases c : n ≤ xs.length
  · rw [Nat.min_eq_left c, List.take_of_length_le (by rw [List.length_drop]; omega)]
  · rw [Nat.min_eq_right (by omega), Nat.sub_self, List.take_zero, List.drop_of_length_le (by omega)]
theorem ints_py (ns : List Int) : pyOf (D.lst (ns.map fun y => D.v (V.int y))) = .list (ns.map PyData.int) := by
  simp only [pyOf]
  congr 1
  induction ns with
  | nil => rfl
  | cons n ns ih =>
    rw [List.map_cons, List.map_cons]
    simp only [pyL, pyOf]
    rw [ih]
theorem ints_plain (ns : List Int) : plainD (D.lst (ns.map fun y => D.v (V.int y))) = true := by
  simp only [plainD]
  induction ns with
  | nil => rfl
  | cons n ns ih =>
    rw [List.map_cons]
    simp only [plainL, plainD, Bool.true_and]
    exact ih
theorem ints_shaped (ns : List Int) : SeqAt.shaped (pyOf (D.lst (ns.map fun y => D.v (V.int y)))) = true := by
  rw [ints_py]
  unfold SeqAt.shaped
  rw [Bool.and_eq_true]
  have h : ∀ ns : List Int, PyData.canLayAll0 (ns.map PyData.int) = true ∧ PyData.depthAll (ns.map PyData.int) ≤ 1 := by
    intro ns
    induction ns with
    | nil => exact ⟨rfl, by simp [PyData.depthAll]⟩
    | cons n ns ih =>
      refine ⟨?_, ?_⟩
      · rw [List.map_cons]
        simp only [PyData.canLayAll0, PyData.canLay0, Bool.true_and]
        exact ih.1
      · rw [List.map_cons]
        simp only [PyData.depthAll, PyData.depth]
        have := ih.2
        omega
  refine ⟨?_, ?_⟩
  · simp only [PyData.canLay0]
    exact (h ns).1
  · refine decide_eq_true ?_
    simp only [PyData.depth]
    have := (h ns).2
    omega
abbrev eI (y : Int) : D := D.v (V.int y)
theorem eqv_iI : ∀ {xs ys : List Int}, PyData.eqvAll (pyL (xs.map eI)) (pyL (ys.map eI)) = decide (xs = ys)
  | [], [] => by simp [pyL, PyData.eqvAll]
  | [], y :: ys => by simp [pyL, PyData.eqvAll]
  | x :: xs, [] => by simp [pyL, PyData.eqvAll]
  | x :: xs, y :: ys => by
    simp only [List.map_cons, pyL, PyData.eqvAll, pyOf, PyData.eqv, eqv_iI]
    by_cases a : x = y <;> by_cases b : xs = ys <;> simp [a, b]
theorem eqv_int {xs ys : List Int} : PyData.eqv (pyOf (D.lst (xs.map eI))) (pyOf (D.lst (ys.map eI))) = decide (xs = ys) := by
  simp only [pyOf, PyData.eqv]
  exact eqv_iI
/-! rows of marks -/
structure MK (s : Str) : Prop where
  ne : L s ≠ []
  le : (L s).length ≤ 5000
  mm : ∀ c ∈ L s, c = 104 ∨ c = 97
theorem MK.line {s : Str} (h : MK s) : s.length ≤ sizeLine := line_of h.le (by decide)
theorem MK.cons {s : Str} (h : MK s) : ∃ a cs, L s = a :: cs := by
  cases e : L s with
  | nil => exact absurd e h.ne
  | cons a cs => exact ⟨a, cs, rfl⟩
theorem one_ne {c d : Nat} : decide (V.str (Str.mk #[c]) = V.str (Str.mk #[d])) = decide (c = d) := by
  rw [eqS, L_one, L_one]
  by_cases e : c = d <;> simp [e]
theorem cuts_len (s : List Nat) : (cuts s).length ≤ s.length := by
  unfold cuts
  refine Nat.le_trans (List.length_filterMap_le _ _) ?_
  rw [rangeI_len]
  omega
theorem step_ok {s : Str} (h : MK s) {i : Int} (h1 : 1 ≤ i) (h2 : i < ((L s).length : Int)) {k : Option Int → Prop} (q : k (if (L s)[i.toNat]? = (L s)[(i - 1).toNat]? then none else some i)) :
    s.length ≤ sizeLine ∧ ∃ c, atI s.cps.toList i = some c ∧ (s.length ≤ sizeLine ∧ ∃ d, atI s.cps.toList (i - (1 : Int)) = some d ∧ (if (!(decide (V.str (Str.mk #[c]) = V.str (Str.mk #[d])))) = true then (k (some i)) else (k none))) := by
  obtain ⟨c, hc⟩ : ∃ c, (L s)[i.toNat]? = some c := ⟨_, List.getElem?_eq_getElem (by omega)⟩
  obtain ⟨d, hd⟩ : ∃ d, (L s)[(i - 1).toNat]? = some d := ⟨_, List.getElem?_eq_getElem (by omega)⟩
  refine ⟨h.line, c, at_nat' (by omega) hc, h.line, d, at_nat' (by omega) hd, ?_⟩
  rw [hc, hd] at q
  rw [one_ne]
  by_cases e : c = d
  · subst e
    simp at q ⊢
    exact q
  · have e2 : ¬ some c = some d := fun z => e (Option.some.inj z)
    rw [if_neg e2] at q
    simp [e]
    exact q
theorem getD_at {l : List Int} {i : Nat} (h : i < l.length) : l[i]'h = l.getD i 0 := by
  rw [List.getD_eq_getElem?_getD, List.getElem?_eq_getElem h]
  rfl
theorem stays_ok {s : Str} (h : MK s) {k : List Int → Prop} (q : k (rl (L s))) : M_stays s k := by
  have le := h.le
  unfold M_stays
  refine ⟨h.line, by rw [rangeI_len, len_L]; omega, ?_⟩
  refine filC_ok (fun i => if (L s)[i.toNat]? = (L s)[(i - 1).toNat]? then none else some i) (fun i hi k' hk => ?_) ?_
  · have b := rangeI_mem hi
    rw [len_L] at b
    exact step_ok h b.1 b.2 hk
  rw [List.nil_append, len_L]
  have ec : (rangeI 1 ((L s).length : Int)).filterMap (fun i => if (L s)[i.toNat]? = (L s)[(i - 1).toNat]? then none else some i) = cuts (L s) := rfl
  rw [ec]
  have cl := cuts_len (L s)
  obtain ⟨a, cs, e⟩ := h.cons
  have dc := dif_cuts a cs
  rw [← e] at dc
  generalize hl : ([(0 : Int)] ++ cuts (L s)) ++ [((L s).length : Int)] = l
  have hl2 : l = 0 :: (cuts (L s) ++ [((L s).length : Int)]) := by rw [← hl]; simp
  have ll : l.length ≤ 5002 := by
    rw [hl2]
    simp
    omega
  rw [sizeLine_eq]
  refine ⟨by simp; omega, by omega, by simp; omega, by rw [rangeI_len]; omega, ?_⟩
  refine mapC_ok (fun x => l.getD (x + 1).toNat 0 - l.getD x.toNat 0) (fun x hx k' hk => ?_) ?_
  · have b := rangeI_mem hx
    refine ⟨by omega, by omega, ?_⟩
    rintro _ rfl
    refine ⟨by omega, by omega, ?_⟩
    rintro _ rfl
    rw [getD_at, getD_at]
    exact hk
  · have e3 : (rangeI 0 ((l.length : Int) - 1)).map (fun x => l.getD (x + 1).toNat 0 - l.getD x.toNat 0) = dif l := by
      rw [← dif_range]
      unfold rangeI
      rw [List.map_map, show ((l.length : Int) - 1 - 0).toNat = l.length - 1 from by omega]
      refine List.map_congr_left fun i _ => ?_
      show l.getD (0 + (i : Int) + 1).toNat 0 - l.getD (0 + (i : Int)).toNat 0 = _
      rw [show (0 + (i : Int) + 1).toNat = i + 1 from by omega, show (0 + (i : Int)).toNat = i from by omega]
    rw [List.nil_append, e3, hl2, dc]
    exact q
theorem rangeI_0 {n : Int} (h : 0 < n) : rangeI 0 n = 0 :: rangeI 1 n := by
  obtain ⟨m, rfl⟩ : ∃ m : Nat, n = (m : Int) + 1 := ⟨(n - 1).toNat, by omega⟩
  rw [rangeI_1]
  unfold rangeI
  rw [show ((m : Int) + 1 - 0).toNat = m + 1 from by omega, List.range_succ_eq_map, List.map_cons, List.map_map]
  refine congrArg (List.cons (0 : Int)) (List.map_congr_left fun i _ => ?_)
  show (0 : Int) + ((i + 1 : Nat) : Int) = _
  omega
theorem is_marks_ok {s : Str} (h : MK s) {k : Bool → Prop} (q : k true) : M_is_marks s k := by
  unfold M_is_marks
  refine ⟨h.line, ?_⟩
  rw [count_h, count_a, marks_all _ h.mm, len_L]
  have : decide (V.int ((L s).length : Int) = V.int ((L s).length : Int)) = true := decide_eq_true rfl
  rw [this]
  exact q
theorem stays_in_ok {s : Str} (h : MK s) {k : List Int → Prop} (q : k (rl (L s))) : M_stays_in s k := by
  have le := h.le
  obtain ⟨a, cs, e⟩ := h.cons
  have l0 : 0 < (L s).length := by rw [e]; simp
  unfold M_stays_in
  refine is_marks_ok h ?_
  rw [if_neg (by decide), if_neg (by rw [eqS, L_empty]; simpa using h.ne)]
  refine ⟨h.line, by rw [rangeI_len, len_L]; omega, ?_⟩
  refine filC_ok (fun i => if i = 0 then some i else if (L s)[i.toNat]? = (L s)[(i - 1).toNat]? then none else some i) (fun i hi k' hk => ?_) ?_
  · have b := rangeI_mem hi
    rw [len_L] at b
    rw [eqI]
    by_cases z : i = 0
    · rw [if_pos (by simpa using z)]
      rw [if_pos z] at hk
      exact hk
    · rw [if_neg (by simpa using z)]
      rw [if_neg z] at hk
      exact step_ok h (by omega) b.2 hk
  have ec : (rangeI 0 (s.length : Int)).filterMap (fun i => if i = 0 then some i else if (L s)[i.toNat]? = (L s)[(i - 1).toNat]? then none else some i) = 0 :: cuts (L s) := by
    rw [len_L, rangeI_0 (by omega), List.filterMap_cons]
    show 0 :: _ = _
    refine congrArg (List.cons (0 : Int)) (filMap_congr fun i hi => ?_)
    have b := rangeI_mem hi
    rw [if_neg (by omega)]
  have dc := dif_cuts a cs
  rw [← e] at dc
  have cl := cuts_len (L s)
  rw [List.nil_append, ec, cut_dropM _ (by decide), len_L]
  show _ ∧ ((cuts (L s)).length + _ ≤ _ ∧ (List.length (List.zip _ (cuts (L s) ++ _)) < _ ∧ mapC _ (List.zip _ (cuts (L s) ++ _)) _ _))
  refine ⟨by rw [sizeLine_eq]; omega, by rw [sizeLine_eq]; simp; omega, by rw [List.length_zip]; simp; omega, ?_⟩
  refine mapC_ok (fun p => p.2 - p.1) (fun x hx k' hk => hk) ?_
  rw [List.nil_append, dif_zip, dc]
  exact q
theorem breaks_ok {s : Str} (h : MK s) {k : Int → Prop} (q : k (((L s).length : Int) - ((rl (L s)).length : Int))) : M_breaks_in s k := by
  have le := h.le
  have := rl_len_le (L s)
  unfold M_breaks_in
  refine stays_in_ok h ⟨by omega, ?_⟩
  refine mapC_ok (fun x => x - 1) (fun x hx k' hk => hk) ?_
  rw [List.nil_append, sum_less, rl_sum]
  exact q
def flp (c : Nat) : Nat := if c = 104 then 97 else 104
theorem other_ok {s : Str} (h : MK s) {k : Str → Prop} (q : ∀ t, MK t → L t = (L s).map flp → k t) : M_other s k := by
  have le := h.le
  unfold M_other
  refine ⟨by rw [Rx.signs_len]; show (s.length) < _; rw [len_L]; omega, ?_⟩
  have one : ∀ x ∈ Rx.signs s, ∀ k' : Str → Prop, k' (if x = ("h" : Str) then ("a" : Str) else ("h" : Str)) → (∃ KB18 : Str → Prop, (if (decide (V.str x = V.str ("h" : Str))) = true then (KB18 ("a" : Str)) else (KB18 ("h" : Str))) ∧ ∀ r21 : Str, KB18 r21 → (k' r21)) := fun x _ k' hk => by
    refine ⟨k', ?_, fun r h => h⟩
    by_cases c : x = ("h" : Str)
    · rw [if_pos (by rw [c]; simp)]
      rw [if_pos c] at hk
      exact hk
    · rw [if_neg (by simp; exact c)]
      rw [if_neg c] at hk
      exact hk
  refine mapC_ok _ one ?_
  have em : (Rx.signs s).map (fun x => if x = ("h" : Str) then ("a" : Str) else ("h" : Str)) = (L s).map fun c => Str.mk #[flp c] := by
    unfold Rx.signs
    rw [List.map_map]
    refine List.map_congr_left fun c _ => ?_
    show (if (⟨#[c]⟩ : Str) = ("h" : Str) then ("a" : Str) else ("h" : Str)) = _
    rw [h_mk, a_mk]
    unfold flp
    by_cases e : c = 104
    · subst e
      rfl
    · rw [if_neg e, if_neg]
      intro z
      apply e
      have := congrArg (fun t : Str => L t) z
      simpa [L] using this
  rw [List.nil_append, em]
  have ln : ((((L s).map fun c => Str.mk #[flp c]).map (·.length)).sum) = (L s).length := by
    rw [List.map_map]
    induction (L s) with
    | nil => rfl
    | cons c l ih =>
      rw [List.map_cons, List.sum_cons, ih]
      show 1 + l.length = _
      simp [Nat.add_comm]
  have lj : L (Txt.join ("" : Str) ((L s).map fun c => Str.mk #[flp c])) = (L s).map flp := by
    rw [join_L, List.map_map]
    induction (L s) with
    | nil => rfl
    | cons c l ih =>
      rw [List.map_cons, List.flatten_cons, ih]
      simp [L]
  refine ⟨?_, q _ ⟨?_, ?_, ?_⟩ lj⟩
  · rw [ln, show ("" : Str).length = 0 from rfl, Nat.mul_zero]
    omega
  · rw [lj]
    simpa using h.ne
  · rw [lj, List.length_map]
    exact le
  · rw [lj]
    intro c hc
    obtain ⟨x, _, rfl⟩ := List.mem_map.mp hc
    unfold flp
    split
    · exact .inr rfl
    · exact .inl rfl
theorem same4 (a b : List Int) : plainD (D.lst (a.map (fun y_ : Int => (D.v (V.int y_))))) = true ∧ plainD (D.lst (b.map (fun y_ : Int => (D.v (V.int y_))))) = true ∧ SeqAt.shaped (pyOf (D.lst (a.map (fun y_ : Int => (D.v (V.int y_)))))) = true ∧ SeqAt.shaped (pyOf (D.lst (b.map (fun y_ : Int => (D.v (V.int y_)))))) = true :=
  ⟨ints_plain a, ints_plain b, ints_shaped a, ints_shaped b⟩
theorem eqv_t {a b : List Int} (e : a = b) : PyData.eqv (pyOf (D.lst (a.map (fun y_ : Int => (D.v (V.int y_)))))) (pyOf (D.lst (b.map (fun y_ : Int => (D.v (V.int y_)))))) = true := by
  rw [eqv_int]
  exact decide_eq_true e
theorem nI {a b : Int} (e : a = b) : ¬ (!(decide (V.int a = V.int b))) = true := by
  subst e
  simp
theorem L_rev (s : Str) : L (revS s) = (L s).reverse := by simp [L, revS]
theorem flp_inj {s : Str} (h : MK s) : ∀ a ∈ L s, ∀ b ∈ L s, flp a = flp b → a = b := fun a ha b hb e => by
  unfold flp at e
  rcases h.mm a ha with rfl | rfl <;> rcases h.mm b hb with rfl | rfl <;> simp at e <;> rfl
theorem row_right_ok {s : Str} (h : MK s) {k : Bool → Prop} (q : k true) : M_row_right s k := by
  have hr : MK (revS s) := ⟨by rw [L_rev]; simpa using h.ne, by rw [L_rev, List.length_reverse]; exact h.le, fun c hc => h.mm c (by rw [L_rev] at hc; simpa using hc)⟩
  have eqr : rl (L (revS s)) = (rl (L s)).reverse := by rw [L_rev, rl_rev]
  unfold M_row_right
  refine stays_ok h (stays_in_ok h ⟨same4 _ _, ?_⟩)
  rw [if_neg (by rw [eqv_t rfl]; decide)]
  refine ⟨h.line, ?_⟩
  rw [if_neg (nI (by rw [rl_sum, len_L]))]
  refine breaks_ok h ⟨h.line, ?_⟩
  rw [if_neg (nI (by rw [len_L]))]
  refine stays_in_ok h ⟨same4 _ _, ?_⟩
  rw [if_neg (by rw [eqv_t rfl]; decide)]
  refine breaks_ok h ⟨h.line, ?_⟩
  rw [if_neg (nI (by rw [len_L]))]
  refine ⟨h.line, stays_in_ok hr ⟨same4 _ _, ?_⟩⟩
  rw [if_neg (by rw [eqv_t eqr]; decide)]
  refine ⟨h.line, breaks_ok hr (breaks_ok h ?_)⟩
  rw [if_neg (nI (by rw [eqr, List.length_reverse, L_rev, List.length_reverse]))]
  refine other_ok h fun t ht et => stays_in_ok ht ⟨same4 _ _, ?_⟩
  rw [eqv_t (by rw [et, rl_map flp _ (flp_inj h)])]
  exact q
theorem len_snoc {l : List Int} (h : l ≠ []) : ∃ i x, l = i ++ [x] := ⟨l.dropLast, l.getLast h, (List.dropLast_concat_getLast h).symm⟩
theorem atI_last {α : Type} (i : List α) (x : α) : atI (i ++ [x]) (-1) = some x := by
  unfold atI
  have e : ixN (i ++ [x]).length (-1) = some i.length := by
    unfold ixN
    simp
    omega
  rw [e]
  simp
theorem cutM_last {α : Type} (i : List α) (x : α) : cutM (i ++ [x]) none (some (-1)) = i := by
  have e : HT.sIx (i ++ [x]).length (i ++ [x]).length (some (-1)) = i.length := by
    unfold HT.sIx
    show (if (-1 : Int) < 0 then (-1 + ((i ++ [x]).length : Int)).toNat else min (-1 : Int).toNat (i ++ [x]).length) = _
    rw [if_pos (by decide), List.length_append]
    show (-1 + ((i.length + 1 : Nat) : Int)).toNat = _
    omega
  unfold cutM
  rw [HT.sIx_none, List.drop_zero, e, Nat.sub_zero]
  simp
theorem joined_ok {s t : Str} (h : MK s) (g : MK t) (hs : (L s).length ≤ 2000) (gt : (L t).length ≤ 2000) {k : Bool → Prop} (q : k true) : M_joined_right s t k := by
  have hb : MK (s ++ t) := ⟨by rw [L_app]; simp [h.ne], by rw [L_app, List.length_append]; omega, fun c hc => by
    rw [L_app] at hc
    rcases List.mem_append.mp hc with z | z
    · exact h.mm c z
    · exact g.mm c z⟩
  obtain ⟨b, cs, et⟩ := g.cons
  obtain ⟨i, a, es⟩ : ∃ i a, L s = i ++ [a] := ⟨(L s).dropLast, (L s).getLast h.ne, (List.dropLast_concat_getLast h.ne).symm⟩
  have gl : (L s).getLast? = some a := by rw [es]; simp
  have sz : sizeLine = 16777216 := sizeLine_eq
  have l1 := rl_len_le (L s)
  have l2 := rl_len_le (L t)
  have lb := rl_len_le (L (s ++ t))
  have ea : atI s.cps.toList (-(1 : Int)) = some a := by
    show atI (L s) (-1) = _
    rw [es]
    exact atI_last i a
  have eb : atI t.cps.toList (0 : Int) = some b := by
    refine at_nat' (by decide) ?_
    show (L t)[0]? = _
    rw [et]
    rfl
  obtain ⟨x0, xs0, r0⟩ := rl_cons b cs
  have rt : rl (L t) = x0 :: xs0 := by rw [et, r0]
  have rs0 : rl (L s) ≠ [] := by
    obtain ⟨c, d, e⟩ := h.cons
    obtain ⟨z, zs, e2⟩ := rl_cons c d
    rw [e, e2]
    simp
  obtain ⟨ri, rx, rs⟩ := len_snoc rs0
  have big : rl (L (s ++ t)) = if a = b then ri ++ (rx + x0) :: xs0 else rl (L s) ++ rl (L t) := by
    by_cases c : a = b
    · subst c
      rw [if_pos rfl, L_app, et, rl_app_eq a cs _ gl, rs, r0, jn_snoc]
    · rw [if_neg c, L_app, et, rl_app_ne a b cs c _ gl]
  unfold M_joined_right
  refine ⟨by rw [len_L, len_L]; omega, h.line, a, ea, g.line, b, eb, breaks_ok hb (breaks_ok h (breaks_ok g ?_))⟩
  rw [one_ne]
  have len : (L (s ++ t)).length = (L s).length + (L t).length := by rw [L_app, List.length_append]
  by_cases c : a = b
  · have l1s : ri.length + 1 ≤ 2000 := by
      have := hs
      rw [rs] at l1
      simp only [List.length_append, List.length_cons, List.length_nil] at l1
      omega
    have l2s : xs0.length + 1 ≤ 2000 := by
      rw [rt] at l2
      simp only [List.length_cons] at l2
      omega
    rw [if_pos c] at big
    have e1 : (if decide (a = b) = true then (1 : Int) else 0) = 1 := by simp [c]
    rw [e1, if_neg (nI (by
      rw [len, big, rs, rt]
      simp only [List.length_append, List.length_cons, List.length_nil]
      omega))]
    refine stays_in_ok h (stays_in_ok g ⟨fun r => r = ri ++ (rx + x0) :: xs0, ?_, fun r hr => stays_in_ok hb ⟨same4 _ _, ?_⟩⟩)
    · rw [if_pos (by decide)]
      refine ⟨rx, by rw [rs]; exact atI_last ri rx, by decide, by rw [rt]; simp, ?_⟩
      rintro _ rfl
      have z : (rl (L t))[Int.toNat 0]'(by rw [rt]; simp) = x0 := by simp [rt]
      rw [z, rs, cutM_last, rt, cut_dropM _ (by decide)]
      refine ⟨by simp; omega, ?_, ?_⟩
      · show (ri ++ [rx + x0]).length + xs0.length ≤ _
        simp
        omega
      · show ri ++ [rx + x0] ++ xs0 = _
        simp
    · subst hr
      rw [eqv_t big]
      exact q
  · rw [if_neg c] at big
    have e1 : (if decide (a = b) = true then (1 : Int) else 0) = 0 := by simp [c]
    rw [e1, if_neg (nI (by
      rw [len, big]
      simp only [List.length_append]
      omega))]
    refine stays_in_ok h (stays_in_ok g ⟨fun r => r = rl (L s) ++ rl (L t), ?_, fun r hr => stays_in_ok hb ⟨same4 _ _, ?_⟩⟩)
    · rw [if_neg (by decide)]
      exact ⟨by omega, rfl⟩
    · subst hr
      rw [eqv_t big]
      exact q
theorem cut_dropS (z : Str) (k : Nat) : L (cutS z (some (k : Int)) none) = (L z).drop k := by
  unfold cutS
  rw [L_mk, HT.sIx_nat]
  show ((L z).drop (min k z.length)).take (z.length - min k z.length) = _
  rw [len_L]
  by_cases c : k ≤ (L z).length
  · rw [Nat.min_eq_left c, List.take_of_length_le (by rw [List.length_drop]; omega)]
  · rw [Nat.min_eq_right (by omega), Nat.sub_self, List.take_zero, List.drop_of_length_le (by omega)]
theorem pick_ha {k : Str → Prop} (q : ∀ c, c = 104 ∨ c = 97 → k (Str.mk #[c])) : M_pick_ps ("ha" : Str) k := by
  refine ⟨by decide +kernel, draw_ok (by decide +kernel) (by decide +kernel) fun e e0 e1 => ⟨by decide +kernel, ?_⟩⟩
  have e1' : e < 2 := Int.lt_of_lt_of_le e1 (by decide +kernel)
  have he : e = 0 ∨ e = 1 := by omega
  rcases he with rfl | rfl
  · exact ⟨104, by decide +kernel, q _ (.inl rfl)⟩
  · exact ⟨97, by decide +kernel, q _ (.inr rfl)⟩
theorem rep_mk {l : List Nat} (h : ∀ c ∈ l, c = 104 ∨ c = 97) (k : Nat) : ∀ c ∈ (List.replicate k l).flatten, c = 104 ∨ c = 97 := fun c hc => by
  obtain ⟨m, hm, hc⟩ := List.mem_flatten.mp hc
  rw [(List.mem_replicate.mp hm).2] at hc
  exact h c hc
theorem rep_len (l : List Nat) (k : Nat) : ((List.replicate k l).flatten).length = k * l.length := by
  induction k with
  | zero => simp
  | succ k ih => rw [List.replicate_succ, List.flatten_cons, List.length_append, ih, Nat.succ_mul, Nat.add_comm]
theorem L_ha : L ("ha" : Str) = [104, 97] := by decide +kernel
theorem ones_ok (zs : List Str) : (∀ y ∈ zs, ∃ c, y = Str.mk #[c] ∧ (c = 104 ∨ c = 97)) → (zs.map (·.length)).sum = zs.length ∧ ((zs.map L).flatten).length = zs.length ∧ ∀ c ∈ (zs.map L).flatten, c = 104 ∨ c = 97 := by
  induction zs with
  | nil => intro _; exact ⟨rfl, rfl, fun c hc => absurd hc (by simp)⟩
  | cons z zs ih =>
    intro h
    obtain ⟨c, rfl, hc⟩ := h z List.mem_cons_self
    obtain ⟨i1, i2, i3⟩ := ih fun y hy => h y (List.mem_cons_of_mem _ hy)
    refine ⟨?_, ?_, fun c' hc' => ?_⟩
    · rw [List.map_cons, List.sum_cons, i1, str1, List.length_cons]
      omega
    · rw [List.map_cons, List.flatten_cons, List.length_append, i2, L_one, List.length_cons, List.length_cons, List.length_nil]
      omega
    · rw [List.map_cons, List.flatten_cons, L_one] at hc'
      rcases List.mem_append.mp hc' with hc' | hc'
      · rw [List.mem_singleton.mp hc']
        exact hc
      · exact i3 c' hc'
theorem marks_ok {m : Int} (h1 : 1 ≤ m) (h2 : m ≤ 400) {k : Str → Prop} (q : ∀ s, MK s → ((L s).length : Int) ≤ m → k s) : M_marks m k := by
  unfold M_marks
  refine draw_ok (by decide) (by decide) fun d d0 d1 => draw_ok (by omega) (by omega) fun e e0 e1 => ?_
  obtain ⟨n, rfl⟩ := Int.eq_ofNat_of_zero_le e0
  have en : (1 : Int) + (n : Int) = ((n + 1 : Nat) : Int) := by omega
  rw [en]
  by_cases c0 : d = 0
  · rw [if_pos (by rw [c0]; rfl)]
    refine pick_ha fun c hc => ⟨mulok0 (by rw [L_one]; simp) (by omega), ?_⟩
    have lm : L (Txt.mul (Str.mk #[c]) ((n + 1 : Nat) : Int)) = (List.replicate (n + 1) [c]).flatten := by rw [mul_L _ (by omega), L_one]
    have ll := rep_len [c] (n + 1)
    refine q _ ⟨?_, ?_, ?_⟩ ?_
    · intro z
      rw [lm] at z
      rw [z] at ll
      simp at ll
    · rw [lm, ll]
      simp
      omega
    · rw [lm]
      exact rep_mk (fun x hx => by rw [List.mem_singleton.mp hx]; exact hc) _
    · rw [lm, ll]
      simp
      omega
  rw [if_neg (by rw [eqI]; simpa using c0)]
  by_cases c1 : d = 1
  · rw [if_pos (by rw [c1]; rfl)]
    have lm : L (Txt.mul ("ha" : Str) ((n + 1 : Nat) : Int)) = (List.replicate (n + 1) [104, 97]).flatten := by rw [mul_L _ (by omega), L_ha]
    have ll := rep_len [104, 97] (n + 1)
    have mm := rep_mk (l := [104, 97]) (fun x hx => by simpa using hx) (n + 1)
    rw [← lm] at ll mm
    generalize Txt.mul ("ha" : Str) ((n + 1 : Nat) : Int) = z at *
    simp only [List.length_cons, List.length_nil] at ll
    refine ⟨mulok0 (by rw [L_ha]; decide) (by omega), draw_ok (by decide) (by decide) fun f f0 f1 => ?_⟩
    obtain ⟨g, rfl⟩ := Int.eq_ofNat_of_zero_le f0
    have ld := cut_dropS z g
    have ld2 : (L (cutS z (some (g : Int)) none)).length = (n + 1) * 2 - g := by rw [ld, List.length_drop, ll]
    refine ⟨line_of (n := 1000) (by omega) (by decide), line_of (n := 1000) (by omega) (by decide), ?_⟩
    have lt := cut_take (cutS z (some (g : Int)) none) (k := ((n + 1 : Nat) : Int)) (by omega)
    rw [Int.toNat_natCast] at lt
    have lt2 : (L (cutS (cutS z (some (g : Int)) none) none (some ((n + 1 : Nat) : Int)))).length = n + 1 := by
      rw [lt, List.length_take, ld2]
      omega
    refine q _ ⟨fun z => ?_, by omega, fun c hc => ?_⟩ (by omega)
    · rw [z] at lt2
      simp at lt2
    · rw [lt, ld] at hc
      exact mm c (List.mem_of_mem_drop (List.mem_of_mem_take hc))
  rw [if_neg (by rw [eqI]; simpa using c1)]
  refine ⟨by rw [rangeI_len]; omega, ?_⟩
  refine mapC_any (fun y => ∃ c, y = Str.mk #[c] ∧ (c = 104 ∨ c = 97)) (fun x _ k' hk => pick_ha fun c hc => hk _ ⟨c, rfl, hc⟩) fun ys hl hp => ?_
  rw [rangeI_len] at hl
  obtain ⟨s1, s2, s3⟩ := ones_ok ys hp
  rw [List.nil_append]
  have lj := join_L ys
  refine ⟨by rw [s1, show ("" : Str).length = 0 from rfl, Nat.mul_zero]; omega, q _ ⟨fun z => ?_, ?_, ?_⟩ ?_⟩
  · rw [lj] at z
    rw [z] at s2
    simp at s2
    omega
  · rw [lj, s2]
    omega
  · rw [lj]
    exact s3
  · rw [lj, s2]
    omega
/-! the tables -/
theorem sorted_perm : ∀ {xs ys : List Int}, ys.Perm xs → xs.Pairwise (· ≤ ·) → ys.Pairwise (· ≤ ·) → ys = xs := fun {xs ys} p h1 h2 => p.eq_of_pairwise (fun a b _ _ h3 h4 => Int.le_antisymm h3 h4) h2 h1
def Al {α β : Type} (R : α → β → Prop) : List α → List β → Prop
  | [], [] => True
  | x :: xs, y :: ys => R x y ∧ Al R xs ys
  | _, _ => False
theorem mapC_rel {α β : Type} {body : α → (β → Prop) → Prop} {k : List β → Prop} (R : α → β → Prop) : ∀ {xs : List α} {acc : List β}, (∀ x ∈ xs, ∀ k' : β → Prop, (∀ y, R x y → k' y) → body x k') → (∀ ys : List β, Al R xs ys → k (acc ++ ys)) → mapC body xs acc k
  | [], acc, _, q => by
    have := q [] trivial
    rw [List.append_nil] at this
    exact this
  | x :: xs, acc, h, q => h x List.mem_cons_self _ fun y hy => mapC_rel R (fun z hz => h z (List.mem_cons_of_mem _ hz)) fun ys hl => by
    rw [List.append_assoc]
    exact q (y :: ys) ⟨hy, hl⟩
theorem al_len {α β : Type} {R : α → β → Prop} : ∀ {xs : List α} {ys : List β}, Al R xs ys → ys.length = xs.length
  | [], [], _ => rfl
  | _ :: _, _ :: _, h => congrArg Nat.succ (al_len h.2)
  | [], _ :: _, h => h.elim
  | _ :: _, [], h => h.elim
theorem al_mem {α β : Type} {R : α → β → Prop} : ∀ {xs : List α} {ys : List β}, Al R xs ys → ∀ y ∈ ys, ∃ x ∈ xs, R x y
  | [], [], _, y, h => absurd h List.not_mem_nil
  | x :: _, y :: _, h, z, hz => by
    rcases List.mem_cons.mp hz with rfl | hz
    · exact ⟨x, List.mem_cons_self, h.1⟩
    · obtain ⟨w, hw, r⟩ := al_mem h.2 z hz
      exact ⟨w, List.mem_cons_of_mem _ hw, r⟩
  | [], _ :: _, h, _, _ => h.elim
  | _ :: _, [], h, _, _ => h.elim
theorem forC_idx {α S : Type} {body : α → S → (S → Prop) → Prop} {k : S → Prop} (I : Nat → S → Prop) : ∀ {xs : List α} {n : Nat} {s0 : S}, (∀ x ∈ xs, ∀ (i : Nat) (s : S) (k' : S → Prop), I i s → (∀ s', I (i + 1) s' → k' s') → i < n + xs.length → body x s k') → I n s0 → (∀ s, I (n + xs.length) s → k s) → forC body xs s0 k
  | [], n, s0, _, i, q => q s0 i
  | x :: xs, n, s0, h, i, q => h x List.mem_cons_self n s0 _ i (fun s' i' => forC_idx I (n := n + 1) (fun y hy j s k' a b c => h y (List.mem_cons_of_mem _ hy) j s k' a b (by rw [List.length_cons]; omega)) i' fun s hs => q s (by rw [List.length_cons, Nat.add_comm xs.length, ← Nat.add_assoc]; exact hs)) (by rw [List.length_cons]; omega)
theorem pick_ok {xs : List Int} (h0 : 0 < xs.length) (h1 : xs.length < 1073741824) {k : Int → Prop} (q : ∀ x ∈ xs, k x) : M_pick xs k := by
  refine draw_ok (by omega) (by omega) fun d d0 d1 => ⟨d0, by omega, ?_⟩
  rintro _ rfl
  exact q _ (List.getElem_mem _)
theorem many_ok {k : Int → Prop} (q : ∀ n : Nat, 2 ≤ n → n ≤ 12 → k (2 * (n : Int))) : M_many k := by
  refine draw_ok (by decide) (by decide) fun d d0 d1 => pick_ok (by simp) (by simp) fun x hx => ?_
  have h : ∃ n : Nat, 2 ≤ n ∧ n ≤ 12 ∧ x = 2 * (n : Int) := by
    simp only [List.mem_cons, List.mem_nil_iff, or_false] at hx
    refine ⟨(x / 2).toNat, ?_, ?_, ?_⟩ <;> omega
  obtain ⟨n, h1, h2, rfl⟩ := h
  exact q n h1 h2
theorem er_perm : ∀ (l : List Int) (i : Nat) (h : i < l.length), (l[i]'h :: l.eraseIdx i).Perm l
  | [], i, h => by simp at h
  | a :: l, 0, _ => List.Perm.refl _
  | a :: l, i + 1, h => by
    have ih := er_perm l i (by simpa using h)
    show ((l[i]'(by simpa using h)) :: a :: l.eraseIdx i).Perm (a :: l)
    exact (List.Perm.swap _ _ _).trans (ih.cons a)
theorem mixed_go {k : List Int → Prop} {xs : List Int} (q : ∀ ys : List Int, ys.Perm xs → k ys) (hx : xs.length ≤ 1000) : ∀ (is : List Int) (rest found : List Int), is.length = rest.length → (found ++ rest).Perm xs →
    forC (fun (x20 : Int) (s22 : (List Int) × (List Int)) (k23 : ((List Int) × (List Int)) → Prop) => (M_draw (s22.1.length : Int) fun r32 => ((0 ≤ r32 ∧ r32 < 2 ^ 63) ∧ ∃ y42, s22.1[Int.toNat r32]? = some y42 ∧ (s22.2.length < 16777216 ∧ (k23 ((s22.1.eraseIdx (Int.toNat r32)), (s22.2 ++ [y42]))))))) is (rest, found) fun s55 => k s55.2
  | [], rest, found, hl, p => by
    have : rest = [] := List.eq_nil_of_length_eq_zero hl.symm
    subst this
    rw [List.append_nil] at p
    exact q found p
  | i :: is, rest, found, hl, p => by
    have hp := p.length_eq
    rw [List.length_append] at hp
    rw [List.length_cons] at hl
    refine draw_ok (n := (rest.length : Int)) (by omega) (by omega) fun d d0 d1 => ⟨⟨d0, by omega⟩, rest[d.toNat]'(by omega), List.getElem?_eq_getElem _, by show found.length < _; omega, ?_⟩
    refine mixed_go q hx is (rest.eraseIdx d.toNat) (found ++ [rest[d.toNat]'(by omega)]) ?_ ?_
    · rw [List.length_eraseIdx, if_pos (by omega)]
      omega
    · refine List.Perm.trans ?_ p
      rw [List.append_assoc]
      refine List.Perm.append_left _ ?_
      exact er_perm rest d.toNat (by omega)
theorem mixed_ok {xs : List Int} {k : List Int → Prop} (hx : xs.length ≤ 1000) (q : ∀ ys : List Int, ys.Perm xs → k ys) : M_mixed xs k := by
  unfold M_mixed
  refine mixed_go q hx _ _ _ ?_ (by simp)
  rw [rangeI_len]
  simp
abbrev two (y : Int × Int) : List Int := [y.1, y.2]
theorem pairs_flat : ∀ (h : Nat) (l : List Int), l.length = 2 * h → ((List.range h).map fun i => (l.getD (2 * i) 0, l.getD (2 * i + 1) 0)).flatMap two = l
  | 0, l, hl => by
    have : l = [] := List.eq_nil_of_length_eq_zero (by omega)
    subst this
    rfl
  | h + 1, a :: b :: l, hl => by
    have ih := pairs_flat h l (by simp at hl; omega)
    rw [List.range_succ_eq_map, List.map_cons, List.map_map, List.flatMap_cons]
    show [a, b] ++ _ = a :: b :: l
    have e : (List.range h).map ((fun i => ((a :: b :: l).getD (2 * i) 0, (a :: b :: l).getD (2 * i + 1) 0)) ∘ Nat.succ) = (List.range h).map fun i => (l.getD (2 * i) 0, l.getD (2 * i + 1) 0) := by
      refine List.map_congr_left fun i _ => ?_
      show ((a :: b :: l).getD (2 * (i + 1)) 0, (a :: b :: l).getD (2 * (i + 1) + 1) 0) = _
      rw [show 2 * (i + 1) = 2 * i + 1 + 1 from by omega]
      rfl
    rw [e, ih]
    rfl
  | h + 1, [], hl => by simp at hl
  | h + 1, [_], hl => by simp at hl; omega
structure DV (n : Nat) (m : List (Int × Int)) : Prop where
  len : m.length = n
  all : (m.flatMap two).Perm (rangeI 0 (2 * (n : Int)))
theorem day_ok {n : Nat} (h1 : 2 ≤ n) (h2 : n ≤ 12) {k : List (Int × Int) → Prop} (q : ∀ m, DV n m → k m) : M_day (2 * (n : Int)) k := by
  unfold M_day
  refine ⟨?_, mixed_ok (by rw [rangeI_len]; omega) fun r hr => ?_⟩
  · first | exact ⟨by omega, by omega⟩ | (unfold RgOk; omega) | (unfold RgOk; refine ⟨?_, ?_⟩ <;> omega)
  have hl := hr.length_eq
  rw [rangeI_len] at hl
  have hl2 : r.length = 2 * n := by omega
  refine ⟨by rw [rangeI_len]; omega, ?_⟩
  refine mapC_ok (fun x => (r.getD (2 * x.toNat) 0, r.getD (2 * x.toNat + 1) 0)) (fun x hx k' hk => ?_) ?_
  · have b := rangeI_mem hx
    refine ⟨by omega, by omega, ?_⟩
    rintro _ rfl
    refine ⟨by omega, by omega, ?_⟩
    rintro _ rfl
    have g1 := getD_at (l := r) (i := (2 * x).toNat) (by omega)
    have g2 := getD_at (l := r) (i := (2 * x + 1).toNat) (by omega)
    rw [g1, g2, show (2 * x).toNat = 2 * x.toNat from by omega, show (2 * x + 1).toNat = 2 * x.toNat + 1 from by omega]
    exact hk
  · rw [List.nil_append]
    have e : (rangeI 0 (2 * (n : Int) / 2)).map (fun x => (r.getD (2 * x.toNat) 0, r.getD (2 * x.toNat + 1) 0)) = (List.range n).map fun i => (r.getD (2 * i) 0, r.getD (2 * i + 1) 0) := by
      unfold rangeI
      rw [List.map_map, show (2 * (n : Int) / 2 - 0).toNat = n from by omega]
      refine List.map_congr_left fun i _ => ?_
      show (r.getD (2 * (0 + (i : Int)).toNat) 0, r.getD (2 * (0 + (i : Int)).toNat + 1) 0) = _
      rw [show (0 + (i : Int)).toNat = i from by omega]
    rw [e]
    refine q _ ⟨by simp, ?_⟩
    rw [pairs_flat n r hl2]
    exact hr
theorem turned_dv {n : Nat} : ∀ {xs ys : List (Int × Int)}, Al (fun x y => y = (x.2, x.1) ∨ y = (x.1, x.2)) xs ys → (ys.flatMap two).Perm (xs.flatMap two)
  | [], [], _ => List.Perm.refl _
  | x :: xs, y :: ys, h => by
    rw [List.flatMap_cons, List.flatMap_cons]
    refine List.Perm.append ?_ (turned_dv (n := n) h.2)
    rcases h.1 with e | e
    · rw [e]
      exact List.Perm.swap _ _ _
    · rw [e]
  | [], _ :: _, h => h.elim
  | _ :: _, [], h => h.elim
theorem days_ok {n : Nat} (h1 : 2 ≤ n) (h2 : n ≤ 12) {k : List (List (Int × Int)) → Prop} (q : ∀ ds : List (List (Int × Int)), 0 < ds.length → ds.length ≤ 30 → (∀ d ∈ ds, DV n d) → k ds) : M_days (2 * (n : Int)) 30 k := by
  unfold M_days
  refine day_ok h1 h2 fun d0 hd0 => draw_ok (by decide) (by decide) fun r r0 r1 => ?_
  refine forC_idx (fun i (s : List (List (Int × Int))) => s.length = i + 1 ∧ ∀ d ∈ s, DV n d) (n := 0) (fun x hx i s k' hs hk hi => ?_) ⟨rfl, fun d hd => by rw [List.mem_singleton.mp hd]; exact hd0⟩ fun s hs => ?_
  · rw [rangeI_len] at hi
    have l := hs.1
    have add : ∀ d, DV n d → (s ++ [d]).length = i + 1 + 1 ∧ ∀ e ∈ s ++ [d], DV n e := fun d hd => ⟨by simp [l], fun e he => by
      rcases List.mem_append.mp he with z | z
      · exact hs.2 e z
      · rw [List.mem_singleton.mp z]
        exact hd⟩
    refine draw_ok (by decide) (by decide) fun w w0 w1 => ⟨by omega, ?_⟩
    refine draw_ok (by omega) (by omega) fun p p0 p1 => ⟨p0, by omega, ?_⟩
    rintro _ rfl
    have hn := hs.2 _ (List.getElem_mem (l := s) (n := p.toNat) (by omega))
    generalize s[p.toNat]'(by omega) = near at hn
    by_cases c1 : w < 2
    · rw [if_pos (by simpa using c1)]
      exact day_ok h1 h2 fun d hd => ⟨by omega, hk _ (add d hd)⟩
    rw [if_neg (by simpa using c1)]
    by_cases c2 : w = 2
    · rw [if_pos (by rw [c2]; rfl)]
      refine ⟨by have := hn.len; omega, ?_⟩
      refine mapC_rel (fun x y => y = (x.2, x.1) ∨ y = (x.1, x.2)) (fun x hx k' hk' => ?_) fun ys hy => ⟨by omega, hk _ (add _ ⟨by rw [List.nil_append, al_len hy]; exact hn.len, (turned_dv (n := n) hy).trans hn.all⟩)⟩
      refine ⟨fun y => y = (x.2, x.1) ∨ y = (x.1, x.2), draw_ok (by decide) (by decide) fun z z0 z1 => ?_, fun y hy => hk' y hy⟩
      by_cases c3 : z = 0
      · rw [if_pos (by rw [c3]; rfl)]
        exact .inl rfl
      · rw [if_neg (by rw [eqI]; simpa using c3)]
        exact .inr rfl
    · rw [if_neg (by rw [eqI]; simpa using c2)]
      exact ⟨by omega, hk _ (add _ hn)⟩
  · rw [rangeI_len] at hs
    exact q s (by have := hs.1; omega) (by have := hs.1; omega) hs.2
theorem range_sorted (lo hi : Int) : (rangeI lo hi).Pairwise (· ≤ ·) := by
  unfold rangeI
  refine List.pairwise_map.mpr ?_
  refine List.Pairwise.imp ?_ (List.pairwise_lt_range)
  intro a b h
  omega
theorem is_meeting_ok (p : Int × Int) {k : Bool → Prop} (q : k true) : M_is_meeting p k := by
  unfold M_is_meeting M_is_integer
  rw [if_pos (by decide)]
  show (if (!false) = true then _ else _)
  rw [if_pos (by decide)]
  exact q
theorem is_round_ok {n : Nat} (h1 : 2 ≤ n) (h2 : n ≤ 12) {m : List (Int × Int)} (h : DV n m) {k : Bool → Prop} (q : k true) : M_is_round m k := by
  have hl := h.len
  unfold M_is_round M_is_list_ltii
  show (if (!true) = true then _ else _)
  rw [if_neg (by decide), if_neg (by simp only [decide_eq_true_eq]; omega), if_neg (by simp only [decide_eq_true_eq]; omega)]
  refine ⟨by omega, ?_⟩
  refine mapC_ok (fun _ => true) (fun x hx k' hk => is_meeting_ok x hk) ?_
  have al : List.all ([] ++ m.map fun _ => true) id = true := by
    rw [List.nil_append, List.all_eq_true]
    intro x hx
    obtain ⟨y, _, rfl⟩ := List.mem_map.mp hx
    rfl
  rw [al, if_neg (by decide)]
  have fl := h.all.length_eq
  rw [rangeI_len] at fl
  refine ⟨by show (m.flatMap two).length ≤ _; omega, fun ys hp hs => ⟨?_, same4 _ _, ?_⟩⟩
  · first | exact ⟨by omega, by omega⟩ | (unfold RgOk; omega) | (unfold RgOk; refine ⟨?_, ?_⟩ <;> omega)
  · have hp2 : ys.Perm (rangeI 0 (2 * (m.length : Int))) := by
      rw [hl]
      exact (show ys.Perm (m.flatMap two) from hp).trans h.all
    rw [eqv_t (sorted_perm hp2 (range_sorted _ _) hs)]
    exact q
theorem rounds_ok {n : Nat} (h1 : 2 ≤ n) (h2 : n ≤ 12) {ds : List (List (Int × Int))} (d0 : 0 < ds.length) (d1 : ds.length ≤ 30) (hd : ∀ d ∈ ds, DV n d) {k : Unit → Prop} (q : k ()) : M_check_rounds ds k := by
  unfold M_check_rounds M_is_list
  show (if (!true) = true then _ else _)
  rw [if_neg (by decide), if_neg (by rw [eqI]; simp only [decide_eq_true_eq]; omega)]
  refine forC_ok (fun _ => True) (fun x hx s k' _ hk => ?_) trivial fun s _ => ?_
  · have hx2 := hd x.2 (List.of_mem_zip hx).2
    refine is_round_ok h1 h2 hx2 ?_
    rw [if_neg (by decide)]
    refine ⟨by decide, d0, ?_⟩
    rintro _ rfl
    have h0 := hd _ (List.getElem_mem (l := ds) (n := Int.toNat 0) d0)
    rw [if_neg (nI (by rw [hx2.len, h0.len]))]
    exact hk _ trivial
  · rw [if_neg (by simp only [decide_eq_true_eq]; omega)]
    exact q
theorem tinit_ok {n : Nat} (h1 : 2 ≤ n) (h2 : n ≤ 12) {ds : List (List (Int × Int))} (d0 : 0 < ds.length) (d1 : ds.length ≤ 30) (hd : ∀ d ∈ ds, DV n d) {k : List (List (Int × Int)) → Prop} (q : ∀ t : List (List (Int × Int)), 0 < t.length → t.length ≤ 30 → (∀ d ∈ t, DV n d) → k t) : M_Table_init ds k := by
  unfold M_Table_init
  refine rounds_ok h1 h2 d0 d1 hd ⟨by omega, ?_⟩
  refine mapC_rel (fun x y => y.Perm x) (fun x hx k' hk => ?_) fun ys hy => ?_
  · have := (hd x hx).len
    refine ⟨by omega, ?_⟩
    refine mapC_ok (fun p => p) (fun p hp k'' hk'' => hk'') ?_
    rw [List.nil_append, List.map_id']
    exact fun ys hp _ => hk ys hp
  · have hl := al_len hy
    rw [List.nil_append]
    refine q ys (by omega) (by omega) fun d hdm => ?_
    obtain ⟨x, hx, hp⟩ := al_mem hy d hdm
    have hv := hd x hx
    exact ⟨by rw [hp.length_eq]; exact hv.len, (hp.flatMap_right two).trans hv.all⟩
theorem mark_in_ok {m : List (Int × Int)} (hm : m.length ≤ 12) {t : Int} {k : Str → Prop} (q : ∀ c, c = 104 ∨ c = 97 → k (Str.mk #[c])) : M_mark_in m t k := by
  refine ⟨fun r => ∃ c, (c = 104 ∨ c = 97) ∧ r = Str.mk #[c], ⟨by omega, ?_⟩, fun r hr => ?_⟩
  · refine mapC_ok (fun x => x.1) (fun x hx k' hk => hk) ?_
    split
    · exact ⟨104, .inl rfl, h_mk⟩
    · exact ⟨97, .inr rfl, a_mk⟩
  · obtain ⟨c, hc, rfl⟩ := hr
    exact q c hc
theorem row_of_ok {n : Nat} (h1 : 2 ≤ n) (h2 : n ≤ 12) {tb : List (List (Int × Int))} (d0 : 0 < tb.length) (d1 : tb.length ≤ 30) (hd : ∀ d ∈ tb, DV n d) {t : Int} (t0 : 0 ≤ t) (t1 : t < 2 * (n : Int)) {k : Str → Prop} (q : ∀ s, MK s → k s) : M_Table_row_of tb t k := by
  unfold M_Table_row_of M_Table_size
  refine ⟨by decide, d0, ?_⟩
  rintro _ rfl
  have h0 := hd _ (List.getElem_mem (l := tb) (n := Int.toNat 0) d0)
  rw [h0.len]
  unfold M_check_team M_is_count M_is_integer
  show (if (!false) = true then (if (!(decide (0 ≤ t))) = true then _ else _) else _)
  rw [if_pos (by decide), decide_eq_true t0, if_neg (by decide), if_neg (by simp only [decide_eq_true_eq]; omega)]
  refine ⟨by omega, ?_⟩
  refine mapC_any (fun y => ∃ c, y = Str.mk #[c] ∧ (c = 104 ∨ c = 97)) (fun x hx k' hk => mark_in_ok (by rw [(hd x hx).len]; exact h2) fun c hc => hk _ ⟨c, rfl, hc⟩) fun ys hl hp => ?_
  obtain ⟨s1, s2, s3⟩ := ones_ok ys hp
  have lj := join_L ys
  rw [List.nil_append]
  refine ⟨by rw [s1, show ("" : Str).length = 0 from rfl, Nat.mul_zero]; omega, q _ ⟨fun z => ?_, ?_, ?_⟩⟩
  · rw [lj] at z
    rw [z] at s2
    simp at s2
    omega
  · rw [lj, s2]
    omega
  · rw [lj]
    exact s3
theorem others_ok {k : Bool → Prop} (q : k true) : M_rows_of_others_right k := by
  unfold M_rows_of_others_right
  refine many_ok fun n h1 h2 => days_ok h1 h2 fun ds d0 d1 hd => tinit_ok h1 h2 d0 d1 hd fun tb t0 t1 ht => ⟨by rw [rangeI_len]; omega, ?_⟩
  refine mapC_any MK (fun x hx k' hk => row_of_ok h1 h2 t0 t1 ht (rangeI_mem hx).1 (rangeI_mem hx).2 hk) fun rows hr1 hr2 => ⟨by decide, ?_⟩
  rw [rangeI_len] at hr1
  refine mapC_any (fun s => MK s ∧ (L s).length ≤ 4) (fun x hx k' hk => marks_ok (by decide) (by decide) fun s hs hl => hk s ⟨hs, by omega⟩) fun ps hp1 hp2 => ?_
  have lp : ps.length = 3 := hp1
  rw [List.nil_append, List.nil_append]
  refine ⟨by decide, by show 0 < _; omega, ?_⟩
  rintro a ea
  refine ⟨by decide, by show 1 < _; omega, ?_⟩
  rintro b eb
  refine ⟨by decide, by show 2 < _; omega, ?_⟩
  rintro c ec
  have ha := hp2 a (by rw [ea]; exact List.getElem_mem _)
  have hb := hp2 b (by rw [eb]; exact List.getElem_mem _)
  have hc := hp2 c (by rw [ec]; exact List.getElem_mem _)
  have nb : 1 ≤ (L b).length := by
    obtain ⟨x, xs, e⟩ := hb.1.cons
    rw [e]
    simp
  have hw : WV (a, b, c) := ⟨ha.2, nb, hb.2, hc.2, ha.1.mm, hb.1.mm, hc.1.mm⟩
  have ge := @lst_ge (a, b, c)
  have le := lst_le hw
  refine word_ok hw (wleast_ok hw (draw_ok (by decide) (by decide) fun d e0 e1 => ?_))
  refine wrow_ok hw (n := lst (a, b, c) + d) (by omega) (by omega) ⟨by omega, by simp; omega, ?_⟩
  have ln := rw_len (w := (a, b, c)) (n := lst (a, b, c) + d) (by omega)
  have hs : MK (S (rw_ (a, b, c) (lst (a, b, c) + d))) := ⟨fun z => by
    rw [L_S] at z
    rw [z] at ln
    simp at ln
    omega, by rw [L_S, ln]; omega, by rw [L_S]; exact rw_mk hw _⟩
  refine mapC_ok (fun _ => true) (fun x hx k' hk => row_right_ok (by
    rcases List.mem_append.mp hx with z | z
    · exact hr2 x z
    · rw [List.mem_singleton.mp z]
      exact hs) hk) ?_
  have al : ∀ l : List Str, List.all ([] ++ l.map fun _ => true) id = true := fun l => by
    rw [List.nil_append, List.all_eq_true]
    intro x hx
    obtain ⟨y, _, rfl⟩ := List.mem_map.mp hx
    rfl
  rw [al]
  exact q
/-! what is refused -/
def bad (y : Str) : Prop := cn 104 (L y) + cn 97 (L y) ≠ ((L y).length : Int)
structure OD (x : D) : Prop where
  ty : tyOk x = true
  ok : okX x x = true
  odd : isT x "str" = false ∨ ∃ y, x = D.v (V.str y) ∧ y.length ≤ sizeLine ∧ (bad y ∨ y = ("" : Str))
theorem okX_eq {x : D} (h : okX x x = true) : eqX x x = true := by
  rcases okX_cases h with ⟨_, _, _, _, e⟩ | ⟨_, _, c, _, _, e⟩
  · exact e
  · rw [e]
    exact SeqAt.eqv_refl _ c
theorem isT_str (y : Str) : isT (D.v (V.str y)) "str" = true := by
  show (kitB "str" "str").getD false = true
  decide +kernel
theorem staysD_ok {x : D} (h : OD x) {KM : Unit → Prop} {KE : D → Prop} (q : KE x) : M_stays_in_D x KM KE := by
  unfold M_stays_in_D M_is_marks_D
  refine ⟨h.ty, ?_⟩
  rcases h.odd with o | ⟨y, rfl, hl, o⟩
  · rw [o, if_neg (by decide)]
    show (if (!false) = true then KE x else _)
    rw [if_pos (by decide)]
    exact q
  · rw [isT_str, if_pos rfl]
    refine ⟨y, rfl, hl, ?_⟩
    rw [count_h, count_a, len_L]
    rcases o with o | rfl
    · have e : decide (V.int (cn 104 (L y) + cn 97 (L y)) = V.int ((L y).length : Int)) = false := decide_eq_false fun z => o (V.int.inj z)
      show (if (!decide (V.int (cn 104 (L y) + cn 97 (L y)) = V.int ((L y).length : Int))) = true then _ else _)
      rw [e, if_pos (by decide)]
      exact q
    · have e : decide (V.int (cn 104 (L ("" : Str)) + cn 97 (L ("" : Str))) = V.int ((L ("" : Str)).length : Int)) = true := by decide +kernel
      show (if (!decide (V.int (cn 104 (L ("" : Str)) + cn 97 (L ("" : Str))) = V.int ((L ("" : Str)).length : Int))) = true then _ else _)
      rw [e, if_neg (by decide)]
      refine ⟨⟨rfl, rfl, by decide +kernel, by decide +kernel⟩, ?_⟩
      rw [if_pos (by decide +kernel)]
      exact q
theorem breaksD_ok {x : D} (h : OD x) {KM : Unit → Prop} {KE : D → Prop} (q : KE x) : M_breaks_in_D x KM KE := staysD_ok h q
abbrev due (x : D) : List D := ([(D.v (V.str ("marks" : Str))), x, (D.v (V.bl true))] : List D).map fun y_ : D => y_
theorem due_ok {x : D} (h : OD x) : ((due x).length = (due x).length ∧ ∀ p_ ∈ List.zip (due x) (due x), okX p_.1 p_.2 = true) ∧ ((List.zip (due x) (due x)).all fun p_ => eqX p_.1 p_.2) = true := by
  have k1 : okX (D.v (V.str ("marks" : Str))) (D.v (V.str ("marks" : Str))) = true := by decide +kernel
  have k3 : okX (D.v (V.bl true)) (D.v (V.bl true)) = true := by decide +kernel
  have e : List.zip (due x) (due x) = [((D.v (V.str ("marks" : Str))), (D.v (V.str ("marks" : Str)))), (x, x), ((D.v (V.bl true)), (D.v (V.bl true)))] := rfl
  rw [e]
  refine ⟨⟨rfl, fun p hp => ?_⟩, ?_⟩
  · simp only [List.mem_cons, List.mem_nil_iff, or_false] at hp
    rcases hp with rfl | rfl | rfl
    · exact k1
    · exact h.ok
    · exact k3
  · simp only [List.all_cons, List.all_nil, Bool.and_true, okX_eq k1, okX_eq k3, okX_eq h.ok]
theorem strOk_mk {s : Str} (h : ∀ c ∈ L s, c = 104 ∨ c = 97) : PyData.strOk s = true := by
  unfold PyData.strOk
  rw [Array.all_eq_true']
  intro c hc
  have := h c (by simpa [L] using hc)
  simp only [decide_eq_true_eq]
  omega
theorem od_str {y : Str} (hl : y.length ≤ sizeLine) (hs : PyData.strOk y = true) (o : bad y ∨ y = ("" : Str)) : OD (D.v (V.str y)) :=
  ⟨rfl, by
    show (true && true && PyData.strOk y && PyData.strOk y && decide ((pyOf (D.v (V.str y))).depth ≤ 60)) = true
    rw [hs]
    simp [pyOf, PyData.depth], .inr ⟨y, rfl, hl, o⟩⟩
theorem bad_app {s z : Str} (h : ∀ c ∈ L s, c = 104 ∨ c = 97) (hz : bad z) : bad (s ++ z) := by
  unfold bad at *
  rw [L_app, cn_app, cn_app, List.length_append]
  have := marks_all _ h
  omega
theorem od_app {s z : Str} (h : MK s) (hl : (L s).length ≤ 100) (z1 : (L z).length = 1) (zs : PyData.strOk z = true) (hz : bad z) : OD (D.v (V.str (s ++ z))) := by
  refine od_str (line_of (n := 101) (by rw [L_app, List.length_append]; omega) (by decide)) ?_ (.inl (bad_app h.mm hz))
  unfold PyData.strOk at *
  show (s.cps ++ z.cps).all _ = true
  rw [Array.all_append, Bool.and_eq_true]
  exact ⟨strOk_mk h.mm, zs⟩
theorem signs_pl (s : Str) (h : ∀ c ∈ L s, c = 104 ∨ c = 97) : plainL ((Rx.signs s).map fun y_ : Str => D.v (V.str y_)) = true ∧ PyData.canLayAll0 (pyL ((Rx.signs s).map fun y_ : Str => D.v (V.str y_))) = true ∧ PyData.depthAll (pyL ((Rx.signs s).map fun y_ : Str => D.v (V.str y_))) ≤ 1 := by
  unfold Rx.signs
  show plainL (((L s).map _).map _) = true ∧ PyData.canLayAll0 (pyL (((L s).map _).map _)) = true ∧ PyData.depthAll (pyL (((L s).map _).map _)) ≤ 1
  revert h
  induction L s with
  | nil => exact fun _ => ⟨rfl, rfl, by simp [pyL, PyData.depthAll]⟩
  | cons c l ih =>
    intro h
    obtain ⟨i1, i2, i3⟩ := ih fun c hc => h c (List.mem_cons_of_mem _ hc)
    have hc := h c List.mem_cons_self
    have s1 : PyData.strOk ⟨#[c]⟩ = true := strOk_mk (s := ⟨#[c]⟩) (by rw [L_one]; intro x hx; rw [List.mem_singleton.mp hx]; exact hc)
    refine ⟨?_, ?_, ?_⟩
    · simp only [List.map_cons, plainL, plainD, Bool.true_and]
      exact i1
    · simp only [List.map_cons, pyL, pyOf, PyData.canLayAll0, PyData.canLay0, s1, Bool.true_and]
      exact i2
    · simp only [List.map_cons, pyL, pyOf, PyData.depthAll, PyData.depth]
      omega
theorem refused_ok {k : Bool → Prop} (q : k true) : M_refused_right k := by
  unfold M_refused_right
  refine marks_ok (by decide) (by decide) fun s hs hl => ?_
  have l9 : (L s).length ≤ 9 := by omega
  have sz : sizeLine = 16777216 := sizeLine_eq
  have sl : s.length ≤ 9 := by rw [len_L]; exact l9
  refine ⟨by rw [show ("H" : Str).length = 1 from rfl]; omega, by rw [show (" " : Str).length = 1 from rfl]; omega, by rw [show ("b" : Str).length = 1 from rfl]; omega, by show s.length ≤ _; omega, by rw [show ("\n" : Str).length = 1 from rfl]; omega, ?_⟩
  have so := strOk_mk hs.mm
  refine forC_ok (fun _ => True) (fun x hx u k' _ hk => ?_) trivial fun u _ => ?_
  · have od : OD x := by
      simp only [List.mem_cons, List.mem_nil_iff, or_false] at hx
      rcases hx with rfl | rfl | rfl | rfl | rfl | rfl | rfl | rfl | rfl | rfl | rfl | rfl | rfl
      · exact od_app hs (by omega) (by decide +kernel) (by decide +kernel) (by unfold bad; decide +kernel)
      · exact od_app hs (by omega) (by decide +kernel) (by decide +kernel) (by unfold bad; decide +kernel)
      · exact od_app hs (by omega) (by decide +kernel) (by decide +kernel) (by unfold bad; decide +kernel)
      · refine ⟨rfl, ?_, .inl (by show (kitB "list" "str").getD false = false; decide +kernel)⟩
        simp [okX, plainD, plainL, pyOf, pyL, PyData.canLay0, PyData.canLayAll0, so, PyData.depth, PyData.depthAll]
      · obtain ⟨p1, p2, p3⟩ := signs_pl s hs.mm
        refine ⟨rfl, ?_, .inl (by show (kitB "list" "str").getD false = false; decide +kernel)⟩
        show (plainL _ && plainL _ && PyData.canLayAll0 _ && PyData.canLayAll0 _ && decide (_ ≤ 60)) = true
        rw [p1, p2]
        refine decide_eq_true ?_
        simp only [pyOf, PyData.depth]
        omega
      · refine ⟨rfl, ?_, .inl (by show (kitB "tuple" "str").getD false = false; decide +kernel)⟩
        simp [okX, plainD, plainL, pyOf, pyL, PyData.canLay0, PyData.canLayAll0, so, PyData.depth, PyData.depthAll]
      · exact ⟨rfl, by decide +kernel, .inl (by show (kitB "NoneType" "str").getD false = false; decide +kernel)⟩
      · exact ⟨rfl, by decide +kernel, .inl (by show (kitB "int" "str").getD false = false; decide +kernel)⟩
      · exact ⟨rfl, by decide +kernel, .inl (by show (kitB "bool" "str").getD false = false; decide +kernel)⟩
      · exact ⟨rfl, by decide +kernel, .inl (by show (kitB "dict" "str").getD false = false; decide +kernel)⟩
      · exact od_str (by decide +kernel) (by decide +kernel) (.inr rfl)
      · exact od_app hs (by omega) (by decide +kernel) (by decide +kernel) (by unfold bad; decide +kernel)
      · exact od_str (by decide +kernel) (by decide +kernel) (.inl (by unfold bad; decide +kernel))
    obtain ⟨d1, d2⟩ := due_ok od
    refine breaksD_ok (KM := fun _ => False) od ⟨d1, ?_⟩
    rw [if_neg (by
      show ¬ (!((List.zip (due x) (due x)).all fun p_ => eqX p_.1 p_.2)) = true
      rw [d2]
      decide)]
    refine staysD_ok (KM := fun _ => False) od ⟨d1, ?_⟩
    rw [if_neg (by
      show ¬ (!((List.zip (due x) (due x)).all fun p_ => eqX p_.1 p_.2)) = true
      rw [d2]
      decide)]
    exact hk _ trivial
  · refine stays_in_ok hs ⟨⟨rfl, rfl, by decide +kernel, by decide +kernel⟩, ?_⟩
    have e : PyData.eqv (pyOf (D.lst (([("made" : Str)] : List Str).map (fun y_ : Str => (D.v (V.str y_)))))) (pyOf (D.lst (([("made" : Str)] : List Str).map (fun y_ : Str => (D.v (V.str y_)))))) = true := by decide +kernel
    rw [e]
    exact q
theorem right_true : M_right fun r => r = true := by
  unfold M_right
  refine pick_ok (by decide) (by decide) fun m hm => ?_
  have hm2 : 1 ≤ m ∧ m ≤ 400 := by
    simp only [List.mem_cons, List.mem_nil_iff, or_false] at hm
    omega
  refine marks_ok hm2.1 hm2.2 fun s hs sl => marks_ok (by decide) (by decide) fun t ht tl => ?_
  refine row_right_ok hs ?_
  rw [if_neg (by decide)]
  refine row_right_ok ht ?_
  rw [if_neg (by decide)]
  refine joined_ok hs ht (by omega) (by omega) ?_
  rw [if_neg (by decide)]
  refine joined_ok ht hs (by omega) (by omega) ?_
  rw [if_pos rfl]
  refine others_ok ?_
  rw [if_pos rfl]
  exact refused_ok rfl

def sp_law (A : Ad) (K : PySem.W.Frag) : Sp := fun vs H Q _ => ∃ (a : Addr) (ns : List Int), vs = [.ref a] ∧ SqL K H a (ns.map V.int) ∧ ns.length ≤ 63 ∧ (∀ p ∈ A.tbs, H p.1 = some (.tbl #[])) ∧ ∀ H1 : Hp, Q (.bl true) H1
theorem law_enter {A : Ad} {K : PySem.W.Frag} {H : Hp} {a : Addr} {ns : List Int} (hl : ns.length ≤ 63) (ht : ∀ p ∈ A.tbs, H p.1 = some (.tbl #[])) (hS : SqL K H a (ns.map V.int)) : sp_law A K [.ref a] H (fun v _ => v = .bl true) fun _ _ _ => False := ⟨a, ns, rfl, hS, hl, ht, fun _ => rfl⟩
theorem tbs_some (A : Ad) : ∀ p ∈ A.tbs, p.2 ≠ none := by simp [Ad.tbs]
theorem tbs_tab {A : Ad} {H : Hp} {p : PEn} (hp : p ∈ A.tbs) (h : EntH H p) : ∃ xs, H p.1 = some (.tbl xs) := by
  have n := tbs_some A p hp
  obtain ⟨a, k⟩ := p
  cases k with
  | none => exact absurd rfl n
  | some q =>
    obtain ⟨xs, h1, _⟩ := h
    exact ⟨xs, h1⟩
theorem sq_keep {K : PySem.W.Frag} {H H1 : Hp} {a : Addr} {xs : List V} (k : ∀ b o, H b = some o → H1 b = some o) (h : SqL K H a xs) : SqL K H1 a xs := by
  rcases h with (h | ⟨o, h⟩) | h
  · exact .inl (.inl (k _ _ h))
  · exact .inl (.inr ⟨o, k _ _ h⟩)
  · exact .inr h
theorem ok_law {P : Program} {w : World} {K : PySem.W.Frag} {mg : Str → Option Value} {base : Heap} {A : Ad} (T : Txt w K mg base A) : FnG P w K mg base 10 A.a_law A.d_law ["_law_script"] (sp_law A K) := by
  refine okG T.F_law sc_law (fun vs H Q E h => ?_) (fun cdv A_ outer s_ H_0 vs Q E gu hr h => ?_)
  · obtain ⟨a, ns, rfl, _⟩ := h
    rfl
  · obtain ⟨a, ns, rfl, hS, hl, ht0, hQ⟩ := h
    refine ⟨_, pss_one (ps_ret (pe_callB (cr_all rfl) (by rfl) T.z_all (by decide +kernel) (pa_cons (pe_lc (own := [("_law_k", 1)]) (g := gName 1) rfl sc_law.nd
      (pi_range1 (by rfl) T.z_range (pa_cons (pe_callB (call_max2 rfl) (by rfl) T.z_max (by decide +kernel) (pa_cons pe_int (pa_cons (pe_callB (call_min2 rfl) (by rfl) T.z_min (by decide +kernel) (pa_cons (pe_callB call_len (by rfl) T.z_len PySem.boot_len (pa_cons (pv 0) pa_nil)) (pa_cons pe_int pa_nil))) pa_nil))) pa_nil))
      (blkOk_by (N := ["_law_script", "_law_k"]) (sc := defScope s_law) (by decide +kernel)) (fun _ _ _ _ _ => pg_name (i := 1) sc_law.nd rfl (by first | exact Or.inl rfl | exact Or.inr rfl)) (fun _ _ _ _ _ => pts_nil)
      (fun _ _ _ _ _ => pe_callG (ok_right T) gu (hr.mono (by decide)) (by rfl) T.g_right T.F_right.kp T.b_right (pa_cons (pe_call (ok_pot T) (hr.mono (by decide)) (by rfl) T.g_pot T.F_pot.kp T.b_pot .nil pass0 (pa_cons (pv 0) (pa_cons (pv 1) pa_nil))) pa_nil))) pa_nil))), ?_⟩
    refine ⟨_, rfl, _, ns.length, rfl, .inl ⟨_, hS, by rw [List.length_map]⟩, _, _, rfl, _, _, rfl, _, rfl, ?_, ?_, fun L nl => ?_⟩
    · split <;> split <;> omega
    · split <;> split <;> omega
    have hsq : ∀ H : Hp, (∀ o, H_0 a = some o → (∀ xs, o ≠ .tbl xs) → H a = some o) → SqL K H a (ns.map V.int) := fun H k => by
      rcases hS with (h | ⟨o, h⟩) | h
      · exact .inl (.inl (k _ h fun _ z => nomatch z))
      · exact .inl (.inr ⟨o, k _ h fun _ z => nomatch z⟩)
      · exact .inr h
    have e0 := Rx.Ext.new (o := .lst []) nl
    have ht1 : ∀ p ∈ A.tbs, EntH (upd H_0 L (.lst [])) p := fun p hp => by
      have n := tbs_some A p hp
      have h0 := e0.keep (ht0 p hp)
      obtain ⟨b, k⟩ := p
      cases k with
      | none => exact absurd rfl n
      | some q => exact LamX.TabS.nil h0
    refine lc_range (lo := 0) (fun i H => (∀ o, H_0 a = some o → (∀ xs, o ≠ .tbl xs) → H a = some o) ∧ (∀ p ∈ A.tbs, EntH H p) ∧ ∃ n, n ≤ i ∧ H L = some (.lst (List.replicate n (.bl true)))) ⟨fun o h _ => e0.keep h, ht1, 0, Nat.le_refl _, upd_same⟩ (fun i H hi ⟨hS1, hT, n, hn, hL⟩ => ?_) (fun H ⟨hS1, hT, n, hn, hL⟩ => ?_)
    · refine ⟨rfl, ?_⟩
      refine tyes_of ?_
      have hi4 : i < 64 := by
        refine Nat.lt_of_lt_of_le hi ?_
        split <;> split <;> omega
      refine ⟨_, rfl, _, rfl, a, ns, 0 + (i : Int), rfl, hsq H hS1, hl, by omega, by omega, fun p H1 i1 j1 np e1 hp hj => ?_⟩
      have hE : ∀ b ∈ ((p, none) :: A.tbs : List PEn), EntH H1 b := fun b hb => by
        rcases List.mem_cons.mp hb with rfl | hb
        · exact (⟨i1, j1, hp, hj⟩ : PotH _ _)
        · exact ent_stay (hT b hb) (fun o ho => e1.keep ho) fun c q hc => e1.keep hc
      refine ⟨ad ((p, none) :: A.tbs), p, fun r => r = true, rfl, ⟨fun _ _ _ h => h, fun _ h => h, fun m hm => ?_, hE, fun b hb => hb, fun c hc => absurd hc List.not_mem_nil⟩, right_true, fun r u H2 hr2 e2 hu => ?_⟩
      · obtain ⟨x, hx, rfl⟩ := List.mem_map.mp hm
        exact ent_some (hE x hx)
      · obtain rfl := of_v hu
        have e3 : ∀ b o, (∀ xs, o ≠ .tbl xs) → H b = some o → H2 b = some o := fun b o no h => e2.kp b o (fun z => by
          obtain ⟨x, hx, rfl⟩ := List.mem_map.mp z
          rcases List.mem_cons.mp hx with rfl | hx
          · have h' : H p = some o := h
            rw [np] at h'
            cases h'
          · obtain ⟨xs, hxs⟩ := tbs_tab hx (hT x hx)
            rw [hxs] at h
            cases h
            exact no _ rfl) (e1.keep h)
        have hT2 : ∀ b ∈ A.tbs, EntH H2 b := fun b hb => e2.pot b (List.mem_cons_of_mem _ hb)
        have hL2 := e3 L (.lst (List.replicate n (.bl true))) (fun _ z => nomatch z) hL
        refine ⟨_, hL2, ?_, fun o h no => ?_, fun b hb => ?_, n + 1, Nat.succ_le_succ hn, by rw [upd_same, hr2, List.replicate_succ']⟩
        · rw [List.length_replicate]
          exact Nat.lt_of_le_of_lt (show n ≤ 64 by omega) (by decide)
        · rw [upd_ne (ne_of_none h nl)]
          exact e3 _ _ no (hS1 _ h no)
        · obtain ⟨xs, hxs⟩ := tbs_tab hb (hT2 b hb)
          refine ent_stay (hT2 b hb) (fun o ho => ?_) fun c q hc => ?_
          · rw [upd_ne (fun z => by rw [z, hL2] at hxs; cases hxs)]
            exact ho
          · rw [upd_ne (fun z => by rw [z, hL2] at hc; cases hc)]
            exact hc
    · refine ⟨L, List.replicate n true, rfl, .inl (.inl (by rw [List.map_replicate]; exact hL)), ?_⟩
      have : (List.replicate n true).all id = true := by
        rw [List.all_eq_true]
        intro x hx
        rw [(List.mem_replicate.mp hx).2]
        rfl
      rw [this]
      exact hQ _

theorem all_mk {l : PySem.W.OpenLaw} {w : World} {K : PySem.W.Frag} {h : Heap} {mg : Str → Option Value} {fa Adraw Apick Amarks Astays Ais_marks Astays_in Abreaks_in Aother Arow_right Ajoined_right Amany Amixed Aday Adays Ais_list Ais_integer Ais_meeting Ais_round Acheck_rounds ATable_init ATable_size Ais_count Acheck_team Amark_in ATable_row_of Acheck_part AWord_init AWord_least Acheck_places AWord_row Arows_of_others_right Atold Arefused_right Aright Apot Alaw AInvalidMarks_init CInvalidMarks CLeagueError Krefused_right TTrefused_right CWord CTable : Addr} (X : K.In h) (G : h.Ns mainGlobals mg) (hfa : mg "law" = some (.ref fa))
    {oddraw andraw : Option Addr} {sldraw : Array (Option Value)} {ocdraw kVdraw dcdraw pmdraw cddraw ctdraw : Value}
    {odpick anpick : Option Addr} {slpick : Array (Option Value)} {ocpick kVpick dcpick pmpick cdpick ctpick : Value}
    {odmarks anmarks : Option Addr} {slmarks : Array (Option Value)} {ocmarks kVmarks dcmarks pmmarks cdmarks ctmarks : Value}
    {odstays anstays : Option Addr} {slstays : Array (Option Value)} {ocstays kVstays dcstays pmstays cdstays ctstays : Value}
    {odis_marks anis_marks : Option Addr} {slis_marks : Array (Option Value)} {ocis_marks kVis_marks dcis_marks pmis_marks cdis_marks ctis_marks : Value}
    {odstays_in anstays_in : Option Addr} {slstays_in : Array (Option Value)} {ocstays_in kVstays_in dcstays_in pmstays_in cdstays_in ctstays_in : Value}
    {odbreaks_in anbreaks_in : Option Addr} {slbreaks_in : Array (Option Value)} {ocbreaks_in kVbreaks_in dcbreaks_in pmbreaks_in cdbreaks_in ctbreaks_in : Value}
    {odother another : Option Addr} {slother : Array (Option Value)} {ocother kVother dcother pmother cdother ctother : Value}
    {odrow_right anrow_right : Option Addr} {slrow_right : Array (Option Value)} {ocrow_right kVrow_right dcrow_right pmrow_right cdrow_right ctrow_right : Value}
    {odjoined_right anjoined_right : Option Addr} {sljoined_right : Array (Option Value)} {ocjoined_right kVjoined_right dcjoined_right pmjoined_right cdjoined_right ctjoined_right : Value}
    {odmany anmany : Option Addr} {slmany : Array (Option Value)} {ocmany kVmany dcmany pmmany cdmany ctmany : Value}
    {odmixed anmixed : Option Addr} {slmixed : Array (Option Value)} {ocmixed kVmixed dcmixed pmmixed cdmixed ctmixed : Value}
    {odday anday : Option Addr} {slday : Array (Option Value)} {ocday kVday dcday pmday cdday ctday : Value}
    {oddays andays : Option Addr} {sldays : Array (Option Value)} {ocdays kVdays dcdays pmdays cddays ctdays : Value}
    {odis_list anis_list : Option Addr} {slis_list : Array (Option Value)} {ocis_list kVis_list dcis_list pmis_list cdis_list ctis_list : Value}
    {odis_integer anis_integer : Option Addr} {slis_integer : Array (Option Value)} {ocis_integer kVis_integer dcis_integer pmis_integer cdis_integer ctis_integer : Value}
    {odis_meeting anis_meeting : Option Addr} {slis_meeting : Array (Option Value)} {ocis_meeting kVis_meeting dcis_meeting pmis_meeting cdis_meeting ctis_meeting : Value}
    {odis_round anis_round : Option Addr} {slis_round : Array (Option Value)} {ocis_round kVis_round dcis_round pmis_round cdis_round ctis_round : Value}
    {odcheck_rounds ancheck_rounds : Option Addr} {slcheck_rounds : Array (Option Value)} {occheck_rounds kVcheck_rounds dccheck_rounds pmcheck_rounds cdcheck_rounds ctcheck_rounds : Value}
    {odTable_init anTable_init : Option Addr} {slTable_init : Array (Option Value)} {ocTable_init kVTable_init dcTable_init pmTable_init cdTable_init ctTable_init : Value}
    {PTable_size : Addr}
    {RTable_size : List Value}
    {odTable_size anTable_size : Option Addr} {slTable_size : Array (Option Value)} {ocTable_size kVTable_size dcTable_size pmTable_size cdTable_size ctTable_size : Value}
    {odis_count anis_count : Option Addr} {slis_count : Array (Option Value)} {ocis_count kVis_count dcis_count pmis_count cdis_count ctis_count : Value}
    {odcheck_team ancheck_team : Option Addr} {slcheck_team : Array (Option Value)} {occheck_team kVcheck_team dccheck_team pmcheck_team cdcheck_team ctcheck_team : Value}
    {odmark_in anmark_in : Option Addr} {slmark_in : Array (Option Value)} {ocmark_in kVmark_in dcmark_in pmmark_in cdmark_in ctmark_in : Value}
    {odTable_row_of anTable_row_of : Option Addr} {slTable_row_of : Array (Option Value)} {ocTable_row_of kVTable_row_of dcTable_row_of pmTable_row_of cdTable_row_of ctTable_row_of : Value}
    {odcheck_part ancheck_part : Option Addr} {slcheck_part : Array (Option Value)} {occheck_part kVcheck_part dccheck_part pmcheck_part cdcheck_part ctcheck_part : Value}
    {odWord_init anWord_init : Option Addr} {slWord_init : Array (Option Value)} {ocWord_init kVWord_init dcWord_init pmWord_init cdWord_init ctWord_init : Value}
    {PWord_least : Addr}
    {RWord_least : List Value}
    {odWord_least anWord_least : Option Addr} {slWord_least : Array (Option Value)} {ocWord_least kVWord_least dcWord_least pmWord_least cdWord_least ctWord_least : Value}
    {odcheck_places ancheck_places : Option Addr} {slcheck_places : Array (Option Value)} {occheck_places kVcheck_places dccheck_places pmcheck_places cdcheck_places ctcheck_places : Value}
    {odWord_row anWord_row : Option Addr} {slWord_row : Array (Option Value)} {ocWord_row kVWord_row dcWord_row pmWord_row cdWord_row ctWord_row : Value}
    {odrows_of_others_right anrows_of_others_right : Option Addr} {slrows_of_others_right : Array (Option Value)} {ocrows_of_others_right kVrows_of_others_right dcrows_of_others_right pmrows_of_others_right cdrows_of_others_right ctrows_of_others_right : Value}
    {odtold antold : Option Addr} {sltold : Array (Option Value)} {octold kVtold dctold pmtold cdtold cttold : Value}
    {odrefused_right anrefused_right : Option Addr} {slrefused_right : Array (Option Value)} {ocrefused_right kVrefused_right dcrefused_right pmrefused_right ctrefused_right : Value}
    {odright anright : Option Addr} {slright : Array (Option Value)} {ocright kVright dcright pmright cdright ctright : Value}
    {odpot anpot : Option Addr} {slpot : Array (Option Value)} {ocpot kVpot dcpot pmpot cdpot ctpot : Value}
    {odlaw anlaw : Option Addr} {sllaw : Array (Option Value)} {oclaw kVlaw dclaw pmlaw cdlaw ctlaw : Value}
    {odInvalidMarks_init anInvalidMarks_init : Option Addr} {slInvalidMarks_init : Array (Option Value)} {ocInvalidMarks_init kVInvalidMarks_init dcInvalidMarks_init pmInvalidMarks_init cdInvalidMarks_init ctInvalidMarks_init : Value}
    {xnInvalidMarks xqInvalidMarks : Str} {xNInvalidMarks : Addr} {xbInvalidMarks xmInvalidMarks : List Value} {xsInvalidMarks : List Str} {xuInvalidMarks : List Value} {xaInvalidMarks : Bool} {xlInvalidMarks : Option Bool} {xdInvalidMarks : Option Addr} {x0InvalidMarks x1InvalidMarks x2InvalidMarks x3InvalidMarks x5InvalidMarks : Option Value}
    {kocrefused_right : Value} {kodrefused_right : Option Addr} {kwsrefused_right : Array Value} {kslrefused_right : Array (Option Value)}
    {tFEWEST_MEETINGS : Tok}
    {tMOST_MARKS : Tok}
    {tMOST_MEETINGS : Tok}
    {tMOST_PLACES : Tok}
    {tMOST_ROUNDS : Tok}
    (a_draw : PySem.W.nsIn K mainGlobals "_law_draw" = some (some (.ref Adraw)))
    (l_draw : K.lookup Adraw = some ⟨ocdraw, oddraw, .func (PySem.W.fnOf "_law_draw" "_law_draw" (defArgs s_draw) (defBody s_draw) (defScope s_draw) .none kVdraw dcdraw pmdraw andraw cddraw ctdraw), sldraw⟩)
    (o_draw : PySem.W.codeIn K cddraw "_law_draw" = true)
    (k_draw : PySem.W.keepIn K (.ref Adraw) = true)
    (a_pick : PySem.W.nsIn K mainGlobals "_law_pick" = some (some (.ref Apick)))
    (l_pick : K.lookup Apick = some ⟨ocpick, odpick, .func (PySem.W.fnOf "_law_pick" "_law_pick" (defArgs s_pick) (defBody s_pick) (defScope s_pick) .none kVpick dcpick pmpick anpick cdpick ctpick), slpick⟩)
    (o_pick : PySem.W.codeIn K cdpick "_law_pick" = true)
    (k_pick : PySem.W.keepIn K (.ref Apick) = true)
    (a_marks : PySem.W.nsIn K mainGlobals "_law_marks" = some (some (.ref Amarks)))
    (l_marks : K.lookup Amarks = some ⟨ocmarks, odmarks, .func (PySem.W.fnOf "_law_marks" "_law_marks" (defArgs s_marks) (defBody s_marks) (defScope s_marks) .none kVmarks dcmarks pmmarks anmarks cdmarks ctmarks), slmarks⟩)
    (o_marks : PySem.W.codeIn K cdmarks "_law_marks" = true)
    (k_marks : PySem.W.keepIn K (.ref Amarks) = true)
    (a_stays : PySem.W.nsIn K mainGlobals "_law_stays" = some (some (.ref Astays)))
    (l_stays : K.lookup Astays = some ⟨ocstays, odstays, .func (PySem.W.fnOf "_law_stays" "_law_stays" (defArgs s_stays) (defBody s_stays) (defScope s_stays) .none kVstays dcstays pmstays anstays cdstays ctstays), slstays⟩)
    (o_stays : PySem.W.codeIn K cdstays "_law_stays" = true)
    (k_stays : PySem.W.keepIn K (.ref Astays) = true)
    (a_is_marks : PySem.W.nsIn K mainGlobals "is_marks" = some (some (.ref Ais_marks)))
    (l_is_marks : K.lookup Ais_marks = some ⟨ocis_marks, odis_marks, .func (PySem.W.fnOf "is_marks" "is_marks" (defArgs s_is_marks) (defBody s_is_marks) (defScope s_is_marks) .none kVis_marks dcis_marks pmis_marks anis_marks cdis_marks ctis_marks), slis_marks⟩)
    (o_is_marks : PySem.W.codeIn K cdis_marks "is_marks" = true)
    (k_is_marks : PySem.W.keepIn K (.ref Ais_marks) = true)
    (a_stays_in : PySem.W.nsIn K mainGlobals "stays_in" = some (some (.ref Astays_in)))
    (l_stays_in : K.lookup Astays_in = some ⟨ocstays_in, odstays_in, .func (PySem.W.fnOf "stays_in" "stays_in" (defArgs s_stays_in) (defBody s_stays_in) (defScope s_stays_in) .none kVstays_in dcstays_in pmstays_in anstays_in cdstays_in ctstays_in), slstays_in⟩)
    (o_stays_in : PySem.W.codeIn K cdstays_in "stays_in" = true)
    (k_stays_in : PySem.W.keepIn K (.ref Astays_in) = true)
    (a_breaks_in : PySem.W.nsIn K mainGlobals "breaks_in" = some (some (.ref Abreaks_in)))
    (l_breaks_in : K.lookup Abreaks_in = some ⟨ocbreaks_in, odbreaks_in, .func (PySem.W.fnOf "breaks_in" "breaks_in" (defArgs s_breaks_in) (defBody s_breaks_in) (defScope s_breaks_in) .none kVbreaks_in dcbreaks_in pmbreaks_in anbreaks_in cdbreaks_in ctbreaks_in), slbreaks_in⟩)
    (o_breaks_in : PySem.W.codeIn K cdbreaks_in "breaks_in" = true)
    (k_breaks_in : PySem.W.keepIn K (.ref Abreaks_in) = true)
    (a_other : PySem.W.nsIn K mainGlobals "_law_other" = some (some (.ref Aother)))
    (l_other : K.lookup Aother = some ⟨ocother, odother, .func (PySem.W.fnOf "_law_other" "_law_other" (defArgs s_other) (defBody s_other) (defScope s_other) .none kVother dcother pmother another cdother ctother), slother⟩)
    (o_other : PySem.W.codeIn K cdother "_law_other" = true)
    (k_other : PySem.W.keepIn K (.ref Aother) = true)
    (a_row_right : PySem.W.nsIn K mainGlobals "_law_row_right" = some (some (.ref Arow_right)))
    (l_row_right : K.lookup Arow_right = some ⟨ocrow_right, odrow_right, .func (PySem.W.fnOf "_law_row_right" "_law_row_right" (defArgs s_row_right) (defBody s_row_right) (defScope s_row_right) .none kVrow_right dcrow_right pmrow_right anrow_right cdrow_right ctrow_right), slrow_right⟩)
    (o_row_right : PySem.W.codeIn K cdrow_right "_law_row_right" = true)
    (k_row_right : PySem.W.keepIn K (.ref Arow_right) = true)
    (a_joined_right : PySem.W.nsIn K mainGlobals "_law_joined_right" = some (some (.ref Ajoined_right)))
    (l_joined_right : K.lookup Ajoined_right = some ⟨ocjoined_right, odjoined_right, .func (PySem.W.fnOf "_law_joined_right" "_law_joined_right" (defArgs s_joined_right) (defBody s_joined_right) (defScope s_joined_right) .none kVjoined_right dcjoined_right pmjoined_right anjoined_right cdjoined_right ctjoined_right), sljoined_right⟩)
    (o_joined_right : PySem.W.codeIn K cdjoined_right "_law_joined_right" = true)
    (k_joined_right : PySem.W.keepIn K (.ref Ajoined_right) = true)
    (a_many : PySem.W.nsIn K mainGlobals "_law_many" = some (some (.ref Amany)))
    (l_many : K.lookup Amany = some ⟨ocmany, odmany, .func (PySem.W.fnOf "_law_many" "_law_many" (defArgs s_many) (defBody s_many) (defScope s_many) .none kVmany dcmany pmmany anmany cdmany ctmany), slmany⟩)
    (o_many : PySem.W.codeIn K cdmany "_law_many" = true)
    (k_many : PySem.W.keepIn K (.ref Amany) = true)
    (a_mixed : PySem.W.nsIn K mainGlobals "_law_mixed" = some (some (.ref Amixed)))
    (l_mixed : K.lookup Amixed = some ⟨ocmixed, odmixed, .func (PySem.W.fnOf "_law_mixed" "_law_mixed" (defArgs s_mixed) (defBody s_mixed) (defScope s_mixed) .none kVmixed dcmixed pmmixed anmixed cdmixed ctmixed), slmixed⟩)
    (o_mixed : PySem.W.codeIn K cdmixed "_law_mixed" = true)
    (k_mixed : PySem.W.keepIn K (.ref Amixed) = true)
    (a_day : PySem.W.nsIn K mainGlobals "_law_day" = some (some (.ref Aday)))
    (l_day : K.lookup Aday = some ⟨ocday, odday, .func (PySem.W.fnOf "_law_day" "_law_day" (defArgs s_day) (defBody s_day) (defScope s_day) .none kVday dcday pmday anday cdday ctday), slday⟩)
    (o_day : PySem.W.codeIn K cdday "_law_day" = true)
    (k_day : PySem.W.keepIn K (.ref Aday) = true)
    (a_days : PySem.W.nsIn K mainGlobals "_law_days" = some (some (.ref Adays)))
    (l_days : K.lookup Adays = some ⟨ocdays, oddays, .func (PySem.W.fnOf "_law_days" "_law_days" (defArgs s_days) (defBody s_days) (defScope s_days) .none kVdays dcdays pmdays andays cddays ctdays), sldays⟩)
    (o_days : PySem.W.codeIn K cddays "_law_days" = true)
    (k_days : PySem.W.keepIn K (.ref Adays) = true)
    (a_is_list : PySem.W.nsIn K mainGlobals "is_list" = some (some (.ref Ais_list)))
    (l_is_list : K.lookup Ais_list = some ⟨ocis_list, odis_list, .func (PySem.W.fnOf "is_list" "is_list" (defArgs s_is_list) (defBody s_is_list) (defScope s_is_list) .none kVis_list dcis_list pmis_list anis_list cdis_list ctis_list), slis_list⟩)
    (o_is_list : PySem.W.codeIn K cdis_list "is_list" = true)
    (k_is_list : PySem.W.keepIn K (.ref Ais_list) = true)
    (a_is_integer : PySem.W.nsIn K mainGlobals "is_integer" = some (some (.ref Ais_integer)))
    (l_is_integer : K.lookup Ais_integer = some ⟨ocis_integer, odis_integer, .func (PySem.W.fnOf "is_integer" "is_integer" (defArgs s_is_integer) (defBody s_is_integer) (defScope s_is_integer) .none kVis_integer dcis_integer pmis_integer anis_integer cdis_integer ctis_integer), slis_integer⟩)
    (o_is_integer : PySem.W.codeIn K cdis_integer "is_integer" = true)
    (k_is_integer : PySem.W.keepIn K (.ref Ais_integer) = true)
    (a_is_meeting : PySem.W.nsIn K mainGlobals "_is_meeting" = some (some (.ref Ais_meeting)))
    (l_is_meeting : K.lookup Ais_meeting = some ⟨ocis_meeting, odis_meeting, .func (PySem.W.fnOf "_is_meeting" "_is_meeting" (defArgs s_is_meeting) (defBody s_is_meeting) (defScope s_is_meeting) .none kVis_meeting dcis_meeting pmis_meeting anis_meeting cdis_meeting ctis_meeting), slis_meeting⟩)
    (o_is_meeting : PySem.W.codeIn K cdis_meeting "_is_meeting" = true)
    (k_is_meeting : PySem.W.keepIn K (.ref Ais_meeting) = true)
    (a_is_round : PySem.W.nsIn K mainGlobals "is_round" = some (some (.ref Ais_round)))
    (l_is_round : K.lookup Ais_round = some ⟨ocis_round, odis_round, .func (PySem.W.fnOf "is_round" "is_round" (defArgs s_is_round) (defBody s_is_round) (defScope s_is_round) .none kVis_round dcis_round pmis_round anis_round cdis_round ctis_round), slis_round⟩)
    (o_is_round : PySem.W.codeIn K cdis_round "is_round" = true)
    (k_is_round : PySem.W.keepIn K (.ref Ais_round) = true)
    (a_check_rounds : PySem.W.nsIn K mainGlobals "_check_rounds" = some (some (.ref Acheck_rounds)))
    (l_check_rounds : K.lookup Acheck_rounds = some ⟨occheck_rounds, odcheck_rounds, .func (PySem.W.fnOf "_check_rounds" "_check_rounds" (defArgs s_check_rounds) (defBody s_check_rounds) (defScope s_check_rounds) .none kVcheck_rounds dccheck_rounds pmcheck_rounds ancheck_rounds cdcheck_rounds ctcheck_rounds), slcheck_rounds⟩)
    (o_check_rounds : PySem.W.codeIn K cdcheck_rounds "_check_rounds" = true)
    (k_check_rounds : PySem.W.keepIn K (.ref Acheck_rounds) = true)
    (a_Table_init : PySem.W.findIn K (.ref CTable) "__init__" = some (some (.ref ATable_init)))
    (i_Table_init : PySem.W.isFn K (.ref ATable_init) = true)
    (l_Table_init : K.lookup ATable_init = some ⟨ocTable_init, odTable_init, .func (PySem.W.fnOf "__init__" "Table.__init__" (defArgs s_Table_init) (defBody s_Table_init) (defScope s_Table_init) .none kVTable_init dcTable_init pmTable_init anTable_init cdTable_init ctTable_init), slTable_init⟩)
    (o_Table_init : PySem.W.codeIn K cdTable_init "Table.__init__" = true)
    (k_Table_init : PySem.W.keepIn K (.ref ATable_init) = true)
    (pa_Table_size : PySem.W.findIn K (.ref CTable) "size" = some (some (.ref PTable_size)))
    (pg_Table_size : PySem.W.specialIn K (.ref PTable_size) "__get__" = some (some (.builtin "property.__get__")))
    (pt_Table_size : PySem.W.takesIn K (.ref PTable_size) = some true)
    (pr_Table_size : PySem.W.recIn K PTable_size "property" = some (.ref ATable_size :: RTable_size))
    (l_Table_size : K.lookup ATable_size = some ⟨ocTable_size, odTable_size, .func (PySem.W.fnOf "size" "Table.size" (defArgs s_Table_size) (defBody s_Table_size) (defScope s_Table_size) .none kVTable_size dcTable_size pmTable_size anTable_size cdTable_size ctTable_size), slTable_size⟩)
    (o_Table_size : PySem.W.codeIn K cdTable_size "Table.size" = true)
    (k_Table_size : PySem.W.keepIn K (.ref ATable_size) = true)
    (a_is_count : PySem.W.nsIn K mainGlobals "is_count" = some (some (.ref Ais_count)))
    (l_is_count : K.lookup Ais_count = some ⟨ocis_count, odis_count, .func (PySem.W.fnOf "is_count" "is_count" (defArgs s_is_count) (defBody s_is_count) (defScope s_is_count) .none kVis_count dcis_count pmis_count anis_count cdis_count ctis_count), slis_count⟩)
    (o_is_count : PySem.W.codeIn K cdis_count "is_count" = true)
    (k_is_count : PySem.W.keepIn K (.ref Ais_count) = true)
    (a_check_team : PySem.W.nsIn K mainGlobals "check_team" = some (some (.ref Acheck_team)))
    (l_check_team : K.lookup Acheck_team = some ⟨occheck_team, odcheck_team, .func (PySem.W.fnOf "check_team" "check_team" (defArgs s_check_team) (defBody s_check_team) (defScope s_check_team) .none kVcheck_team dccheck_team pmcheck_team ancheck_team cdcheck_team ctcheck_team), slcheck_team⟩)
    (o_check_team : PySem.W.codeIn K cdcheck_team "check_team" = true)
    (k_check_team : PySem.W.keepIn K (.ref Acheck_team) = true)
    (a_mark_in : PySem.W.nsIn K mainGlobals "_mark_in" = some (some (.ref Amark_in)))
    (l_mark_in : K.lookup Amark_in = some ⟨ocmark_in, odmark_in, .func (PySem.W.fnOf "_mark_in" "_mark_in" (defArgs s_mark_in) (defBody s_mark_in) (defScope s_mark_in) .none kVmark_in dcmark_in pmmark_in anmark_in cdmark_in ctmark_in), slmark_in⟩)
    (o_mark_in : PySem.W.codeIn K cdmark_in "_mark_in" = true)
    (k_mark_in : PySem.W.keepIn K (.ref Amark_in) = true)
    (a_Table_row_of : PySem.W.findIn K (.ref CTable) "row_of" = some (some (.ref ATable_row_of)))
    (i_Table_row_of : PySem.W.isFn K (.ref ATable_row_of) = true)
    (l_Table_row_of : K.lookup ATable_row_of = some ⟨ocTable_row_of, odTable_row_of, .func (PySem.W.fnOf "row_of" "Table.row_of" (defArgs s_Table_row_of) (defBody s_Table_row_of) (defScope s_Table_row_of) .none kVTable_row_of dcTable_row_of pmTable_row_of anTable_row_of cdTable_row_of ctTable_row_of), slTable_row_of⟩)
    (o_Table_row_of : PySem.W.codeIn K cdTable_row_of "Table.row_of" = true)
    (k_Table_row_of : PySem.W.keepIn K (.ref ATable_row_of) = true)
    (a_check_part : PySem.W.nsIn K mainGlobals "_check_part" = some (some (.ref Acheck_part)))
    (l_check_part : K.lookup Acheck_part = some ⟨occheck_part, odcheck_part, .func (PySem.W.fnOf "_check_part" "_check_part" (defArgs s_check_part) (defBody s_check_part) (defScope s_check_part) .none kVcheck_part dccheck_part pmcheck_part ancheck_part cdcheck_part ctcheck_part), slcheck_part⟩)
    (o_check_part : PySem.W.codeIn K cdcheck_part "_check_part" = true)
    (k_check_part : PySem.W.keepIn K (.ref Acheck_part) = true)
    (a_Word_init : PySem.W.findIn K (.ref CWord) "__init__" = some (some (.ref AWord_init)))
    (i_Word_init : PySem.W.isFn K (.ref AWord_init) = true)
    (l_Word_init : K.lookup AWord_init = some ⟨ocWord_init, odWord_init, .func (PySem.W.fnOf "__init__" "Word.__init__" (defArgs s_Word_init) (defBody s_Word_init) (defScope s_Word_init) .none kVWord_init dcWord_init pmWord_init anWord_init cdWord_init ctWord_init), slWord_init⟩)
    (o_Word_init : PySem.W.codeIn K cdWord_init "Word.__init__" = true)
    (k_Word_init : PySem.W.keepIn K (.ref AWord_init) = true)
    (pa_Word_least : PySem.W.findIn K (.ref CWord) "least" = some (some (.ref PWord_least)))
    (pg_Word_least : PySem.W.specialIn K (.ref PWord_least) "__get__" = some (some (.builtin "property.__get__")))
    (pt_Word_least : PySem.W.takesIn K (.ref PWord_least) = some true)
    (pr_Word_least : PySem.W.recIn K PWord_least "property" = some (.ref AWord_least :: RWord_least))
    (l_Word_least : K.lookup AWord_least = some ⟨ocWord_least, odWord_least, .func (PySem.W.fnOf "least" "Word.least" (defArgs s_Word_least) (defBody s_Word_least) (defScope s_Word_least) .none kVWord_least dcWord_least pmWord_least anWord_least cdWord_least ctWord_least), slWord_least⟩)
    (o_Word_least : PySem.W.codeIn K cdWord_least "Word.least" = true)
    (k_Word_least : PySem.W.keepIn K (.ref AWord_least) = true)
    (a_check_places : PySem.W.nsIn K mainGlobals "_check_places" = some (some (.ref Acheck_places)))
    (l_check_places : K.lookup Acheck_places = some ⟨occheck_places, odcheck_places, .func (PySem.W.fnOf "_check_places" "_check_places" (defArgs s_check_places) (defBody s_check_places) (defScope s_check_places) .none kVcheck_places dccheck_places pmcheck_places ancheck_places cdcheck_places ctcheck_places), slcheck_places⟩)
    (o_check_places : PySem.W.codeIn K cdcheck_places "_check_places" = true)
    (k_check_places : PySem.W.keepIn K (.ref Acheck_places) = true)
    (a_Word_row : PySem.W.findIn K (.ref CWord) "row" = some (some (.ref AWord_row)))
    (i_Word_row : PySem.W.isFn K (.ref AWord_row) = true)
    (l_Word_row : K.lookup AWord_row = some ⟨ocWord_row, odWord_row, .func (PySem.W.fnOf "row" "Word.row" (defArgs s_Word_row) (defBody s_Word_row) (defScope s_Word_row) .none kVWord_row dcWord_row pmWord_row anWord_row cdWord_row ctWord_row), slWord_row⟩)
    (o_Word_row : PySem.W.codeIn K cdWord_row "Word.row" = true)
    (k_Word_row : PySem.W.keepIn K (.ref AWord_row) = true)
    (a_rows_of_others_right : PySem.W.nsIn K mainGlobals "_law_rows_of_others_right" = some (some (.ref Arows_of_others_right)))
    (l_rows_of_others_right : K.lookup Arows_of_others_right = some ⟨ocrows_of_others_right, odrows_of_others_right, .func (PySem.W.fnOf "_law_rows_of_others_right" "_law_rows_of_others_right" (defArgs s_rows_of_others_right) (defBody s_rows_of_others_right) (defScope s_rows_of_others_right) .none kVrows_of_others_right dcrows_of_others_right pmrows_of_others_right anrows_of_others_right cdrows_of_others_right ctrows_of_others_right), slrows_of_others_right⟩)
    (o_rows_of_others_right : PySem.W.codeIn K cdrows_of_others_right "_law_rows_of_others_right" = true)
    (k_rows_of_others_right : PySem.W.keepIn K (.ref Arows_of_others_right) = true)
    (a_told : PySem.W.nsIn K mainGlobals "_law_told" = some (some (.ref Atold)))
    (l_told : K.lookup Atold = some ⟨octold, odtold, .func (PySem.W.fnOf "_law_told" "_law_told" (defArgs s_told) (defBody s_told) (defScope s_told) .none kVtold dctold pmtold antold cdtold cttold), sltold⟩)
    (o_told : PySem.W.codeIn K cdtold "_law_told" = true)
    (k_told : PySem.W.keepIn K (.ref Atold) = true)
    (a_refused_right : PySem.W.nsIn K mainGlobals "_law_refused_right" = some (some (.ref Arefused_right)))
    (l_refused_right : K.lookup Arefused_right = some ⟨ocrefused_right, odrefused_right, .func (PySem.W.fnOf "_law_refused_right" "_law_refused_right" (defArgs s_refused_right) (defBody s_refused_right) (defScope s_refused_right) .none kVrefused_right dcrefused_right pmrefused_right anrefused_right (.ref Krefused_right) ctrefused_right), slrefused_right⟩)
    (o_refused_right : PySem.W.codeIn K (.ref Krefused_right) "_law_refused_right" = true)
    (k_refused_right : PySem.W.keepIn K (.ref Arefused_right) = true)
    (a_right : PySem.W.nsIn K mainGlobals "_law_right" = some (some (.ref Aright)))
    (l_right : K.lookup Aright = some ⟨ocright, odright, .func (PySem.W.fnOf "_law_right" "_law_right" (defArgs s_right) (defBody s_right) (defScope s_right) .none kVright dcright pmright anright cdright ctright), slright⟩)
    (o_right : PySem.W.codeIn K cdright "_law_right" = true)
    (k_right : PySem.W.keepIn K (.ref Aright) = true)
    (a_pot : PySem.W.nsIn K mainGlobals "_law_pot" = some (some (.ref Apot)))
    (l_pot : K.lookup Apot = some ⟨ocpot, odpot, .func (PySem.W.fnOf "_law_pot" "_law_pot" (defArgs s_pot) (defBody s_pot) (defScope s_pot) .none kVpot dcpot pmpot anpot cdpot ctpot), slpot⟩)
    (o_pot : PySem.W.codeIn K cdpot "_law_pot" = true)
    (k_pot : PySem.W.keepIn K (.ref Apot) = true)
    (a_law : PySem.W.nsIn K mainGlobals "law" = some (some (.ref Alaw)))
    (l_law : K.lookup Alaw = some ⟨oclaw, odlaw, .func (PySem.W.fnOf "law" "law" (defArgs s_law) (defBody s_law) (defScope s_law) .none kVlaw dclaw pmlaw anlaw cdlaw ctlaw), sllaw⟩)
    (o_law : PySem.W.codeIn K cdlaw "law" = true)
    (k_law : PySem.W.keepIn K (.ref Alaw) = true)
    (a_InvalidMarks_init : PySem.W.findIn K (.ref CInvalidMarks) "__init__" = some (some (.ref AInvalidMarks_init)))
    (i_InvalidMarks_init : PySem.W.isFn K (.ref AInvalidMarks_init) = true)
    (l_InvalidMarks_init : K.lookup AInvalidMarks_init = some ⟨ocInvalidMarks_init, odInvalidMarks_init, .func (PySem.W.fnOf "__init__" "InvalidMarks.__init__" (defArgs s_InvalidMarks_init) (defBody s_InvalidMarks_init) (defScope s_InvalidMarks_init) .none kVInvalidMarks_init dcInvalidMarks_init pmInvalidMarks_init anInvalidMarks_init cdInvalidMarks_init ctInvalidMarks_init), slInvalidMarks_init⟩)
    (o_InvalidMarks_init : PySem.W.codeIn K cdInvalidMarks_init "InvalidMarks.__init__" = true)
    (k_InvalidMarks_init : PySem.W.keepIn K (.ref AInvalidMarks_init) = true)
    (aC_InvalidMarks : PySem.W.nsIn K mainGlobals "InvalidMarks" = some (some (.ref CInvalidMarks)))
    (aC_LeagueError : PySem.W.nsIn K mainGlobals "LeagueError" = some (some (.ref CLeagueError)))
    (xo_InvalidMarks : K.lookup CInvalidMarks = some (excClassObj xnInvalidMarks xqInvalidMarks CInvalidMarks xNInvalidMarks xbInvalidMarks xmInvalidMarks true xsInvalidMarks xuInvalidMarks xaInvalidMarks xlInvalidMarks xdInvalidMarks x0InvalidMarks x1InvalidMarks x2InvalidMarks x3InvalidMarks x5InvalidMarks "ValueError.__new__"))
    (xr_InvalidMarks : PySem.HandSPX.refsVE xmInvalidMarks = true)
    (xs_InvalidMarks : PySem.W.findIn K (.ref CInvalidMarks) "__setattr__" = some (some (.builtin "object.__setattr__")))
    (xe_InvalidMarks : PySem.W.subIn K (.ref CInvalidMarks) (.type "BaseException") = some true)
    (xt_InvalidMarks : PySem.W.typeIn K (.ref CInvalidMarks) = some (.type "type"))
    (xp_InvalidMarks : PySem.W.keepIn K (.ref CInvalidMarks) = true)
    (no_InvalidMarks_value : PySem.W.findIn K (.ref CInvalidMarks) "value" = some none)
    (xga_InvalidMarks : PySem.W.findIn K (.ref CInvalidMarks) "__getattribute__" = some (some (.builtin "BaseException.__getattribute__")))
    (xgg_InvalidMarks : PySem.W.findIn K (.ref CInvalidMarks) "__getattr__" = some none)
    (xhd_InvalidMarks : PySem.W.hasDictIn K CInvalidMarks = true)
    (xca_InvalidMarks : PySem.W.findIn K (.ref CInvalidMarks) "__class__" = some (some (.builtin "object.__class__")))
    (xcn_InvalidMarks : PySem.W.specialIn K (.builtin "object.__class__") "__get__" = some (some (.builtin "getset_descriptor.__get__")))
    (xct_InvalidMarks : PySem.W.takesIn K (.builtin "object.__class__") = some true)
    (xcm_InvalidMarks : PySem.W.mroIn K CInvalidMarks (.type "object") = some true)
    (xm_InvalidMarks_InvalidMarks : PySem.W.exmOne K (.ref CInvalidMarks) (.ref CInvalidMarks) = some true)
    (xk_InvalidMarks_LeagueError : PySem.W.kitOne K (.ref CInvalidMarks) (.ref CLeagueError) = some true)
    (kc_refused_right : K.lookup Krefused_right = some ⟨kocrefused_right, kodrefused_right, .fields kwsrefused_right, kslrefused_right⟩)
    (kw_refused_right : kwsrefused_right[11]? = some (.ref TTrefused_right))
    (kt_refused_right : K.lookup TTrefused_right = none)
    (aC_Word : PySem.W.nsIn K mainGlobals "Word" = some (some (.ref CWord)))
    (pg_Word : PySem.W.plainGet K CWord Str.empty = true)
    (hd_Word : PySem.W.hasDictIn K CWord = true)
    (po_Word : PySem.W.plainOver K CWord = true)
    (sa_Word : PySem.W.findIn K (.ref CWord) "__setattr__" = some (some (.builtin "object.__setattr__")))
    (mk_Word : PySem.W.makesIn K CWord = true)
    (kc_Word : PySem.W.keepIn K (.ref CWord) = true)
    (na_Word__head : PySem.W.findIn K (.ref CWord) "_head" = some none)
    (na_Word__middle : PySem.W.findIn K (.ref CWord) "_middle" = some none)
    (na_Word__tail : PySem.W.findIn K (.ref CWord) "_tail" = some none)
    (aC_Table : PySem.W.nsIn K mainGlobals "Table" = some (some (.ref CTable)))
    (pg_Table : PySem.W.plainGet K CTable Str.empty = true)
    (hd_Table : PySem.W.hasDictIn K CTable = true)
    (po_Table : PySem.W.plainOver K CTable = true)
    (sa_Table : PySem.W.findIn K (.ref CTable) "__setattr__" = some (some (.builtin "object.__setattr__")))
    (mk_Table : PySem.W.makesIn K CTable = true)
    (kc_Table : PySem.W.keepIn K (.ref CTable) = true)
    (na_Table__rounds : PySem.W.findIn K (.ref CTable) "_rounds" = some none)
    (z_abs : PySem.W.nsIn K mainGlobals "abs" = some none)
    (z_all : PySem.W.nsIn K mainGlobals "all" = some none)
    (z_bool : PySem.W.nsIn K mainGlobals "bool" = some none)
    (z_dict : PySem.W.nsIn K mainGlobals "dict" = some none)
    (z_divmod : PySem.W.nsIn K mainGlobals "divmod" = some none)
    (z_enumerate : PySem.W.nsIn K mainGlobals "enumerate" = some none)
    (z_int : PySem.W.nsIn K mainGlobals "int" = some none)
    (z_isinstance : PySem.W.nsIn K mainGlobals "isinstance" = some none)
    (z_len : PySem.W.nsIn K mainGlobals "len" = some none)
    (z_list : PySem.W.nsIn K mainGlobals "list" = some none)
    (z_max : PySem.W.nsIn K mainGlobals "max" = some none)
    (z_min : PySem.W.nsIn K mainGlobals "min" = some none)
    (z_range : PySem.W.nsIn K mainGlobals "range" = some none)
    (z_repr : PySem.W.nsIn K mainGlobals "repr" = some none)
    (z_sorted : PySem.W.nsIn K mainGlobals "sorted" = some none)
    (z_str : PySem.W.nsIn K mainGlobals "str" = some none)
    (z_sum : PySem.W.nsIn K mainGlobals "sum" = some none)
    (z_tuple : PySem.W.nsIn K mainGlobals "tuple" = some none)
    (z_zip : PySem.W.nsIn K mainGlobals "zip" = some none)
    (c_FEWEST_MEETINGS : PySem.W.nsIn K mainGlobals "FEWEST_MEETINGS" = some (some (.int 2 tFEWEST_MEETINGS)))
    (c_MOST_MARKS : PySem.W.nsIn K mainGlobals "MOST_MARKS" = some (some (.int 4 tMOST_MARKS)))
    (c_MOST_MEETINGS : PySem.W.nsIn K mainGlobals "MOST_MEETINGS" = some (some (.int 12 tMOST_MEETINGS)))
    (c_MOST_PLACES : PySem.W.nsIn K mainGlobals "MOST_PLACES" = some (some (.int 2000 tMOST_PLACES)))
    (c_MOST_ROUNDS : PySem.W.nsIn K mainGlobals "MOST_ROUNDS" = some (some (.int 60 tMOST_ROUNDS))) :
    ∃ (fd : FuncData) (cs : List (Addr × Addr)) (sp : Sp), (∀ (s : Shared) (u : Value), BindsTo s fd ⟨[u], []⟩ [("_law_script", u)]) ∧
      (∀ p ∈ cs, K.lookup p.2 = none ∧ ∃ y ∈ (["_law_refused_right"] : List Str), ∃ (f : Addr) (o : Obj) (gd : FuncData) (oc : Value) (od : Option Addr) (ws : Array Value) (sl : Array (Option Value)), mg y = some (.ref f) ∧ K.lookup f = some o ∧ o.data = .func gd ∧ gd.code = .ref p.1 ∧
        K.lookup p.1 = some ⟨oc, od, .fields ws, sl⟩ ∧ ws[11]? = some (.ref p.2)) ∧
      (∀ (H : Hp) (a : Addr) (ns : List Int), ns.length ≤ 63 → (∀ p ∈ cs, H p.2 = some (.tbl #[])) → SqL K H a (ns.map V.int) → sp [.ref a] H (fun v _ => v = .bl true) E0) ∧
      ∀ base : Heap, K.In base → base.Ns mainGlobals mg → (∀ p ∈ cs, LamX.TabB base mg p.1 p.2) → FnG l.prog w K mg base 10 fa fd ["_law_script"] sp := by
  have e := hfa.symm.trans (PySem.W.mg_of X G a_law)
  cases e
  refine ⟨(PySem.W.fnOf "law" "law" (defArgs s_law) (defBody s_law) (defScope s_law) .none kVlaw dclaw pmlaw anlaw cdlaw ctlaw), [(Krefused_right, TTrefused_right)], sp_law ⟨Adraw, (PySem.W.fnOf "_law_draw" "_law_draw" (defArgs s_draw) (defBody s_draw) (defScope s_draw) .none kVdraw dcdraw pmdraw andraw cddraw ctdraw), Apick, (PySem.W.fnOf "_law_pick" "_law_pick" (defArgs s_pick) (defBody s_pick) (defScope s_pick) .none kVpick dcpick pmpick anpick cdpick ctpick), Amarks, (PySem.W.fnOf "_law_marks" "_law_marks" (defArgs s_marks) (defBody s_marks) (defScope s_marks) .none kVmarks dcmarks pmmarks anmarks cdmarks ctmarks), Astays, (PySem.W.fnOf "_law_stays" "_law_stays" (defArgs s_stays) (defBody s_stays) (defScope s_stays) .none kVstays dcstays pmstays anstays cdstays ctstays), Ais_marks, (PySem.W.fnOf "is_marks" "is_marks" (defArgs s_is_marks) (defBody s_is_marks) (defScope s_is_marks) .none kVis_marks dcis_marks pmis_marks anis_marks cdis_marks ctis_marks), Astays_in, (PySem.W.fnOf "stays_in" "stays_in" (defArgs s_stays_in) (defBody s_stays_in) (defScope s_stays_in) .none kVstays_in dcstays_in pmstays_in anstays_in cdstays_in ctstays_in), Abreaks_in, (PySem.W.fnOf "breaks_in" "breaks_in" (defArgs s_breaks_in) (defBody s_breaks_in) (defScope s_breaks_in) .none kVbreaks_in dcbreaks_in pmbreaks_in anbreaks_in cdbreaks_in ctbreaks_in), Aother, (PySem.W.fnOf "_law_other" "_law_other" (defArgs s_other) (defBody s_other) (defScope s_other) .none kVother dcother pmother another cdother ctother), Arow_right, (PySem.W.fnOf "_law_row_right" "_law_row_right" (defArgs s_row_right) (defBody s_row_right) (defScope s_row_right) .none kVrow_right dcrow_right pmrow_right anrow_right cdrow_right ctrow_right), Ajoined_right, (PySem.W.fnOf "_law_joined_right" "_law_joined_right" (defArgs s_joined_right) (defBody s_joined_right) (defScope s_joined_right) .none kVjoined_right dcjoined_right pmjoined_right anjoined_right cdjoined_right ctjoined_right), Amany, (PySem.W.fnOf "_law_many" "_law_many" (defArgs s_many) (defBody s_many) (defScope s_many) .none kVmany dcmany pmmany anmany cdmany ctmany), Amixed, (PySem.W.fnOf "_law_mixed" "_law_mixed" (defArgs s_mixed) (defBody s_mixed) (defScope s_mixed) .none kVmixed dcmixed pmmixed anmixed cdmixed ctmixed), Aday, (PySem.W.fnOf "_law_day" "_law_day" (defArgs s_day) (defBody s_day) (defScope s_day) .none kVday dcday pmday anday cdday ctday), Adays, (PySem.W.fnOf "_law_days" "_law_days" (defArgs s_days) (defBody s_days) (defScope s_days) .none kVdays dcdays pmdays andays cddays ctdays), Ais_list, (PySem.W.fnOf "is_list" "is_list" (defArgs s_is_list) (defBody s_is_list) (defScope s_is_list) .none kVis_list dcis_list pmis_list anis_list cdis_list ctis_list), Ais_integer, (PySem.W.fnOf "is_integer" "is_integer" (defArgs s_is_integer) (defBody s_is_integer) (defScope s_is_integer) .none kVis_integer dcis_integer pmis_integer anis_integer cdis_integer ctis_integer), Ais_meeting, (PySem.W.fnOf "_is_meeting" "_is_meeting" (defArgs s_is_meeting) (defBody s_is_meeting) (defScope s_is_meeting) .none kVis_meeting dcis_meeting pmis_meeting anis_meeting cdis_meeting ctis_meeting), Ais_round, (PySem.W.fnOf "is_round" "is_round" (defArgs s_is_round) (defBody s_is_round) (defScope s_is_round) .none kVis_round dcis_round pmis_round anis_round cdis_round ctis_round), Acheck_rounds, (PySem.W.fnOf "_check_rounds" "_check_rounds" (defArgs s_check_rounds) (defBody s_check_rounds) (defScope s_check_rounds) .none kVcheck_rounds dccheck_rounds pmcheck_rounds ancheck_rounds cdcheck_rounds ctcheck_rounds), ATable_init, (PySem.W.fnOf "__init__" "Table.__init__" (defArgs s_Table_init) (defBody s_Table_init) (defScope s_Table_init) .none kVTable_init dcTable_init pmTable_init anTable_init cdTable_init ctTable_init), ATable_size, (PySem.W.fnOf "size" "Table.size" (defArgs s_Table_size) (defBody s_Table_size) (defScope s_Table_size) .none kVTable_size dcTable_size pmTable_size anTable_size cdTable_size ctTable_size), Ais_count, (PySem.W.fnOf "is_count" "is_count" (defArgs s_is_count) (defBody s_is_count) (defScope s_is_count) .none kVis_count dcis_count pmis_count anis_count cdis_count ctis_count), Acheck_team, (PySem.W.fnOf "check_team" "check_team" (defArgs s_check_team) (defBody s_check_team) (defScope s_check_team) .none kVcheck_team dccheck_team pmcheck_team ancheck_team cdcheck_team ctcheck_team), Amark_in, (PySem.W.fnOf "_mark_in" "_mark_in" (defArgs s_mark_in) (defBody s_mark_in) (defScope s_mark_in) .none kVmark_in dcmark_in pmmark_in anmark_in cdmark_in ctmark_in), ATable_row_of, (PySem.W.fnOf "row_of" "Table.row_of" (defArgs s_Table_row_of) (defBody s_Table_row_of) (defScope s_Table_row_of) .none kVTable_row_of dcTable_row_of pmTable_row_of anTable_row_of cdTable_row_of ctTable_row_of), Acheck_part, (PySem.W.fnOf "_check_part" "_check_part" (defArgs s_check_part) (defBody s_check_part) (defScope s_check_part) .none kVcheck_part dccheck_part pmcheck_part ancheck_part cdcheck_part ctcheck_part), AWord_init, (PySem.W.fnOf "__init__" "Word.__init__" (defArgs s_Word_init) (defBody s_Word_init) (defScope s_Word_init) .none kVWord_init dcWord_init pmWord_init anWord_init cdWord_init ctWord_init), AWord_least, (PySem.W.fnOf "least" "Word.least" (defArgs s_Word_least) (defBody s_Word_least) (defScope s_Word_least) .none kVWord_least dcWord_least pmWord_least anWord_least cdWord_least ctWord_least), Acheck_places, (PySem.W.fnOf "_check_places" "_check_places" (defArgs s_check_places) (defBody s_check_places) (defScope s_check_places) .none kVcheck_places dccheck_places pmcheck_places ancheck_places cdcheck_places ctcheck_places), AWord_row, (PySem.W.fnOf "row" "Word.row" (defArgs s_Word_row) (defBody s_Word_row) (defScope s_Word_row) .none kVWord_row dcWord_row pmWord_row anWord_row cdWord_row ctWord_row), Arows_of_others_right, (PySem.W.fnOf "_law_rows_of_others_right" "_law_rows_of_others_right" (defArgs s_rows_of_others_right) (defBody s_rows_of_others_right) (defScope s_rows_of_others_right) .none kVrows_of_others_right dcrows_of_others_right pmrows_of_others_right anrows_of_others_right cdrows_of_others_right ctrows_of_others_right), Atold, (PySem.W.fnOf "_law_told" "_law_told" (defArgs s_told) (defBody s_told) (defScope s_told) .none kVtold dctold pmtold antold cdtold cttold), Arefused_right, (PySem.W.fnOf "_law_refused_right" "_law_refused_right" (defArgs s_refused_right) (defBody s_refused_right) (defScope s_refused_right) .none kVrefused_right dcrefused_right pmrefused_right anrefused_right (.ref Krefused_right) ctrefused_right), Aright, (PySem.W.fnOf "_law_right" "_law_right" (defArgs s_right) (defBody s_right) (defScope s_right) .none kVright dcright pmright anright cdright ctright), Apot, (PySem.W.fnOf "_law_pot" "_law_pot" (defArgs s_pot) (defBody s_pot) (defScope s_pot) .none kVpot dcpot pmpot anpot cdpot ctpot), fa, (PySem.W.fnOf "law" "law" (defArgs s_law) (defBody s_law) (defScope s_law) .none kVlaw dclaw pmlaw anlaw cdlaw ctlaw), AInvalidMarks_init, (PySem.W.fnOf "__init__" "InvalidMarks.__init__" (defArgs s_InvalidMarks_init) (defBody s_InvalidMarks_init) (defScope s_InvalidMarks_init) .none kVInvalidMarks_init dcInvalidMarks_init pmInvalidMarks_init anInvalidMarks_init cdInvalidMarks_init ctInvalidMarks_init), CWord, CTable, PTable_size, PWord_least, CInvalidMarks, CLeagueError, Krefused_right, TTrefused_right⟩ K, fun s v => .of_eq rfl, ?_, fun H a ns hl ht hS => law_enter hl (fun p hp => ?_) hS, fun base _ _ tab_ => ?_⟩
  · intro p hp
    obtain rfl := List.mem_singleton.mp hp
    exact ⟨kt_refused_right, _, List.mem_cons_self, _, _, _, _, _, _, _, PySem.W.mg_of X G a_refused_right, l_refused_right, rfl, rfl, kc_refused_right, kw_refused_right⟩
  · simp only [Ad.tbs, List.mem_cons, List.not_mem_nil, or_false] at hp
    subst hp
    exact ht (Krefused_right, TTrefused_right) (by simp)
  · have T : Txt w K mg base ⟨Adraw, (PySem.W.fnOf "_law_draw" "_law_draw" (defArgs s_draw) (defBody s_draw) (defScope s_draw) .none kVdraw dcdraw pmdraw andraw cddraw ctdraw), Apick, (PySem.W.fnOf "_law_pick" "_law_pick" (defArgs s_pick) (defBody s_pick) (defScope s_pick) .none kVpick dcpick pmpick anpick cdpick ctpick), Amarks, (PySem.W.fnOf "_law_marks" "_law_marks" (defArgs s_marks) (defBody s_marks) (defScope s_marks) .none kVmarks dcmarks pmmarks anmarks cdmarks ctmarks), Astays, (PySem.W.fnOf "_law_stays" "_law_stays" (defArgs s_stays) (defBody s_stays) (defScope s_stays) .none kVstays dcstays pmstays anstays cdstays ctstays), Ais_marks, (PySem.W.fnOf "is_marks" "is_marks" (defArgs s_is_marks) (defBody s_is_marks) (defScope s_is_marks) .none kVis_marks dcis_marks pmis_marks anis_marks cdis_marks ctis_marks), Astays_in, (PySem.W.fnOf "stays_in" "stays_in" (defArgs s_stays_in) (defBody s_stays_in) (defScope s_stays_in) .none kVstays_in dcstays_in pmstays_in anstays_in cdstays_in ctstays_in), Abreaks_in, (PySem.W.fnOf "breaks_in" "breaks_in" (defArgs s_breaks_in) (defBody s_breaks_in) (defScope s_breaks_in) .none kVbreaks_in dcbreaks_in pmbreaks_in anbreaks_in cdbreaks_in ctbreaks_in), Aother, (PySem.W.fnOf "_law_other" "_law_other" (defArgs s_other) (defBody s_other) (defScope s_other) .none kVother dcother pmother another cdother ctother), Arow_right, (PySem.W.fnOf "_law_row_right" "_law_row_right" (defArgs s_row_right) (defBody s_row_right) (defScope s_row_right) .none kVrow_right dcrow_right pmrow_right anrow_right cdrow_right ctrow_right), Ajoined_right, (PySem.W.fnOf "_law_joined_right" "_law_joined_right" (defArgs s_joined_right) (defBody s_joined_right) (defScope s_joined_right) .none kVjoined_right dcjoined_right pmjoined_right anjoined_right cdjoined_right ctjoined_right), Amany, (PySem.W.fnOf "_law_many" "_law_many" (defArgs s_many) (defBody s_many) (defScope s_many) .none kVmany dcmany pmmany anmany cdmany ctmany), Amixed, (PySem.W.fnOf "_law_mixed" "_law_mixed" (defArgs s_mixed) (defBody s_mixed) (defScope s_mixed) .none kVmixed dcmixed pmmixed anmixed cdmixed ctmixed), Aday, (PySem.W.fnOf "_law_day" "_law_day" (defArgs s_day) (defBody s_day) (defScope s_day) .none kVday dcday pmday anday cdday ctday), Adays, (PySem.W.fnOf "_law_days" "_law_days" (defArgs s_days) (defBody s_days) (defScope s_days) .none kVdays dcdays pmdays andays cddays ctdays), Ais_list, (PySem.W.fnOf "is_list" "is_list" (defArgs s_is_list) (defBody s_is_list) (defScope s_is_list) .none kVis_list dcis_list pmis_list anis_list cdis_list ctis_list), Ais_integer, (PySem.W.fnOf "is_integer" "is_integer" (defArgs s_is_integer) (defBody s_is_integer) (defScope s_is_integer) .none kVis_integer dcis_integer pmis_integer anis_integer cdis_integer ctis_integer), Ais_meeting, (PySem.W.fnOf "_is_meeting" "_is_meeting" (defArgs s_is_meeting) (defBody s_is_meeting) (defScope s_is_meeting) .none kVis_meeting dcis_meeting pmis_meeting anis_meeting cdis_meeting ctis_meeting), Ais_round, (PySem.W.fnOf "is_round" "is_round" (defArgs s_is_round) (defBody s_is_round) (defScope s_is_round) .none kVis_round dcis_round pmis_round anis_round cdis_round ctis_round), Acheck_rounds, (PySem.W.fnOf "_check_rounds" "_check_rounds" (defArgs s_check_rounds) (defBody s_check_rounds) (defScope s_check_rounds) .none kVcheck_rounds dccheck_rounds pmcheck_rounds ancheck_rounds cdcheck_rounds ctcheck_rounds), ATable_init, (PySem.W.fnOf "__init__" "Table.__init__" (defArgs s_Table_init) (defBody s_Table_init) (defScope s_Table_init) .none kVTable_init dcTable_init pmTable_init anTable_init cdTable_init ctTable_init), ATable_size, (PySem.W.fnOf "size" "Table.size" (defArgs s_Table_size) (defBody s_Table_size) (defScope s_Table_size) .none kVTable_size dcTable_size pmTable_size anTable_size cdTable_size ctTable_size), Ais_count, (PySem.W.fnOf "is_count" "is_count" (defArgs s_is_count) (defBody s_is_count) (defScope s_is_count) .none kVis_count dcis_count pmis_count anis_count cdis_count ctis_count), Acheck_team, (PySem.W.fnOf "check_team" "check_team" (defArgs s_check_team) (defBody s_check_team) (defScope s_check_team) .none kVcheck_team dccheck_team pmcheck_team ancheck_team cdcheck_team ctcheck_team), Amark_in, (PySem.W.fnOf "_mark_in" "_mark_in" (defArgs s_mark_in) (defBody s_mark_in) (defScope s_mark_in) .none kVmark_in dcmark_in pmmark_in anmark_in cdmark_in ctmark_in), ATable_row_of, (PySem.W.fnOf "row_of" "Table.row_of" (defArgs s_Table_row_of) (defBody s_Table_row_of) (defScope s_Table_row_of) .none kVTable_row_of dcTable_row_of pmTable_row_of anTable_row_of cdTable_row_of ctTable_row_of), Acheck_part, (PySem.W.fnOf "_check_part" "_check_part" (defArgs s_check_part) (defBody s_check_part) (defScope s_check_part) .none kVcheck_part dccheck_part pmcheck_part ancheck_part cdcheck_part ctcheck_part), AWord_init, (PySem.W.fnOf "__init__" "Word.__init__" (defArgs s_Word_init) (defBody s_Word_init) (defScope s_Word_init) .none kVWord_init dcWord_init pmWord_init anWord_init cdWord_init ctWord_init), AWord_least, (PySem.W.fnOf "least" "Word.least" (defArgs s_Word_least) (defBody s_Word_least) (defScope s_Word_least) .none kVWord_least dcWord_least pmWord_least anWord_least cdWord_least ctWord_least), Acheck_places, (PySem.W.fnOf "_check_places" "_check_places" (defArgs s_check_places) (defBody s_check_places) (defScope s_check_places) .none kVcheck_places dccheck_places pmcheck_places ancheck_places cdcheck_places ctcheck_places), AWord_row, (PySem.W.fnOf "row" "Word.row" (defArgs s_Word_row) (defBody s_Word_row) (defScope s_Word_row) .none kVWord_row dcWord_row pmWord_row anWord_row cdWord_row ctWord_row), Arows_of_others_right, (PySem.W.fnOf "_law_rows_of_others_right" "_law_rows_of_others_right" (defArgs s_rows_of_others_right) (defBody s_rows_of_others_right) (defScope s_rows_of_others_right) .none kVrows_of_others_right dcrows_of_others_right pmrows_of_others_right anrows_of_others_right cdrows_of_others_right ctrows_of_others_right), Atold, (PySem.W.fnOf "_law_told" "_law_told" (defArgs s_told) (defBody s_told) (defScope s_told) .none kVtold dctold pmtold antold cdtold cttold), Arefused_right, (PySem.W.fnOf "_law_refused_right" "_law_refused_right" (defArgs s_refused_right) (defBody s_refused_right) (defScope s_refused_right) .none kVrefused_right dcrefused_right pmrefused_right anrefused_right (.ref Krefused_right) ctrefused_right), Aright, (PySem.W.fnOf "_law_right" "_law_right" (defArgs s_right) (defBody s_right) (defScope s_right) .none kVright dcright pmright anright cdright ctright), Apot, (PySem.W.fnOf "_law_pot" "_law_pot" (defArgs s_pot) (defBody s_pot) (defScope s_pot) .none kVpot dcpot pmpot anpot cdpot ctpot), fa, (PySem.W.fnOf "law" "law" (defArgs s_law) (defBody s_law) (defScope s_law) .none kVlaw dclaw pmlaw anlaw cdlaw ctlaw), AInvalidMarks_init, (PySem.W.fnOf "__init__" "InvalidMarks.__init__" (defArgs s_InvalidMarks_init) (defBody s_InvalidMarks_init) (defScope s_InvalidMarks_init) .none kVInvalidMarks_init dcInvalidMarks_init pmInvalidMarks_init anInvalidMarks_init cdInvalidMarks_init ctInvalidMarks_init), CWord, CTable, PTable_size, PWord_least, CInvalidMarks, CLeagueError, Krefused_right, TTrefused_right⟩ := ⟨PySem.W.mg_of X G aC_InvalidMarks, PySem.W.mg_of X G aC_LeagueError, ⟨⟨_, _, _, _, _, _, _, _, _, _, _, _, _, _, _, xo_InvalidMarks, xr_InvalidMarks⟩, xs_InvalidMarks, xe_InvalidMarks, xt_InvalidMarks, xp_InvalidMarks⟩, a_InvalidMarks_init, beq_iff_eq.mp i_InvalidMarks_init, no_InvalidMarks_value, ⟨xga_InvalidMarks, xgg_InvalidMarks, xe_InvalidMarks, xhd_InvalidMarks⟩, ⟨xga_InvalidMarks, xgg_InvalidMarks, xe_InvalidMarks, xhd_InvalidMarks, xca_InvalidMarks, xcn_InvalidMarks, xct_InvalidMarks, xcm_InvalidMarks⟩, xm_InvalidMarks_InvalidMarks, xk_InvalidMarks_LeagueError, tab_ (Krefused_right, TTrefused_right) (by simp), rfl, fun_mk (st := s_draw) l_draw o_draw k_draw, (fun_mk (st := s_draw) l_draw o_draw k_draw).binds (ps := ["_law_pot_here", "_law_many_here"]) fun _ _ _ _ _ _ us hl => match us, hl with | [_, _], _ => rfl, PySem.W.mg_of X G a_draw, fun_mk (st := s_pick) l_pick o_pick k_pick, (fun_mk (st := s_pick) l_pick o_pick k_pick).binds (ps := ["_law_pot_here", "_law_some"]) fun _ _ _ _ _ _ us hl => match us, hl with | [_, _], _ => rfl, PySem.W.mg_of X G a_pick, fun_mk (st := s_marks) l_marks o_marks k_marks, (fun_mk (st := s_marks) l_marks o_marks k_marks).binds (ps := ["_law_pot_here", "_law_most"]) fun _ _ _ _ _ _ us hl => match us, hl with | [_, _], _ => rfl, PySem.W.mg_of X G a_marks, fun_mk (st := s_stays) l_stays o_stays k_stays, (fun_mk (st := s_stays) l_stays o_stays k_stays).binds (ps := ["_law_marks_now"]) fun _ _ _ _ _ _ us hl => match us, hl with | [_], _ => rfl, PySem.W.mg_of X G a_stays, fun_mk (st := s_is_marks) l_is_marks o_is_marks k_is_marks, (fun_mk (st := s_is_marks) l_is_marks o_is_marks k_is_marks).binds (ps := ["value"]) fun _ _ _ _ _ _ us hl => match us, hl with | [_], _ => rfl, PySem.W.mg_of X G a_is_marks, fun_mk (st := s_stays_in) l_stays_in o_stays_in k_stays_in, (fun_mk (st := s_stays_in) l_stays_in o_stays_in k_stays_in).binds (ps := ["marks"]) fun _ _ _ _ _ _ us hl => match us, hl with | [_], _ => rfl, PySem.W.mg_of X G a_stays_in, fun_mk (st := s_breaks_in) l_breaks_in o_breaks_in k_breaks_in, (fun_mk (st := s_breaks_in) l_breaks_in o_breaks_in k_breaks_in).binds (ps := ["marks"]) fun _ _ _ _ _ _ us hl => match us, hl with | [_], _ => rfl, PySem.W.mg_of X G a_breaks_in, fun_mk (st := s_other) l_other o_other k_other, (fun_mk (st := s_other) l_other o_other k_other).binds (ps := ["_law_marks_now"]) fun _ _ _ _ _ _ us hl => match us, hl with | [_], _ => rfl, PySem.W.mg_of X G a_other, fun_mk (st := s_row_right) l_row_right o_row_right k_row_right, (fun_mk (st := s_row_right) l_row_right o_row_right k_row_right).binds (ps := ["_law_some"]) fun _ _ _ _ _ _ us hl => match us, hl with | [_], _ => rfl, PySem.W.mg_of X G a_row_right, fun_mk (st := s_joined_right) l_joined_right o_joined_right k_joined_right, (fun_mk (st := s_joined_right) l_joined_right o_joined_right k_joined_right).binds (ps := ["_law_some", "_law_more"]) fun _ _ _ _ _ _ us hl => match us, hl with | [_, _], _ => rfl, PySem.W.mg_of X G a_joined_right, fun_mk (st := s_many) l_many o_many k_many, (fun_mk (st := s_many) l_many o_many k_many).binds (ps := ["_law_pot_here"]) fun _ _ _ _ _ _ us hl => match us, hl with | [_], _ => rfl, PySem.W.mg_of X G a_many, fun_mk (st := s_mixed) l_mixed o_mixed k_mixed, (fun_mk (st := s_mixed) l_mixed o_mixed k_mixed).binds (ps := ["_law_pot_here", "_law_some"]) fun _ _ _ _ _ _ us hl => match us, hl with | [_, _], _ => rfl, PySem.W.mg_of X G a_mixed, fun_mk (st := s_day) l_day o_day k_day, (fun_mk (st := s_day) l_day o_day k_day).binds (ps := ["_law_pot_here", "_law_many_here"]) fun _ _ _ _ _ _ us hl => match us, hl with | [_, _], _ => rfl, PySem.W.mg_of X G a_day, fun_mk (st := s_days) l_days o_days k_days, (fun_mk (st := s_days) l_days o_days k_days).binds (ps := ["_law_pot_here", "_law_many_here", "_law_most"]) fun _ _ _ _ _ _ us hl => match us, hl with | [_, _, _], _ => rfl, PySem.W.mg_of X G a_days, fun_mk (st := s_is_list) l_is_list o_is_list k_is_list, (fun_mk (st := s_is_list) l_is_list o_is_list k_is_list).binds (ps := ["value"]) fun _ _ _ _ _ _ us hl => match us, hl with | [_], _ => rfl, PySem.W.mg_of X G a_is_list, fun_mk (st := s_is_integer) l_is_integer o_is_integer k_is_integer, (fun_mk (st := s_is_integer) l_is_integer o_is_integer k_is_integer).binds (ps := ["value"]) fun _ _ _ _ _ _ us hl => match us, hl with | [_], _ => rfl, PySem.W.mg_of X G a_is_integer, fun_mk (st := s_is_meeting) l_is_meeting o_is_meeting k_is_meeting, (fun_mk (st := s_is_meeting) l_is_meeting o_is_meeting k_is_meeting).binds (ps := ["value"]) fun _ _ _ _ _ _ us hl => match us, hl with | [_], _ => rfl, PySem.W.mg_of X G a_is_meeting, fun_mk (st := s_is_round) l_is_round o_is_round k_is_round, (fun_mk (st := s_is_round) l_is_round o_is_round k_is_round).binds (ps := ["value"]) fun _ _ _ _ _ _ us hl => match us, hl with | [_], _ => rfl, PySem.W.mg_of X G a_is_round, fun_mk (st := s_check_rounds) l_check_rounds o_check_rounds k_check_rounds, (fun_mk (st := s_check_rounds) l_check_rounds o_check_rounds k_check_rounds).binds (ps := ["rounds"]) fun _ _ _ _ _ _ us hl => match us, hl with | [_], _ => rfl, PySem.W.mg_of X G a_check_rounds, fun_mk (st := s_Table_init) l_Table_init o_Table_init k_Table_init, (fun_mk (st := s_Table_init) l_Table_init o_Table_init k_Table_init).binds (ps := ["self", "rounds"]) fun _ _ _ _ _ _ us hl => match us, hl with | [_, _], _ => rfl, fun_mk (st := s_Table_size) l_Table_size o_Table_size k_Table_size, (fun_mk (st := s_Table_size) l_Table_size o_Table_size k_Table_size).binds (ps := ["self"]) fun _ _ _ _ _ _ us hl => match us, hl with | [_], _ => rfl, ⟨pa_Table_size, pg_Table_size, pt_Table_size, ⟨_, pr_Table_size⟩⟩, fun_mk (st := s_is_count) l_is_count o_is_count k_is_count, (fun_mk (st := s_is_count) l_is_count o_is_count k_is_count).binds (ps := ["value"]) fun _ _ _ _ _ _ us hl => match us, hl with | [_], _ => rfl, PySem.W.mg_of X G a_is_count, fun_mk (st := s_check_team) l_check_team o_check_team k_check_team, (fun_mk (st := s_check_team) l_check_team o_check_team k_check_team).binds (ps := ["team", "teams"]) fun _ _ _ _ _ _ us hl => match us, hl with | [_, _], _ => rfl, PySem.W.mg_of X G a_check_team, fun_mk (st := s_mark_in) l_mark_in o_mark_in k_mark_in, (fun_mk (st := s_mark_in) l_mark_in o_mark_in k_mark_in).binds (ps := ["meetings", "team"]) fun _ _ _ _ _ _ us hl => match us, hl with | [_, _], _ => rfl, PySem.W.mg_of X G a_mark_in, fun_mk (st := s_Table_row_of) l_Table_row_of o_Table_row_of k_Table_row_of, (fun_mk (st := s_Table_row_of) l_Table_row_of o_Table_row_of k_Table_row_of).binds (ps := ["self", "team"]) fun _ _ _ _ _ _ us hl => match us, hl with | [_, _], _ => rfl, ⟨a_Table_row_of, i_Table_row_of, k_Table_row_of⟩, fun_mk (st := s_check_part) l_check_part o_check_part k_check_part, (fun_mk (st := s_check_part) l_check_part o_check_part k_check_part).binds (ps := ["marks"]) fun _ _ _ _ _ _ us hl => match us, hl with | [_], _ => rfl, PySem.W.mg_of X G a_check_part, fun_mk (st := s_Word_init) l_Word_init o_Word_init k_Word_init, (fun_mk (st := s_Word_init) l_Word_init o_Word_init k_Word_init).binds (ps := ["self", "head", "middle", "tail"]) fun _ _ _ _ _ _ us hl => match us, hl with | [_, _, _, _], _ => rfl, fun_mk (st := s_Word_least) l_Word_least o_Word_least k_Word_least, (fun_mk (st := s_Word_least) l_Word_least o_Word_least k_Word_least).binds (ps := ["self"]) fun _ _ _ _ _ _ us hl => match us, hl with | [_], _ => rfl, ⟨pa_Word_least, pg_Word_least, pt_Word_least, ⟨_, pr_Word_least⟩⟩, fun_mk (st := s_check_places) l_check_places o_check_places k_check_places, (fun_mk (st := s_check_places) l_check_places o_check_places k_check_places).binds (ps := ["word", "places"]) fun _ _ _ _ _ _ us hl => match us, hl with | [_, _], _ => rfl, PySem.W.mg_of X G a_check_places, fun_mk (st := s_Word_row) l_Word_row o_Word_row k_Word_row, (fun_mk (st := s_Word_row) l_Word_row o_Word_row k_Word_row).binds (ps := ["self", "places"]) fun _ _ _ _ _ _ us hl => match us, hl with | [_, _], _ => rfl, ⟨a_Word_row, i_Word_row, k_Word_row⟩, fun_mk (st := s_rows_of_others_right) l_rows_of_others_right o_rows_of_others_right k_rows_of_others_right, (fun_mk (st := s_rows_of_others_right) l_rows_of_others_right o_rows_of_others_right k_rows_of_others_right).binds (ps := ["_law_pot_here"]) fun _ _ _ _ _ _ us hl => match us, hl with | [_], _ => rfl, PySem.W.mg_of X G a_rows_of_others_right, fun_mk (st := s_told) l_told o_told k_told, (fun_mk (st := s_told) l_told o_told k_told).binds (ps := ["_law_call"]) fun _ _ _ _ _ _ us hl => match us, hl with | [_], _ => rfl, PySem.W.mg_of X G a_told, fun_mk (st := s_refused_right) l_refused_right o_refused_right k_refused_right, (fun_mk (st := s_refused_right) l_refused_right o_refused_right k_refused_right).binds (ps := ["_law_pot_here"]) fun _ _ _ _ _ _ us hl => match us, hl with | [_], _ => rfl, PySem.W.mg_of X G a_refused_right, fun_mk (st := s_right) l_right o_right k_right, (fun_mk (st := s_right) l_right o_right k_right).binds (ps := ["_law_pot_here"]) fun _ _ _ _ _ _ us hl => match us, hl with | [_], _ => rfl, PySem.W.mg_of X G a_right, fun_mk (st := s_pot) l_pot o_pot k_pot, (fun_mk (st := s_pot) l_pot o_pot k_pot).binds (ps := ["_law_script", "_law_k"]) fun _ _ _ _ _ _ us hl => match us, hl with | [_, _], _ => rfl, PySem.W.mg_of X G a_pot, fun_mk (st := s_law) l_law o_law k_law, (fun_mk (st := s_law) l_law o_law k_law).binds (ps := ["_law_script"]) fun _ _ _ _ _ _ us hl => match us, hl with | [_], _ => rfl, PySem.W.mg_of X G a_law, fun_mk (st := s_InvalidMarks_init) l_InvalidMarks_init o_InvalidMarks_init k_InvalidMarks_init, (fun_mk (st := s_InvalidMarks_init) l_InvalidMarks_init o_InvalidMarks_init k_InvalidMarks_init).binds (ps := ["self", "value"]) fun _ _ _ _ _ _ us hl => match us, hl with | [_, _], _ => rfl, ⟨pg_Word, hd_Word, po_Word, sa_Word⟩, PySem.W.mg_of X G aC_Word, ⟨mk_Word, a_Word_init, i_Word_init, kc_Word⟩, na_Word__head, na_Word__middle, na_Word__tail, ⟨pg_Table, hd_Table, po_Table, sa_Table⟩, PySem.W.mg_of X G aC_Table, ⟨mk_Table, a_Table_init, i_Table_init, kc_Table⟩, na_Table__rounds, PySem.W.mg_none_of X G z_abs, PySem.W.mg_none_of X G z_all, PySem.W.mg_none_of X G z_bool, PySem.W.mg_none_of X G z_dict, PySem.W.mg_none_of X G z_divmod, PySem.W.mg_none_of X G z_enumerate, PySem.W.mg_none_of X G z_int, PySem.W.mg_none_of X G z_isinstance, PySem.W.mg_none_of X G z_len, PySem.W.mg_none_of X G z_list, PySem.W.mg_none_of X G z_max, PySem.W.mg_none_of X G z_min, PySem.W.mg_none_of X G z_range, PySem.W.mg_none_of X G z_repr, PySem.W.mg_none_of X G z_sorted, PySem.W.mg_none_of X G z_str, PySem.W.mg_none_of X G z_sum, PySem.W.mg_none_of X G z_tuple, PySem.W.mg_none_of X G z_zip, ⟨_, PySem.W.mg_of X G c_FEWEST_MEETINGS, ⟨_, rfl⟩⟩, ⟨_, PySem.W.mg_of X G c_MOST_MARKS, ⟨_, rfl⟩⟩, ⟨_, PySem.W.mg_of X G c_MOST_MEETINGS, ⟨_, rfl⟩⟩, ⟨_, PySem.W.mg_of X G c_MOST_PLACES, ⟨_, rfl⟩⟩, ⟨_, PySem.W.mg_of X G c_MOST_ROUNDS, ⟨_, rfl⟩⟩, ⟨fun s us ws _ h1 h2 => match us, ws, h1, h2 with | [], [_], _, _ => .of_eq rfl, fun r1 r2 => r1.append (.cons (vals_getD r2 0) (.nil))⟩, ⟨fun s us ws _ h1 h2 => match us, ws, h1, h2 with | [], [_], _, _ => .of_eq rfl, fun r1 r2 => r1.append (.cons (vals_getD r2 0) (.nil))⟩⟩
    exact ok_law T
end Lw
open PySem PySem.W PyProof.Rows in
set_option maxRecDepth 100000 in
set_option maxHeartbeats 0 in
theorem PySem.Challenge.cw_ringrows_k46_breaks_and_stays_of_rows_holds : PySem.Challenge.rw_ringrows_k46_breaks_and_stays_of_rows.Holds := by
  w_on; o_law; k_head; (case hw => w_witness2)
  k_fill
  refine Rx.walk_ofLG (l := PySem.Challenge.rw_ringrows_k46_breaks_and_stays_of_rows) (n := 63) (k := 10) (x := "_law_script") rfl (by decide) rfl ⟨rfl, by decide, by decide⟩ (fun w h Y => PySem.W.km_in_of Y) ["_law_refused_right"] (by decide +kernel) ?F
  case F =>
    intro w mg fa h KX G hmg
    refine' Lw.all_mk KX G hmg ?a_draw ?l_draw ?o_draw ?k_draw ?a_pick ?l_pick ?o_pick ?k_pick ?a_marks ?l_marks ?o_marks ?k_marks ?a_stays ?l_stays ?o_stays ?k_stays ?a_is_marks ?l_is_marks ?o_is_marks ?k_is_marks ?a_stays_in ?l_stays_in ?o_stays_in ?k_stays_in ?a_breaks_in ?l_breaks_in ?o_breaks_in ?k_breaks_in ?a_other ?l_other ?o_other ?k_other ?a_row_right ?l_row_right ?o_row_right ?k_row_right ?a_joined_right ?l_joined_right ?o_joined_right ?k_joined_right ?a_many ?l_many ?o_many ?k_many ?a_mixed ?l_mixed ?o_mixed ?k_mixed ?a_day ?l_day ?o_day ?k_day ?a_days ?l_days ?o_days ?k_days ?a_is_list ?l_is_list ?o_is_list ?k_is_list ?a_is_integer ?l_is_integer ?o_is_integer ?k_is_integer ?a_is_meeting ?l_is_meeting ?o_is_meeting ?k_is_meeting ?a_is_round ?l_is_round ?o_is_round ?k_is_round ?a_check_rounds ?l_check_rounds ?o_check_rounds ?k_check_rounds ?a_Table_init ?i_Table_init ?l_Table_init ?o_Table_init ?k_Table_init ?pa_Table_size ?pg_Table_size ?pt_Table_size ?pr_Table_size ?l_Table_size ?o_Table_size ?k_Table_size ?a_is_count ?l_is_count ?o_is_count ?k_is_count ?a_check_team ?l_check_team ?o_check_team ?k_check_team ?a_mark_in ?l_mark_in ?o_mark_in ?k_mark_in ?a_Table_row_of ?i_Table_row_of ?l_Table_row_of ?o_Table_row_of ?k_Table_row_of ?a_check_part ?l_check_part ?o_check_part ?k_check_part ?a_Word_init ?i_Word_init ?l_Word_init ?o_Word_init ?k_Word_init ?pa_Word_least ?pg_Word_least ?pt_Word_least ?pr_Word_least ?l_Word_least ?o_Word_least ?k_Word_least ?a_check_places ?l_check_places ?o_check_places ?k_check_places ?a_Word_row ?i_Word_row ?l_Word_row ?o_Word_row ?k_Word_row ?a_rows_of_others_right ?l_rows_of_others_right ?o_rows_of_others_right ?k_rows_of_others_right ?a_told ?l_told ?o_told ?k_told ?a_refused_right ?l_refused_right ?o_refused_right ?k_refused_right ?a_right ?l_right ?o_right ?k_right ?a_pot ?l_pot ?o_pot ?k_pot ?a_law ?l_law ?o_law ?k_law ?a_InvalidMarks_init ?i_InvalidMarks_init ?l_InvalidMarks_init ?o_InvalidMarks_init ?k_InvalidMarks_init ?aC_InvalidMarks ?aC_LeagueError ?xo_InvalidMarks ?xr_InvalidMarks ?xs_InvalidMarks ?xe_InvalidMarks ?xt_InvalidMarks ?xp_InvalidMarks ?no_InvalidMarks_value ?xga_InvalidMarks ?xgg_InvalidMarks ?xhd_InvalidMarks ?xca_InvalidMarks ?xcn_InvalidMarks ?xct_InvalidMarks ?xcm_InvalidMarks ?xm_InvalidMarks_InvalidMarks ?xk_InvalidMarks_LeagueError ?kc_refused_right ?kw_refused_right ?kt_refused_right ?aC_Word ?pg_Word ?hd_Word ?po_Word ?sa_Word ?mk_Word ?kc_Word ?na_Word__head ?na_Word__middle ?na_Word__tail ?aC_Table ?pg_Table ?hd_Table ?po_Table ?sa_Table ?mk_Table ?kc_Table ?na_Table__rounds ?z_abs ?z_all ?z_bool ?z_dict ?z_divmod ?z_enumerate ?z_int ?z_isinstance ?z_len ?z_list ?z_max ?z_min ?z_range ?z_repr ?z_sorted ?z_str ?z_sum ?z_tuple ?z_zip ?c_FEWEST_MEETINGS ?c_MOST_MARKS ?c_MOST_MEETINGS ?c_MOST_PLACES ?c_MOST_ROUNDS
    (case aC_InvalidMarks => k_is); (case aC_LeagueError => k_is); (case aC_Word => k_is); (case aC_Table => k_is); (case a_draw => k_is); (case l_draw => k_is); (case o_draw => k_is); (case k_draw => k_is); (case a_pick => k_is); (case l_pick => k_is); (case o_pick => k_is); (case k_pick => k_is); (case a_marks => k_is); (case l_marks => k_is); (case o_marks => k_is); (case k_marks => k_is); (case a_stays => k_is); (case l_stays => k_is); (case o_stays => k_is); (case k_stays => k_is); (case a_is_marks => k_is); (case l_is_marks => k_is); (case o_is_marks => k_is); (case k_is_marks => k_is); (case a_stays_in => k_is); (case l_stays_in => k_is); (case o_stays_in => k_is); (case k_stays_in => k_is); (case a_breaks_in => k_is); (case l_breaks_in => k_is); (case o_breaks_in => k_is); (case k_breaks_in => k_is); (case a_other => k_is); (case l_other => k_is); (case o_other => k_is); (case k_other => k_is); (case a_row_right => k_is); (case l_row_right => k_is); (case o_row_right => k_is); (case k_row_right => k_is); (case a_joined_right => k_is); (case l_joined_right => k_is); (case o_joined_right => k_is); (case k_joined_right => k_is); (case a_many => k_is); (case l_many => k_is); (case o_many => k_is); (case k_many => k_is); (case a_mixed => k_is); (case l_mixed => k_is); (case o_mixed => k_is); (case k_mixed => k_is); (case a_day => k_is); (case l_day => k_is); (case o_day => k_is); (case k_day => k_is); (case a_days => k_is); (case l_days => k_is); (case o_days => k_is); (case k_days => k_is); (case a_is_list => k_is); (case l_is_list => k_is); (case o_is_list => k_is); (case k_is_list => k_is); (case a_is_integer => k_is); (case l_is_integer => k_is); (case o_is_integer => k_is); (case k_is_integer => k_is); (case a_is_meeting => k_is); (case l_is_meeting => k_is); (case o_is_meeting => k_is); (case k_is_meeting => k_is); (case a_is_round => k_is); (case l_is_round => k_is); (case o_is_round => k_is); (case k_is_round => k_is); (case a_check_rounds => k_is); (case l_check_rounds => k_is); (case o_check_rounds => k_is); (case k_check_rounds => k_is); (case a_Table_init => k_is); (case i_Table_init => k_is); (case l_Table_init => k_is); (case o_Table_init => k_is); (case k_Table_init => k_is); (case pa_Table_size => k_is); (case pg_Table_size => k_is); (case pt_Table_size => k_is); (case pr_Table_size => k_is); (case l_Table_size => k_is); (case o_Table_size => k_is); (case k_Table_size => k_is); (case a_is_count => k_is); (case l_is_count => k_is); (case o_is_count => k_is); (case k_is_count => k_is); (case a_check_team => k_is); (case l_check_team => k_is); (case o_check_team => k_is); (case k_check_team => k_is); (case a_mark_in => k_is); (case l_mark_in => k_is); (case o_mark_in => k_is); (case k_mark_in => k_is); (case a_Table_row_of => k_is); (case i_Table_row_of => k_is); (case l_Table_row_of => k_is); (case o_Table_row_of => k_is); (case k_Table_row_of => k_is); (case a_check_part => k_is); (case l_check_part => k_is); (case o_check_part => k_is); (case k_check_part => k_is); (case a_Word_init => k_is); (case i_Word_init => k_is); (case l_Word_init => k_is); (case o_Word_init => k_is); (case k_Word_init => k_is); (case pa_Word_least => k_is); (case pg_Word_least => k_is); (case pt_Word_least => k_is); (case pr_Word_least => k_is); (case l_Word_least => k_is); (case o_Word_least => k_is); (case k_Word_least => k_is); (case a_check_places => k_is); (case l_check_places => k_is); (case o_check_places => k_is); (case k_check_places => k_is); (case a_Word_row => k_is); (case i_Word_row => k_is); (case l_Word_row => k_is); (case o_Word_row => k_is); (case k_Word_row => k_is); (case a_rows_of_others_right => k_is); (case l_rows_of_others_right => k_is); (case o_rows_of_others_right => k_is); (case k_rows_of_others_right => k_is); (case a_told => k_is); (case l_told => k_is); (case o_told => k_is); (case k_told => k_is); (case a_refused_right => k_is); (case l_refused_right => k_is); (case o_refused_right => k_is); (case k_refused_right => k_is); (case a_right => k_is); (case l_right => k_is); (case o_right => k_is); (case k_right => k_is); (case a_pot => k_is); (case l_pot => k_is); (case o_pot => k_is); (case k_pot => k_is); (case a_law => k_is); (case l_law => k_is); (case o_law => k_is); (case k_law => k_is); (case a_InvalidMarks_init => k_is); (case i_InvalidMarks_init => k_is); (case l_InvalidMarks_init => k_is); (case o_InvalidMarks_init => k_is); (case k_InvalidMarks_init => k_is); (case xo_InvalidMarks => k_is); (case xs_InvalidMarks => k_is); (case xe_InvalidMarks => k_is); (case xt_InvalidMarks => k_is); (case xp_InvalidMarks => k_is); (case no_InvalidMarks_value => k_is); (case xga_InvalidMarks => k_is); (case xgg_InvalidMarks => k_is); (case xhd_InvalidMarks => k_is); (case xca_InvalidMarks => k_is); (case xcn_InvalidMarks => k_is); (case xct_InvalidMarks => k_is); (case xcm_InvalidMarks => k_is); (case xm_InvalidMarks_InvalidMarks => kernel_rfl); (case xk_InvalidMarks_LeagueError => kernel_rfl); (case kc_refused_right => k_is); (case pg_Word => k_is); (case hd_Word => k_is); (case po_Word => k_is); (case sa_Word => k_is); (case mk_Word => k_is); (case kc_Word => k_is); (case na_Word__head => k_is); (case na_Word__middle => k_is); (case na_Word__tail => k_is); (case pg_Table => k_is); (case hd_Table => k_is); (case po_Table => k_is); (case sa_Table => k_is); (case mk_Table => k_is); (case kc_Table => k_is); (case na_Table__rounds => k_is); (case z_abs => k_is); (case z_all => k_is); (case z_bool => k_is); (case z_dict => k_is); (case z_divmod => k_is); (case z_enumerate => k_is); (case z_int => k_is); (case z_isinstance => k_is); (case z_len => k_is); (case z_list => k_is); (case z_max => k_is); (case z_min => k_is); (case z_range => k_is); (case z_repr => k_is); (case z_sorted => k_is); (case z_str => k_is); (case z_sum => k_is); (case z_tuple => k_is); (case z_zip => k_is); (case c_FEWEST_MEETINGS => k_is); (case c_MOST_MARKS => k_is); (case c_MOST_MEETINGS => k_is); (case c_MOST_PLACES => k_is); (case c_MOST_ROUNDS => k_is); (case kw_refused_right => rfl); (case xr_InvalidMarks => rfl); (case kt_refused_right => kernel_rfl)
