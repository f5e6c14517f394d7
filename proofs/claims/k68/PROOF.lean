import PyProof.Rows.All
import Wide.All
import OpenK.AllK
import Wide.FinOn
import KE.GoesEnum
import KE.GoesMore
import HandS.ForMost
import HandS.Property
import HandS.IsInst
import HandS.Wide
import HandS.WideBits
import HandS.Defaults
import HandS.StrMore
import HandS.Style
import HandS.Codes
import HandS.OwnEq
import HandS.Conv
import HandS.SetFor
import HandS.WrittenGet
import PyProof.StrBlock2
import PyProof.LongRange
import PyProof.ReprRoads
import HandS.FStr
import HandS.MakeKwOnly
import HandS.ListItems
import HandS.Gcd
import HandS.Small
import HandS.NoneIn
import HandS.Walk
import HandS.Deep
import HandS.SortRule
import HandS.SortInts
import PySem.Challenge.RW_ringrows_k68_whole_homes_of_pairs
set_option Elab.async false
set_option linter.all false
set_option maxRecDepth 100000
set_option maxHeartbeats 4000000
namespace Rx
open PySem PySem.Spec PyProof.Rows L2

inductive D where
  | v (x : V)
  | lst (xs : List D)
  | tup (xs : List D)
  | ins (C : Addr) (ns : List Str) (xs : List D)
  | dct (ks : List Key) (xs : List D)
  | dcT (ks : List (List Key)) (xs : List D)

mutual
def rep (ms : List Addr) (H : Hp) : D → V → Prop
  | .v x, u => u = x
  | .lst ds, u => ∃ p vs, u = .ref p ∧ p ∉ ms ∧ H p = some (.lst vs) ∧ repL ms H ds vs
  | .tup ds, u => ∃ p vs, u = .ref p ∧ p ∉ ms ∧ H p = some (.tup vs) ∧ repL ms H ds vs
  | .ins C ns ds, u => ∃ p dx vs, u = .ref p ∧ p ∉ ms ∧ H p = some (.ins C dx (ns.zip vs)) ∧ ns.length = vs.length ∧ repL ms H ds vs
  | .dct ks ds, u => ∃ p vs, u = .ref p ∧ p ∉ ms ∧ H p = some (.dK (ks.zip vs)) ∧ ks.length = vs.length ∧ repL ms H ds vs
  | .dcT ks ds, u => ∃ p vs, u = .ref p ∧ p ∉ ms ∧ H p = some (.dT (ks.zip vs)) ∧ ks.length = vs.length ∧ repL ms H ds vs
def repL (ms : List Addr) (H : Hp) : List D → List V → Prop
  | [], vs => vs = []
  | d :: ds, vs => ∃ u us, vs = u :: us ∧ rep ms H d u ∧ repL ms H ds us
end

mutual
theorem rep_map {ms ms' : List Addr} {H H' : Hp} (f : ∀ p o, p ∉ ms → H p = some o → p ∉ ms' ∧ H' p = some o) : ∀ (d : D) (u : V), rep ms H d u → rep ms' H' d u
  | .v x, u, h => by
    simp only [rep] at h ⊢
    exact h
  | .lst ds, u, h => by
    simp only [rep] at h ⊢
    obtain ⟨p, vs, e, n, hp, hl⟩ := h
    exact ⟨p, vs, e, (f p _ n hp).1, (f p _ n hp).2, repL_map f ds vs hl⟩
  | .tup ds, u, h => by
    simp only [rep] at h ⊢
    obtain ⟨p, vs, e, n, hp, hl⟩ := h
    exact ⟨p, vs, e, (f p _ n hp).1, (f p _ n hp).2, repL_map f ds vs hl⟩
  | .ins C ns ds, u, h => by
    simp only [rep] at h ⊢
    obtain ⟨p, dx, vs, e, n, hp, hn, hl⟩ := h
    exact ⟨p, dx, vs, e, (f p _ n hp).1, (f p _ n hp).2, hn, repL_map f ds vs hl⟩
  | .dct ks ds, u, h => by
    simp only [rep] at h ⊢
    obtain ⟨p, vs, e, n, hp, hn, hl⟩ := h
    exact ⟨p, vs, e, (f p _ n hp).1, (f p _ n hp).2, hn, repL_map f ds vs hl⟩
  | .dcT ks ds, u, h => by
    simp only [rep] at h ⊢
    obtain ⟨p, vs, e, n, hp, hn, hl⟩ := h
    exact ⟨p, vs, e, (f p _ n hp).1, (f p _ n hp).2, hn, repL_map f ds vs hl⟩
theorem repL_map {ms ms' : List Addr} {H H' : Hp} (f : ∀ p o, p ∉ ms → H p = some o → p ∉ ms' ∧ H' p = some o) : ∀ (ds : List D) (us : List V), repL ms H ds us → repL ms' H' ds us
  | [], us, h => by
    simp only [repL] at h ⊢
    exact h
  | d :: ds, us, h => by
    simp only [repL] at h ⊢
    obtain ⟨u, vs, e, h1, h2⟩ := h
    exact ⟨u, vs, e, rep_map f d u h1, repL_map f ds vs h2⟩
end

theorem repL_len {ms : List Addr} {H : Hp} : ∀ {ds : List D} {vs : List V}, repL ms H ds vs → ds.length = vs.length
  | [], vs, h => by
    simp only [repL] at h
    rw [h]
    rfl
  | d :: ds, vs, h => by
    simp only [repL] at h
    obtain ⟨u, us, e, _, h2⟩ := h
    rw [e]
    show ds.length + 1 = us.length + 1
    rw [repL_len h2]
theorem repL_get {ms : List Addr} {H : Hp} : ∀ {ds : List D} {vs : List V} {j : Nat} {d : D}, repL ms H ds vs → ds[j]? = some d → ∃ v, vs[j]? = some v ∧ rep ms H d v
  | [], vs, j, d, h, e => by simp at e
  | d0 :: ds, vs, 0, d, h, e => by
    simp only [repL] at h
    obtain ⟨u, us, rfl, h1, _⟩ := h
    have e' : d0 = d := Option.some.inj e
    subst e'
    exact ⟨u, rfl, h1⟩
  | d0 :: ds, vs, j + 1, d, h, e => by
    simp only [repL] at h
    obtain ⟨u, us, rfl, _, h2⟩ := h
    exact repL_get (j := j) h2 (by simpa using e)
theorem repL_app {ms : List Addr} {H : Hp} : ∀ {ds es : List D} {vs us : List V}, repL ms H ds vs → repL ms H es us → repL ms H (ds ++ es) (vs ++ us)
  | [], es, vs, us, h, h' => by
    simp only [repL] at h
    rw [h]
    exact h'
  | d :: ds, es, vs, us, h, h' => by
    simp only [repL] at h
    obtain ⟨u, ws, rfl, h1, h2⟩ := h
    show repL ms H (d :: (ds ++ es)) (u :: (ws ++ us))
    simp only [repL]
    exact ⟨u, ws ++ us, rfl, h1, repL_app h2 h'⟩
theorem repL_one {ms : List Addr} {H : Hp} {d : D} {u : V} (h : rep ms H d u) : repL ms H [d] [u] := by
  simp only [repL]
  exact ⟨u, [], rfl, h, rfl⟩
theorem repL_nil {ms : List Addr} {H : Hp} : repL ms H [] [] := by simp only [repL]
theorem repL_cons {ms : List Addr} {H : Hp} {d : D} {u : V} {ds : List D} {us : List V} (h : rep ms H d u) (t : repL ms H ds us) : repL ms H (d :: ds) (u :: us) := by
  simp only [repL]
  exact ⟨u, us, rfl, h, t⟩
theorem rep_v {ms : List Addr} {H : Hp} {x : V} : rep ms H (.v x) x := by simp only [rep]
theorem of_v {ms : List Addr} {H : Hp} {x u : V} (h : rep ms H (.v x) u) : u = x := by
  simp only [rep] at h
  exact h
/-- a list of flat values -/
theorem repL_flat {ms : List Addr} {H : Hp} : ∀ {xs vs : List V}, repL ms H (xs.map D.v) vs ↔ vs = xs
  | [], vs => by simp only [List.map_nil, repL]
  | x :: xs, vs => by
    simp only [List.map_cons, repL]
    constructor
    · rintro ⟨u, us, rfl, h1, h2⟩
      rw [of_v h1, repL_flat.mp h2]
    · rintro rfl
      exact ⟨x, xs, rfl, rep_v, repL_flat.mpr rfl⟩

/-! ### frames -/
def PotH (H : Hp) (a : Addr) : Prop := ∃ i j : Int, H a = some (.lst [.int i, .int j]) ∧ j.natAbs < 4294967296
structure Ret (ps : List Addr) (H H' : Hp) : Prop where
  kp : ∀ a o, a ∉ ps → H a = some o → H' a = some o
  pot : ∀ a ∈ ps, PotH H' a
  grow : ∀ a, H a ≠ none → H' a ≠ none
abbrev Ext (H H' : Hp) : Prop := Ret [] H H'
theorem Ret.rfl0 {H : Hp} : Ret [] H H := ⟨fun _ _ _ h => h, fun _ h => absurd h List.not_mem_nil, fun _ h => h⟩
theorem Ext.keep {H H' : Hp} (e : Ext H H') {a : Addr} {o : HO} (h : H a = some o) : H' a = some o := e.kp a o (by simp) h
theorem Ext.new {H : Hp} {p : Addr} {o : HO} (np : H p = none) : Ext H (upd H p o) := by
  refine ⟨fun a u _ h => ?_, fun _ h => absurd h List.not_mem_nil, fun a h => ?_⟩
  · rw [upd_ne (ne_of_none h np)]
    exact h
  · by_cases e : a = p
    · rw [e, upd_same]
      exact fun z => nomatch z
    · rw [upd_ne e]
      exact h
theorem newH {H : Hp} {o : HO} {Q : V → Hp → Prop} (h : ∀ p H', H p = none → Ext H H' → H' p = some o → Q (.ref p) H') : ∀ p, H p = none → Q (.ref p) (upd H p o) :=
  fun p np => h p _ np (Ext.new np) upd_same

structure Wd (ms ps : List Addr) (cs : List (Addr × List V)) (H0 H : Hp) : Prop where
  kp : ∀ a o, a ∉ ps → H0 a = some o → H a = some o
  grow : ∀ a, H0 a ≠ none → H a ≠ none
  tr : ∀ m ∈ ms, H m ≠ none
  pot : ∀ a ∈ ps, PotH H a
  pm : ∀ a ∈ ps, a ∈ ms
  cel : ∀ c ∈ cs, H c.1 = some (.lst c.2) ∧ c.1 ∈ ms ∧ c.1 ∉ ps ∧ H0 c.1 = none

section
variable {ms ps ps' : List Addr} {cs : List (Addr × List V)} {H0 H H' : Hp} {d : D} {u : V}
theorem Wd.ret (hs : ∀ a ∈ ps', a ∈ ps) (w : Wd ms ps cs H0 H) (e : Ret ps' H H') : Wd ms ps cs H0 H' where
  kp := fun a o n h => e.kp a o (fun z => n (hs a z)) (w.kp a o n h)
  grow := fun a h => e.grow a (w.grow a h)
  tr := fun m h => e.grow m (w.tr m h)
  pot := fun a h => by
    by_cases z : a ∈ ps'
    · exact e.pot a z
    · obtain ⟨i, j, h1, h2⟩ := w.pot a h
      exact ⟨i, j, e.kp a _ z h1, h2⟩
  pm := w.pm
  cel := fun c h => by
    obtain ⟨h1, h2, h3, h4⟩ := w.cel c h
    exact ⟨e.kp _ _ (fun z => h3 (hs _ z)) h1, h2, h3, h4⟩
theorem Wd.ret0 (w : Wd ms ps cs H0 H) (e : Ret [] H H') : Wd ms ps cs H0 H' := w.ret (fun _ h => absurd h List.not_mem_nil) e
theorem Wd.retP (w : Wd ms ps cs H0 H) (e : Ret ps H H') : Wd ms ps cs H0 H' := w.ret (fun _ h => h) e
theorem Wd.enter0 (w : Wd ms ps cs H0 H) : Wd ms [] [] H H := ⟨fun _ _ _ h => h, fun _ h => h, w.tr, fun _ h => absurd h List.not_mem_nil, fun _ h => absurd h List.not_mem_nil, fun _ h => absurd h List.not_mem_nil⟩
theorem Wd.enterP (w : Wd ms ps cs H0 H) : Wd ms ps [] H H := ⟨fun _ _ _ h => h, fun _ h => h, w.tr, w.pot, w.pm, fun _ h => absurd h List.not_mem_nil⟩
theorem Wd.out (w : Wd ms ps cs H0 H) : Ret ps H0 H := ⟨w.kp, w.pot, w.grow⟩
theorem rep_ret (w : Wd ms ps cs H0 H) (e : Ret ps H H') (h : rep ms H d u) : rep ms H' d u := rep_map (fun p o n hp => ⟨n, e.kp p o (fun z => n (w.pm p z)) hp⟩) d u h
theorem rep_ext (e : Ret [] H H') (h : rep ms H d u) : rep ms H' d u := rep_map (fun p o n hp => ⟨n, e.kp p o (by simp) hp⟩) d u h
theorem repL_ret {ds : List D} {us : List V} (w : Wd ms ps cs H0 H) (e : Ret ps H H') (h : repL ms H ds us) : repL ms H' ds us := repL_map (fun p o n hp => ⟨n, e.kp p o (fun z => n (w.pm p z)) hp⟩) ds us h
theorem repL_ext {ds : List D} {us : List V} (e : Ret [] H H') (h : repL ms H ds us) : repL ms H' ds us := repL_map (fun p o n hp => ⟨n, e.kp p o (by simp) hp⟩) ds us h
/-- a new cell -/
theorem Wd.cell {l : Addr} {xs : List V} (w : Wd ms ps cs H0 H) (nl : H l = none) : Wd (l :: ms) ps ((l, xs) :: cs) H0 (upd H l (.lst xs)) := by
  have e : Ext H (upd H l (.lst xs)) := Ext.new nl
  have w1 := w.ret0 e
  refine ⟨w1.kp, w1.grow, fun m h => ?_, w1.pot, fun a h => List.mem_cons_of_mem _ (w.pm a h), fun c h => ?_⟩
  · rcases List.mem_cons.mp h with rfl | h
    · rw [upd_same]
      exact fun z => nomatch z
    · exact w1.tr m h
  · rcases List.mem_cons.mp h with rfl | h
    · refine ⟨upd_same, List.mem_cons_self, fun z => ?_, ?_⟩
      · obtain ⟨i, j, h1, _⟩ := w.pot _ z
        rw [nl] at h1
        cases h1
      · show H0 l = none
        cases q : H0 l with
        | none => rfl
        | some o => exact absurd nl (w.grow l (by rw [q]; exact fun z => nomatch z))
    · obtain ⟨h1, h2, h3, h4⟩ := w1.cel c h
      exact ⟨h1, List.mem_cons_of_mem _ h2, h3, h4⟩
theorem rep_cell {l : Addr} {o : HO} (nl : H l = none) (h : rep ms H d u) : rep (l :: ms) (upd H l o) d u := by
  refine rep_map (fun p o n hp => ?_) d u h
  have ne : p ≠ l := ne_of_none hp nl
  refine ⟨fun z => ?_, by rw [upd_ne ne]; exact hp⟩
  rcases List.mem_cons.mp z with z | z
  · exact ne z
  · exact n z
/-- a cell's store -/
theorem Wd.put {l : Addr} {xs ys : List V} (w : Wd ms ps ((l, xs) :: cs) H0 H) (hn : ∀ c ∈ cs, c.1 ≠ l) : Wd ms ps ((l, ys) :: cs) H0 (upd H l (.lst ys)) := by
  obtain ⟨hl, lm, lp, l0⟩ := w.cel _ List.mem_cons_self
  refine ⟨fun a o n h => ?_, fun a h => ?_, fun m h => ?_, fun a h => ?_, w.pm, fun c h => ?_⟩
  · rw [upd_ne (ne_of_none h l0)]
    exact w.kp a o n h
  · by_cases e : a = l
    · rw [e, upd_same]
      exact fun z => nomatch z
    · rw [upd_ne e]
      exact w.grow a h
  · by_cases e : m = l
    · rw [e, upd_same]
      exact fun z => nomatch z
    · rw [upd_ne e]
      exact w.tr m h
  · obtain ⟨i, j, h1, h2⟩ := w.pot a h
    exact ⟨i, j, by rw [upd_ne (fun z => lp (by rw [← z]; exact h))]; exact h1, h2⟩
  · rcases List.mem_cons.mp h with rfl | h
    · exact ⟨upd_same, lm, lp, l0⟩
    · obtain ⟨h1, h2, h3, h4⟩ := w.cel c (List.mem_cons_of_mem _ h)
      exact ⟨by rw [upd_ne (hn c h)]; exact h1, h2, h3, h4⟩
theorem rep_put {l : Addr} {o : HO} (lm : l ∈ ms) (h : rep ms H d u) : rep ms (upd H l o) d u :=
  rep_map (fun p o n hp => ⟨n, by rw [upd_ne (fun z => n (by rw [z]; exact lm))]; exact hp⟩) d u h
theorem repL_put {ds : List D} {us : List V} {l : Addr} {o : HO} (lm : l ∈ ms) (h : repL ms H ds us) : repL ms (upd H l o) ds us :=
  repL_map (fun p o n hp => ⟨n, by rw [upd_ne (fun z => n (by rw [z]; exact lm))]; exact hp⟩) ds us h
/-- the newest cell is a list for good -/
theorem Wd.froze {l : Addr} {xs : List V} (w : Wd (l :: ms) ps ((l, xs) :: cs) H0 H) (hp : ∀ a ∈ ps, a ∈ ms) (hc : ∀ c ∈ cs, c.1 ∈ ms) : Wd ms ps cs H0 H :=
  ⟨w.kp, w.grow, fun m h => w.tr m (List.mem_cons_of_mem _ h), w.pot, hp, fun c h => by
    obtain ⟨h1, _, h3, h4⟩ := w.cel c (List.mem_cons_of_mem _ h)
    exact ⟨h1, hc c h, h3, h4⟩⟩
theorem rep_weak {l : Addr} (h : rep (l :: ms) H d u) : rep ms H d u := rep_map (fun p o n hp => ⟨fun z => n (List.mem_cons_of_mem _ z), hp⟩) d u h
theorem repL_weak {ds : List D} {us : List V} {l : Addr} (h : repL (l :: ms) H ds us) : repL ms H ds us := repL_map (fun p o n hp => ⟨fun z => n (List.mem_cons_of_mem _ z), hp⟩) ds us h
end

/-! ### a reading may be weakened at its end: the places where ways are joined -/
def upE (t : TE) : TE := fun σ H Q => ∃ Q' : VK, t σ H Q' ∧ ∀ v H', Q' v H' → Q v H'
def upT (t : TT) : TT := fun σ H Q => ∃ Q' : Bool → Hp → Prop, t σ H Q' ∧ ∀ b H', Q' b H' → Q b H'
def upS (t : TS) : TS := fun D σ H => ∃ N : L2.St → Hp → Prop, t { D with nx := N } σ H ∧ ∀ σ' H', N σ' H' → D.nx σ' H'
section
variable {X : Cx}
theorem pe_up {e : Expr} {t : TE} (h : PE X e t) : PE X e (upE t) := ⟨fun pins s σ H Q I ⟨Q', hq, m⟩ => thn (h.run pins s σ H Q' I hq) fun u s' ⟨v, H', I', r, q⟩ => ⟨v, H', I', r, m v H' q⟩⟩
theorem pt_up {e : Expr} {t : TT} (h : PT X e t) : PT X e (upT t) := ⟨fun pins s σ H Q I ⟨Q', hq, m⟩ => thn (h.run pins s σ H Q' I hq) fun u s' ⟨H', I', q⟩ => ⟨H', I', m u H' q⟩⟩
theorem ps_up {st : Stmt} {t : TS} (h : PS X st t) : PS X st (upS t) := ⟨fun pins s σ H D I ⟨N, hq, m⟩ => thn (h.run pins s σ H _ I hq) fun f s' q => by
  cases f with
  | next => obtain ⟨σ', H', I', n⟩ := q; exact ⟨σ', H', I', m _ _ n⟩
  | brk => exact q
  | cont => exact q
  | ret u => exact q⟩
end

/-! ### loops by data -/
def mapC {α β : Type} (body : α → (β → Prop) → Prop) : List α → List β → (List β → Prop) → Prop
  | [], acc, k => k acc
  | x :: xs, acc, k => body x fun y => mapC body xs (acc ++ [y]) k
def filC {α β : Type} (body : α → (Option β → Prop) → Prop) : List α → List β → (List β → Prop) → Prop
  | [], acc, k => k acc
  | x :: xs, acc, k => body x fun o => match o with
    | some y => filC body xs (acc ++ [y]) k
    | none => filC body xs acc k
def forC {α S : Type} (body : α → S → (S → Prop) → Prop) : List α → S → (S → Prop) → Prop
  | [], s, k => k s
  | x :: xs, s, k => body x s fun s' => forC body xs s' k
def whileC {S : Type} (body : S → (S → Prop) → (S → Prop) → Prop) : Nat → S → (S → Prop) → Prop
  | 0, _, _ => False
  | n + 1, s, k => body s (fun s' => whileC body n s' k) k
def rangeI (lo hi : Int) : List Int := (List.range (hi - lo).toNat).map fun i => lo + ((i : Nat) : Int)
theorem rangeI_len {lo hi : Int} : (rangeI lo hi).length = (hi - lo).toNat := by simp [rangeI]
theorem rangeI_get {lo hi : Int} {i : Nat} (h : i < (hi - lo).toNat) : (rangeI lo hi)[i]? = some (lo + (i : Int)) := by
  simp [rangeI, List.getElem?_map, List.getElem?_range h]
theorem drop_cons' {α : Type} {xs : List α} {i : Nat} {x : α} (h : xs[i]? = some x) : xs.drop i = x :: xs.drop (i + 1) := by
  obtain ⟨h1, h2⟩ := List.getElem?_eq_some_iff.mp h
  rw [List.drop_eq_getElem_cons h1, h2]

/-- what a loop keeps of all that it does not change -/
def Keep (ms : List Addr) (H H' : Hp) : Prop := ∀ a o, a ∉ ms → H a = some o → H' a = some o
section
variable {ms ps : List Addr} {cs : List (Addr × List V)} {H0 H H1 H' : Hp} {d : D} {u : V}
theorem Keep.refl : Keep ms H H := fun _ _ _ h => h
theorem keep_ret (w : Wd ms ps cs H0 H) (e : Ret ps H H') (k : Keep ms H1 H) : Keep ms H1 H' := fun a o n h => e.kp a o (fun z => n (w.pm a z)) (k a o n h)
theorem keep_ext (e : Ret [] H H') (k : Keep ms H1 H) : Keep ms H1 H' := fun a o n h => e.kp a o (by simp) (k a o n h)
theorem keep_cell {l : Addr} {o : HO} (nl : H l = none) (k : Keep ms H1 H) : Keep (l :: ms) H1 (upd H l o) := fun a u n h => by
  rw [upd_ne (fun z => n (by rw [z]; exact List.mem_cons_self))]
  exact k a u (fun z => n (List.mem_cons_of_mem _ z)) h
theorem keep_put {l : Addr} {o : HO} (lm : l ∈ ms) (k : Keep ms H1 H) : Keep ms H1 (upd H l o) := fun a u n h => by
  rw [upd_ne (fun z => n (by rw [z]; exact lm))]
  exact k a u n h
theorem rep_keep (k : Keep ms H H') (h : rep ms H d u) : rep ms H' d u := rep_map (fun p o n hp => ⟨n, k p o n hp⟩) d u h
theorem repL_keep {ds : List D} {us : List V} (k : Keep ms H H') (h : repL ms H ds us) : repL ms H' ds us := repL_map (fun p o n hp => ⟨n, k p o n hp⟩) ds us h
theorem at_keep {a : Addr} {o : HO} (k : Keep ms H H') (n : a ∉ ms) (h : H a = some o) : H' a = some o := k a o n h
end

theorem ite3 {c : Prop} [Decidable c] {A B P R : Prop} (h : if c then A else B) (h1 : A → P) (h2 : B → R) : if c then P else R := by
  by_cases q : c
  · rw [if_pos q] at h ⊢
    exact h1 h
  · rw [if_neg q] at h ⊢
    exact h2 h

section
variable {K : PySem.W.Frag} {ms ps : List Addr} {cs : List (Addr × List V)} {H0 H : Hp} {d : D} {u x : V}
/-! ### readings by data -/
theorem rep_fld {C : Addr} {ns : List Str} {ds : List D} {f : Str} {Q : VK} {j : Nat} (h : rep ms H (.ins C ns ds) x) (c : Cls K C) (n : NoAttr K C f) (nd : ns.Nodup) (hn : ns[j]? = some f) (hd : ds[j]? = some d) (k : ∀ v, rep ms H d v → Q v H) :
    ∃ a C dx fs v, x = .ref a ∧ H a = some (.ins C dx fs) ∧ Cls K C ∧ NoAttr K C f ∧ fs.lookup f = some v ∧ Q v H := by
  simp only [rep] at h
  obtain ⟨p, dx, vs, e, _, hp, hl, hr⟩ := h
  obtain ⟨v, hv, rv⟩ := repL_get hr hd
  refine ⟨p, C, dx, _, v, e, hp, c, n, ?_, k v rv⟩
  clear hr hd hp e k rv
  induction ns generalizing vs j with
  | nil => simp at hn
  | cons n0 ns ih =>
    cases vs with
    | nil => simp at hv
    | cons v0 vs =>
      cases j with
      | zero =>
        have e1 : n0 = f := Option.some.inj hn
        have e2 : v0 = v := Option.some.inj hv
        subst e1 e2
        simp [List.lookup]
      | succ j =>
        have hn' : ns[j]? = some f := by simpa using hn
        have hv' : vs[j]? = some v := by simpa using hv
        have ne : f ≠ n0 := fun z => by
          subst z
          exact (List.nodup_cons.mp nd).1 (List.mem_of_getElem? hn')
        show ((n0, v0) :: ns.zip vs).lookup f = some v
        rw [List.lookup_cons, show (f == n0) = false from beq_eq_false_iff_ne.mpr ne]
        exact ih (List.nodup_cons.mp nd).2 hn' vs (by simpa using hl) hv'
theorem lookup_zip_none {m : Str} : ∀ {ns : List Str} {vs : List V}, m ∉ ns → (ns.zip vs).lookup m = none
  | [], vs, _ => by simp
  | n :: ns, [], _ => by simp
  | n :: ns, v :: vs, h => by
    show ((n, v) :: ns.zip vs).lookup m = none
    rw [List.lookup_cons, show (m == n) = false from beq_eq_false_iff_ne.mpr fun z => h (by rw [z]; exact List.mem_cons_self)]
    exact lookup_zip_none fun z => h (List.mem_cons_of_mem _ z)
theorem rep_meth {C : Addr} {ns : List Str} {ds : List D} {m : Str} {P : Hp → Prop} (h : rep ms H (.ins C ns ds) x) (hm : m ∉ ns) (k : P H) : ∃ a dx fs, x = .ref a ∧ H a = some (.ins C dx fs) ∧ fs.lookup m = none ∧ P H := by
  simp only [rep] at h
  obtain ⟨p, dx, vs, e, _, hp, hl, hr⟩ := h
  exact ⟨p, dx, _, e, hp, lookup_zip_none hm, k⟩
theorem rep_prop {C : Addr} {ns : List Str} {ds : List D} {P : Addr → Prop} (h : rep ms H (.ins C ns ds) x) (k : ∀ a, rep ms H (.ins C ns ds) (.ref a) → P a) : ∃ a dx fs, x = .ref a ∧ H a = some (.ins C dx fs) ∧ P a := by
  have h' := h
  simp only [rep] at h
  obtain ⟨p, dx, vs, e, _, hp, hl, hr⟩ := h
  subst e
  exact ⟨p, dx, _, rfl, hp, k p h'⟩
/-- t[j], j written -/
theorem rep_ixT {ds : List D} {i : Int} (j : Nat) {σ : L2.St} {Q : VK} (h : rep ms H (.tup ds) x) (hi : i = (j : Int)) (hd : ds[j]? = some d) (k : ∀ v, rep ms H d v → Q v H) : tC (V.int i) σ H fun y H2 => rIxT K x y H2 Q := by
  subst hi
  simp only [rep] at h
  obtain ⟨p, vs, e, _, hp, hr⟩ := h
  obtain ⟨v, hv, rv⟩ := repL_get hr hd
  exact ⟨p, vs, _, v, e, rfl, .inl (.inl hp), atI_nat hv, k v rv⟩
/-- xs[i] -/
theorem rep_ixL {α : Type} {e : α → D} {xs : List α} {i : Int} {Q : VK} (h : rep ms H (.lst (xs.map e)) x) (h0 : 0 ≤ i) (hi : i.toNat < xs.length) (k : ∀ v, rep ms H (e (xs[i.toNat]'hi)) v → Q v H) : rIxL K x (.int i) H Q := by
  simp only [rep] at h
  obtain ⟨p, vs, e', _, hp, hr⟩ := h
  obtain ⟨v, hv, rv⟩ := repL_get (d := e (xs[i.toNat]'hi)) hr (by rw [List.getElem?_map, List.getElem?_eq_getElem hi]; rfl)
  refine ⟨p, vs, i, v, e', rfl, .inl (.inl hp), at_of (j := i.toNat) (by omega) hv, k v rv⟩
theorem rep_lenL {α : Type} {e : α → D} {xs : List α} {P : Nat → Prop} (h : rep ms H (.lst (xs.map e)) x) (k : P xs.length) : ∃ y n, [x] = [y] ∧ LenV K y H n ∧ P n := by
  simp only [rep] at h
  obtain ⟨p, vs, e', _, hp, hr⟩ := h
  subst e'
  have hl := repL_len hr
  rw [List.length_map] at hl
  exact ⟨_, xs.length, rfl, .inl ⟨vs, .inl (.inl hp), hl⟩, k⟩
theorem rep_iter {ds : List D} {P : Addr → Prop} (h : rep ms H (.lst ds) x) (k : ∀ a xs, x = .ref a → a ∉ ms → H a = some (.lst xs) → repL ms H ds xs → P a) : ∃ a, x = .ref a ∧ (∃ xs, SqL K H a xs) ∧ P a := by
  simp only [rep] at h
  obtain ⟨p, vs, e, n, hp, hr⟩ := h
  exact ⟨p, e, ⟨vs, .inl (.inl hp)⟩, k p vs e n hp hr⟩
theorem rep_gtup {ds : List D} {n : Nat} {Q : L2.St → Hp → Prop} {t : TGs} {σ : L2.St} (h : rep ms H (.tup ds) x) (hn : ds.length = n) (k : ∀ vs, repL ms H ds vs → t vs σ H Q) : ∃ a xs, x = .ref a ∧ SqT K H a xs ∧ xs.length = n ∧ t xs σ H Q := by
  simp only [rep] at h
  obtain ⟨p, vs, e, _, hp, hr⟩ := h
  exact ⟨p, vs, e, .inl (.inl hp), by rw [← repL_len hr]; exact hn, k vs hr⟩
theorem rep_tup_mk {p : Addr} {ds : List D} {vs : List V} (w : Wd ms ps cs H0 H) (np : H p = none) (e : Ext H H') (hp : H' p = some (.tup vs)) (hr : repL ms H ds vs) : rep ms H' (.tup ds) (.ref p) := by
  simp only [rep]
  exact ⟨p, vs, rfl, fun z => w.tr p z np, hp, repL_ext e hr⟩
theorem rep_lst_mk {p : Addr} {ds : List D} {vs : List V} (w : Wd ms ps cs H0 H) (np : H p = none) (e : Ext H H') (hp : H' p = some (.lst vs)) (hr : repL ms H ds vs) : rep ms H' (.lst ds) (.ref p) := by
  simp only [rep]
  exact ⟨p, vs, rfl, fun z => w.tr p z np, hp, repL_ext e hr⟩
end

/-! ### comprehensions -/
section
variable {α β : Type} {K : PySem.W.Frag} {ms ps : List Addr} {cs : List (Addr × List V)} {H0 H1 : Hp} {g : TG} {tt : TT} {te : TE} {vl : List Nat} {σ : L2.St} {Qd : Hp → Prop}
/-- where a turn begins: the new list at L holds what is made so far -/
structure Trn (ms ps : List Addr) (cs : List (Addr × List V)) (H0 H1 : Hp) (L : Addr) (eb : β → D) (n : Nat) (ys : List β) (vs : List V) (H : Hp) : Prop where
  w : Wd (L :: ms) ps ((L, vs) :: cs) H0 H
  k : Keep (L :: ms) H1 H
  r : repL (L :: ms) H (ys.map eb) vs
  n : ys.length ≤ n
theorem Trn.add {L : Addr} {eb : β → D} {n : Nat} {ys : List β} {vs : List V} {H : Hp} {y : β} {u : V} (hc : ∀ c ∈ cs, c.1 ≠ L) (w : Wd (L :: ms) ps ((L, vs) :: cs) H0 H) (k : Keep (L :: ms) H1 H) (r : repL (L :: ms) H (ys.map eb) vs) (hn : ys.length ≤ n) (hr : rep (L :: ms) H (eb y) u) :
    Trn ms ps cs H0 H1 L eb (n + 1) (ys ++ [y]) (vs ++ [u]) (upd H L (.lst (vs ++ [u]))) := by
  refine ⟨w.put hc, keep_put List.mem_cons_self k, ?_, by rw [List.length_append]; exact Nat.add_le_add_right hn 1⟩
  rw [List.map_append]
  exact repL_put List.mem_cons_self (repL_app r (repL_one hr))
theorem new_ne {L : Addr} (w : Wd ms ps cs H0 H1) (nl : H1 L = none) : ∀ c ∈ cs, c.1 ≠ L := fun c h z => by
  have q := (w.cel c h).1
  rw [z, nl] at q
  cases q
theorem Trn.start {L : Addr} {eb : β → D} (w : Wd ms ps cs H0 H1) (nl : H1 L = none) : Trn ms ps cs H0 H1 L eb 0 [] [] (upd H1 L (.lst [])) :=
  ⟨w.cell nl, fun a o n h => by rw [upd_ne (ne_of_none h nl)]; exact h, repL_nil, Nat.le_refl _⟩
theorem Trn.done {L : Addr} {eb : β → D} {n : Nat} {ys : List β} {vs : List V} {H : Hp} (w : Wd ms ps cs H0 H1) (nl : H1 L = none) (t : Trn ms ps cs H0 H1 L eb n ys vs H) : Wd ms ps cs H0 H ∧ Keep ms H1 H ∧ rep ms H (.lst (ys.map eb)) (.ref L) := by
  refine ⟨t.w.froze w.pm fun c h => (w.cel c h).2.1, fun a o n h => t.k a o (fun z => ?_) h, ?_⟩
  · rcases List.mem_cons.mp z with z | z
    · rw [z, nl] at h
      cases h
    · exact n z
  · simp only [rep]
    exact ⟨L, vs, rfl, fun z => w.tr L z nl, (t.w.cel _ List.mem_cons_self).1, repL_weak t.r⟩

/-- [e for x in range(lo, hi)] -/
theorem lc_rangeC {lo hi : Int} {N : Nat} {L : Addr} {eb : β → D} {body : Int → (β → Prop) → Prop} {KM : List β → Prop} (hN : N = (hi - lo).toNat) (w : Wd ms ps cs H0 H1) (nl : H1 L = none) (hM : (rangeI lo hi).length < 100000 ∧ mapC body (rangeI lo hi) [] KM)
    (hs : ∀ (x : Int) (n : Nat) (ys : List β) (vs : List V) (k : β → Prop) (H : Hp), n < 100000 → Trn ms ps cs H0 H1 L eb n ys vs H → body x k → ∀ Nx : Hp → Prop, (∀ y vs' H', k y → Trn ms ps cs H0 H1 L eb (n + 1) (ys ++ [y]) vs' H' → Nx H') →
      g (.int x) (wipe σ vl) H fun σ2 H2 => wipe σ2 vl = wipe σ vl ∧ tt σ2 H2 fun b H3 => if b = true then te σ2 H3 fun y H4 => ∃ acc, H4 L = some (.lst acc) ∧ acc.length < sizeLine ∧ Nx (upd H4 L (.lst (acc ++ [y]))) else Nx H3)
    (hd : ∀ ys H, KM ys → Wd ms ps cs H0 H → Keep ms H1 H → rep ms H (.lst (ys.map eb)) (.ref L) → Qd H) :
    ∃ W : Nat → Nat → Hp → Prop, (∃ m, W 0 m (upd H1 L (.lst []))) ∧ ∀ i m H, W i m H →
      ((Itr lo N).stop i H ∧ Qd H) ∨ ((Itr lo N).go i H ∧ ∃ Nx : Hp → Prop, (∀ H', Nx H' → ∃ m', m' < m ∧ W (i + 1) m' H') ∧ ∀ x H', (Itr lo N).yld i H x H' → g x (wipe σ vl) H' fun σ2 H2 => wipe σ2 vl = wipe σ vl ∧ tt σ2 H2 fun b H3 =>
        if b = true then te σ2 H3 fun y H4 => ∃ acc, H4 L = some (.lst acc) ∧ acc.length < sizeLine ∧ Nx (upd H4 L (.lst (acc ++ [y]))) else Nx H3) := by
  obtain ⟨hn, hM⟩ := hM
  subst hN
  rw [rangeI_len] at hn
  refine ⟨fun i m H => m = (hi - lo).toNat - i ∧ i ≤ (hi - lo).toNat ∧ ∃ ys vs, Trn ms ps cs H0 H1 L eb i ys vs H ∧ mapC body ((rangeI lo hi).drop i) ys KM, ⟨_, rfl, Nat.zero_le _, [], [], Trn.start w nl, hM⟩, ?_⟩
  rintro i m H ⟨rfl, hi', ys, vs, T, q⟩
  by_cases hlt : i < (hi - lo).toNat
  · refine .inr ⟨hlt, fun H' => i + 1 ≤ (hi - lo).toNat ∧ ∃ ys vs, Trn ms ps cs H0 H1 L eb (i + 1) ys vs H' ∧ mapC body ((rangeI lo hi).drop (i + 1)) ys KM, fun H' p' => ⟨_, by omega, rfl, p'⟩, fun x H' y => ?_⟩
    obtain ⟨e, y⟩ := y
    subst e y
    rw [drop_cons' (rangeI_get hlt)] at q
    exact hs _ i ys vs _ H' (by omega) T q _ fun y vs' H' k T' => ⟨hlt, _, _, T', k⟩
  · have e : i = (hi - lo).toNat := by omega
    refine .inl ⟨by rw [e]; exact Nat.le_refl _, ?_⟩
    have q' : KM ys := by
      rw [List.drop_of_length_le (by rw [rangeI_len]; omega)] at q
      exact q
    obtain ⟨w', k', r'⟩ := T.done w nl
    exact hd ys H q' w' k' r'
/-- [e for x in xs] -/
theorem lc_listC {items : List α} {a : Addr} {xs : List V} {L : Addr} {e : α → D} {eb : β → D} {body : α → (β → Prop) → Prop} {KM : List β → Prop} (w : Wd ms ps cs H0 H1) (an : a ∉ ms) (ha : H1 a = some (.lst xs)) (hx : repL ms H1 (items.map e) xs) (nl : H1 L = none) (hM : items.length < 100000 ∧ mapC body items [] KM)
    (hs : ∀ (x : α) (u : V) (n : Nat) (ys : List β) (vs : List V) (k : β → Prop) (H : Hp), n < 100000 → Trn ms ps cs H0 H1 L eb n ys vs H → rep (L :: ms) H (e x) u → body x k → ∀ Nx : Hp → Prop, (∀ y vs' H', k y → Trn ms ps cs H0 H1 L eb (n + 1) (ys ++ [y]) vs' H' → Nx H') →
      g u (wipe σ vl) H fun σ2 H2 => wipe σ2 vl = wipe σ vl ∧ tt σ2 H2 fun b H3 => if b = true then te σ2 H3 fun y H4 => ∃ acc, H4 L = some (.lst acc) ∧ acc.length < sizeLine ∧ Nx (upd H4 L (.lst (acc ++ [y]))) else Nx H3)
    (hd : ∀ ys H, KM ys → Wd ms ps cs H0 H → Keep ms H1 H → rep ms H (.lst (ys.map eb)) (.ref L) → Qd H) :
    ∃ W : Nat → Nat → Hp → Prop, (∃ m, W 0 m (upd H1 L (.lst []))) ∧ ∀ i m H, W i m H →
      ((Itl K a).stop i H ∧ Qd H) ∨ ((Itl K a).go i H ∧ ∃ Nx : Hp → Prop, (∀ H', Nx H' → ∃ m', m' < m ∧ W (i + 1) m' H') ∧ ∀ x H', (Itl K a).yld i H x H' → g x (wipe σ vl) H' fun σ2 H2 => wipe σ2 vl = wipe σ vl ∧ tt σ2 H2 fun b H3 =>
        if b = true then te σ2 H3 fun y H4 => ∃ acc, H4 L = some (.lst acc) ∧ acc.length < sizeLine ∧ Nx (upd H4 L (.lst (acc ++ [y]))) else Nx H3) := by
  obtain ⟨hn, hM⟩ := hM
  have hl : items.length = xs.length := by
    have := repL_len hx
    rwa [List.length_map] at this
  have aL : a ≠ L := ne_of_none ha nl
  have hx1 : repL (L :: ms) (upd H1 L (.lst [])) (items.map e) xs := repL_map (fun p o n hp => ⟨fun z => by
    rcases List.mem_cons.mp z with z | z
    · exact ne_of_none hp nl z
    · exact n z, by rw [upd_ne (ne_of_none hp nl)]; exact hp⟩) _ _ hx
  have aM : a ∉ L :: ms := fun z => by
    rcases List.mem_cons.mp z with z | z
    · exact aL z
    · exact an z
  refine ⟨fun i m H => m = xs.length - i ∧ i ≤ xs.length ∧ ∃ ys vs, Trn ms ps cs H0 H1 L eb i ys vs H ∧ Keep (L :: ms) (upd H1 L (.lst [])) H ∧ mapC body (items.drop i) ys KM, ⟨_, rfl, Nat.zero_le _, [], [], Trn.start w nl, Keep.refl, hM⟩, ?_⟩
  rintro i m H ⟨rfl, hi', ys, vs, T, kp, q⟩
  have hA : H a = some (.lst xs) := kp a _ aM (by rw [upd_ne aL]; exact ha)
  by_cases hlt : i < xs.length
  · refine .inr ⟨⟨xs, xs[i], .inl (.inl hA), by simp [hlt]⟩, fun H' => i + 1 ≤ xs.length ∧ ∃ ys vs, Trn ms ps cs H0 H1 L eb (i + 1) ys vs H' ∧ Keep (L :: ms) (upd H1 L (.lst [])) H' ∧ mapC body (items.drop (i + 1)) ys KM, fun H' p' => ⟨_, by omega, rfl, p'⟩, fun x H' y => ?_⟩
    obtain ⟨e1, y⟩ := y
    subst e1
    have hxi := y xs (.inl (.inl hA))
    have hit : items[i]? = some (items[i]'(by omega)) := List.getElem?_eq_getElem (by omega)
    rw [drop_cons' hit] at q
    obtain ⟨v, hv, rv⟩ := repL_get (repL_keep kp hx1) (j := i) (d := e (items[i]'(by omega))) (by rw [List.getElem?_map, hit]; rfl)
    rw [hxi] at hv
    have ev : x = v := Option.some.inj hv
    subst ev
    refine hs _ x i ys vs _ H' (by omega) T rv q _ fun y vs' H'' k T' => ⟨hlt, _, _, T', fun b o n hb => ?_, k⟩
    by_cases e3 : b = L
    · exact absurd (by rw [e3]; exact List.mem_cons_self) n
    · rw [upd_ne e3] at hb
      exact T'.k b o n hb
  · have e1 : i = xs.length := by omega
    refine .inl ⟨⟨xs, .inl (.inl hA), by omega⟩, ?_⟩
    have q' : KM ys := by
      rw [List.drop_of_length_le (by omega)] at q
      exact q
    obtain ⟨w', k', r'⟩ := T.done w nl
    exact hd ys H q' w' k' r'
end

/-! ### comprehensions with a test -/
section
variable {α β : Type} {K : PySem.W.Frag} {ms ps : List Addr} {cs : List (Addr × List V)} {H0 H1 : Hp} {g : TG} {tt : TT} {te : TE} {vl : List Nat} {σ : L2.St} {Qd : Hp → Prop}
theorem Trn.skip {L : Addr} {eb : β → D} {n : Nat} {ys : List β} {vs : List V} {H : Hp} (t : Trn ms ps cs H0 H1 L eb n ys vs H) : Trn ms ps cs H0 H1 L eb (n + 1) ys vs H := ⟨t.w, t.k, t.r, Nat.le_succ_of_le t.n⟩
theorem lf_listC {items : List α} {a : Addr} {xs : List V} {L : Addr} {e : α → D} {eb : β → D} {body : α → (Option β → Prop) → Prop} {KM : List β → Prop} (w : Wd ms ps cs H0 H1) (an : a ∉ ms) (ha : H1 a = some (.lst xs)) (hx : repL ms H1 (items.map e) xs) (nl : H1 L = none) (hM : items.length < 100000 ∧ filC body items [] KM)
    (hs : ∀ (x : α) (u : V) (n : Nat) (ys : List β) (vs : List V) (k : Option β → Prop) (H : Hp), n < 100000 → Trn ms ps cs H0 H1 L eb n ys vs H → rep (L :: ms) H (e x) u → body x k → ∀ Nx : Hp → Prop,
        (∀ y vs' H', k (some y) → Trn ms ps cs H0 H1 L eb (n + 1) (ys ++ [y]) vs' H' → Nx H') → (∀ vs' H', k none → Trn ms ps cs H0 H1 L eb (n + 1) ys vs' H' → Nx H') →
      g u (wipe σ vl) H fun σ2 H2 => wipe σ2 vl = wipe σ vl ∧ tt σ2 H2 fun b H3 => if b = true then te σ2 H3 fun y H4 => ∃ acc, H4 L = some (.lst acc) ∧ acc.length < sizeLine ∧ Nx (upd H4 L (.lst (acc ++ [y]))) else Nx H3)
    (hd : ∀ ys H, KM ys → Wd ms ps cs H0 H → Keep ms H1 H → rep ms H (.lst (ys.map eb)) (.ref L) → Qd H) :
    ∃ W : Nat → Nat → Hp → Prop, (∃ m, W 0 m (upd H1 L (.lst []))) ∧ ∀ i m H, W i m H →
      ((Itl K a).stop i H ∧ Qd H) ∨ ((Itl K a).go i H ∧ ∃ Nx : Hp → Prop, (∀ H', Nx H' → ∃ m', m' < m ∧ W (i + 1) m' H') ∧ ∀ x H', (Itl K a).yld i H x H' → g x (wipe σ vl) H' fun σ2 H2 => wipe σ2 vl = wipe σ vl ∧ tt σ2 H2 fun b H3 =>
        if b = true then te σ2 H3 fun y H4 => ∃ acc, H4 L = some (.lst acc) ∧ acc.length < sizeLine ∧ Nx (upd H4 L (.lst (acc ++ [y]))) else Nx H3) := by
  obtain ⟨hn, hM⟩ := hM
  have hl : items.length = xs.length := by
    have := repL_len hx
    rwa [List.length_map] at this
  have aL : a ≠ L := ne_of_none ha nl
  have hx1 : repL (L :: ms) (upd H1 L (.lst [])) (items.map e) xs := repL_map (fun p o n hp => ⟨fun z => by
    rcases List.mem_cons.mp z with z | z
    · exact ne_of_none hp nl z
    · exact n z, by rw [upd_ne (ne_of_none hp nl)]; exact hp⟩) _ _ hx
  have aM : a ∉ L :: ms := fun z => by
    rcases List.mem_cons.mp z with z | z
    · exact aL z
    · exact an z
  refine ⟨fun i m H => m = xs.length - i ∧ i ≤ xs.length ∧ ∃ ys vs, Trn ms ps cs H0 H1 L eb i ys vs H ∧ Keep (L :: ms) (upd H1 L (.lst [])) H ∧ filC body (items.drop i) ys KM, ⟨_, rfl, Nat.zero_le _, [], [], Trn.start w nl, Keep.refl, hM⟩, ?_⟩
  rintro i m H ⟨rfl, hi', ys, vs, T, kp, q⟩
  have hA : H a = some (.lst xs) := kp a _ aM (by rw [upd_ne aL]; exact ha)
  by_cases hlt : i < xs.length
  · refine .inr ⟨⟨xs, xs[i], .inl (.inl hA), by simp [hlt]⟩, fun H' => i + 1 ≤ xs.length ∧ ∃ ys vs, Trn ms ps cs H0 H1 L eb (i + 1) ys vs H' ∧ Keep (L :: ms) (upd H1 L (.lst [])) H' ∧ filC body (items.drop (i + 1)) ys KM, fun H' p' => ⟨_, by omega, rfl, p'⟩, fun x H' y => ?_⟩
    obtain ⟨e1, y⟩ := y
    subst e1
    have hxi := y xs (.inl (.inl hA))
    have hit : items[i]? = some (items[i]'(by omega)) := List.getElem?_eq_getElem (by omega)
    rw [drop_cons' hit] at q
    obtain ⟨v, hv, rv⟩ := repL_get (repL_keep kp hx1) (j := i) (d := e (items[i]'(by omega))) (by rw [List.getElem?_map, hit]; rfl)
    rw [hxi] at hv
    have ev : x = v := Option.some.inj hv
    subst ev
    have kk : ∀ {ys'} {vs'} {H''}, Trn ms ps cs H0 H1 L eb (i + 1) ys' vs' H'' → Keep (L :: ms) (upd H1 L (.lst [])) H'' := fun {ys' vs' H''} T' b o n hb => by
      by_cases e3 : b = L
      · exact absurd (by rw [e3]; exact List.mem_cons_self) n
      · rw [upd_ne e3] at hb
        exact T'.k b o n hb
    exact hs _ x i ys vs _ H' (by omega) T rv q _ (fun y vs' H'' k T' => ⟨hlt, _, _, T', kk T', k⟩) (fun vs' H'' k T' => ⟨hlt, _, _, T', kk T', k⟩)
  · have e1 : i = xs.length := by omega
    refine .inl ⟨⟨xs, .inl (.inl hA), by omega⟩, ?_⟩
    have q' : KM ys := by
      rw [List.drop_of_length_le (by omega)] at q
      exact q
    obtain ⟨w', k', r'⟩ := T.done w nl
    exact hd ys H q' w' k' r'
/-- an element's end -/
theorem lc_end {L : Addr} {eb : β → D} {n : Nat} {ys : List β} {vs : List V} {H : Hp} {y : β} {u : V} {Nx : Hp → Prop} (hc : ∀ c ∈ cs, c.1 ≠ L) (hn : n < 100000) (w : Wd (L :: ms) ps ((L, vs) :: cs) H0 H) (k : Keep (L :: ms) H1 H) (r : repL (L :: ms) H (ys.map eb) vs) (hy : ys.length ≤ n) (hr : rep (L :: ms) H (eb y) u)
    (h : ∀ vs' H', Trn ms ps cs H0 H1 L eb (n + 1) (ys ++ [y]) vs' H' → Nx H') : ∃ acc, H L = some (.lst acc) ∧ acc.length < sizeLine ∧ Nx (upd H L (.lst (acc ++ [u]))) := by
  refine ⟨vs, (w.cel _ List.mem_cons_self).1, ?_, h _ _ (Trn.add hc w k r hy hr)⟩
  have q := repL_len r
  rw [List.length_map] at q
  have e : sizeLine = 16777216 := sizeLine_eq
  omega
end

/-! ### for -/
section
variable {α S : Type} {K : PySem.W.Frag} {ms ps : List Addr} {H0 H1 : Hp} {g : TG} {tb : TS} {D' : Ends} {σ : L2.St} {cs : S → List (Addr × List V)}
/-- for x in range(lo, hi) -/
theorem for_rangeC {lo hi : Int} {N : Nat} {body : Int → S → (S → Prop) → Prop} {KM : S → Prop} (SI : S → L2.St → Hp → Prop) (s0 : S) (hN : N = (hi - lo).toNat) (w : Wd ms ps (cs s0) H0 H1) (hM : forC body (rangeI lo hi) s0 KM) (h0 : SI s0 σ H1)
    (hs : ∀ (x : Int) (s : S) (k : S → Prop) (σ : L2.St) (H : Hp), Wd ms ps (cs s) H0 H → Keep ms H1 H → SI s σ H → body x s k → ∀ Nx : L2.St → Hp → Prop, (∀ s' σ' H', k s' → Wd ms ps (cs s') H0 H' → Keep ms H1 H' → SI s' σ' H' → Nx σ' H') →
      g (.int x) σ H fun σ2 H2 => tb { D' with nx := Nx, ct := Nx, bk := D'.nx } σ2 H2)
    (hd : ∀ s σ H, KM s → Wd ms ps (cs s) H0 H → Keep ms H1 H → SI s σ H → D'.nx σ H) :
    ∃ W : Nat → Nat → L2.St → Hp → Prop, (∃ m, W 0 m σ H1) ∧ ∀ i m σ H, W i m σ H →
      ((Itr lo N).stop i H ∧ D'.nx σ H) ∨ ((Itr lo N).go i H ∧ ∃ Nx : L2.St → Hp → Prop, (∀ σ' H', Nx σ' H' → ∃ m', m' < m ∧ W (i + 1) m' σ' H') ∧ ∀ x H', (Itr lo N).yld i H x H' → g x σ H' fun σ2 H2 => tb { D' with nx := Nx, ct := Nx, bk := D'.nx } σ2 H2) := by
  subst hN
  refine for_range (lo := lo) (n := (hi - lo).toNat) (D := D') (fun i σ H => ∃ s, Wd ms ps (cs s) H0 H ∧ Keep ms H1 H ∧ SI s σ H ∧ forC body ((rangeI lo hi).drop i) s KM) ⟨s0, w, Keep.refl, h0, hM⟩ (fun i σ H hi' ⟨s, w', k', si, q⟩ => ?_) (fun σ H ⟨s, w', k', si, q⟩ => ?_)
  · rw [drop_cons' (rangeI_get hi')] at q
    exact hs _ s _ σ H w' k' si q _ fun s' σ' H' hk w2 k2 si2 => ⟨s', w2, k2, si2, hk⟩
  · rw [List.drop_of_length_le (by rw [rangeI_len]; exact Nat.le_refl _)] at q
    exact hd s σ H q w' k' si
/-- for x in xs -/
theorem for_listC {items : List α} {e : α → D} {a : Addr} {xs : List V} {body : α → S → (S → Prop) → Prop} {KM : S → Prop} (SI : S → L2.St → Hp → Prop) (s0 : S) (w : Wd ms ps (cs s0) H0 H1) (an : a ∉ ms) (ha : H1 a = some (.lst xs)) (hx : repL ms H1 (items.map e) xs) (hM : forC body items s0 KM) (h0 : SI s0 σ H1)
    (hs : ∀ (x : α) (u : V) (s : S) (k : S → Prop) (σ : L2.St) (H : Hp), Wd ms ps (cs s) H0 H → Keep ms H1 H → SI s σ H → rep ms H (e x) u → body x s k → ∀ Nx : L2.St → Hp → Prop, (∀ s' σ' H', k s' → Wd ms ps (cs s') H0 H' → Keep ms H1 H' → SI s' σ' H' → Nx σ' H') →
      g u σ H fun σ2 H2 => tb { D' with nx := Nx, ct := Nx, bk := D'.nx } σ2 H2)
    (hd : ∀ s σ H, KM s → Wd ms ps (cs s) H0 H → Keep ms H1 H → SI s σ H → D'.nx σ H) :
    ∃ W : Nat → Nat → L2.St → Hp → Prop, (∃ m, W 0 m σ H1) ∧ ∀ i m σ H, W i m σ H →
      ((Itl K a).stop i H ∧ D'.nx σ H) ∨ ((Itl K a).go i H ∧ ∃ Nx : L2.St → Hp → Prop, (∀ σ' H', Nx σ' H' → ∃ m', m' < m ∧ W (i + 1) m' σ' H') ∧ ∀ x H', (Itl K a).yld i H x H' → g x σ H' fun σ2 H2 => tb { D' with nx := Nx, ct := Nx, bk := D'.nx } σ2 H2) := by
  have hl : items.length = xs.length := by
    have := repL_len hx
    rwa [List.length_map] at this
  refine for_list (xs := xs) (D := D') (fun i σ H => ∃ s, Wd ms ps (cs s) H0 H ∧ Keep ms H1 H ∧ SI s σ H ∧ forC body (items.drop i) s KM) ⟨s0, w, Keep.refl, h0, hM⟩ (fun i σ H _ ⟨s, w', k', _⟩ => .inl (.inl (k' a _ an ha))) (fun i x σ H hx' ⟨s, w', k', si, q⟩ => ?_) (fun σ H ⟨s, w', k', si, q⟩ => ?_)
  · have hi : i < xs.length := (List.getElem?_eq_some_iff.mp hx').1
    have hit : items[i]? = some (items[i]'(by omega)) := List.getElem?_eq_getElem (by omega)
    rw [drop_cons' hit] at q
    obtain ⟨v, hv, rv⟩ := repL_get (repL_keep k' hx) (j := i) (d := e (items[i]'(by omega))) (by rw [List.getElem?_map, hit]; rfl)
    rw [hx'] at hv
    have ev : x = v := Option.some.inj hv
    subst ev
    exact hs _ x s _ σ H w' k' si rv q _ fun s' σ' H' hk w2 k2 si2 => ⟨s', w2, k2, si2, hk⟩
  · rw [List.drop_of_length_le (by omega)] at q
    exact hd s σ H q w' k' si
/-- while -/
theorem while_C {c : TT} {fuel : Nat} {body : S → (S → Prop) → (S → Prop) → Prop} {KM : S → Prop} (SI : S → L2.St → Hp → Prop) (s0 : S) (w : Wd ms ps (cs s0) H0 H1) (hM : whileC body fuel s0 KM) (h0 : SI s0 σ H1)
    (hs : ∀ (s : S) (k1 k2 : S → Prop) (σ : L2.St) (H : Hp), Wd ms ps (cs s) H0 H → Keep ms H1 H → SI s σ H → body s k1 k2 → ∀ (Nx : L2.St → Hp → Prop) (Ex : L2.St → Hp → Prop), (∀ s' σ' H', k1 s' → Wd ms ps (cs s') H0 H' → Keep ms H1 H' → SI s' σ' H' → Nx σ' H') → (∀ s' σ' H', k2 s' → Wd ms ps (cs s') H0 H' → Keep ms H1 H' → SI s' σ' H' → Ex σ' H') →
      c σ H fun b H1 => if b = true then tb { D' with nx := Nx, ct := Nx, bk := D'.nx } σ H1 else Ex σ H1)
    (hd : ∀ s σ H, KM s → Wd ms ps (cs s) H0 H → Keep ms H1 H → SI s σ H → D'.nx σ H)
    (mono : ∀ σ H Q Q', (∀ b H1, Q b H1 → Q' b H1) → c σ H Q → c σ H Q') : tWhile c tb D' σ H1 := by
  refine ⟨fun m σ H => ∃ s, Wd ms ps (cs s) H0 H ∧ Keep ms H1 H ∧ SI s σ H ∧ whileC body m s KM, ⟨fuel, s0, w, Keep.refl, h0, hM⟩, ?_⟩
  rintro m σ H ⟨s, w', k', si, q⟩
  cases m with
  | zero => exact False.elim q
  | succ m =>
    refine mono _ _ _ _ (fun b H2 hb => ?_) (hs s _ _ σ H w' k' si q (fun σ' H' => ∃ s, Wd ms ps (cs s) H0 H' ∧ Keep ms H1 H' ∧ SI s σ' H' ∧ whileC body m s KM) D'.nx (fun s' σ' H' hk w2 k2 si2 => ⟨s', w2, k2, si2, hk⟩) fun s' σ' H' hk w2 k2 si2 => hd s' σ' H' hk w2 k2 si2)
    cases b with
    | true => exact ⟨_, fun σ' H' p => ⟨m, Nat.lt_succ_self m, p⟩, hb⟩
    | false => exact hb
end

section
variable {K : PySem.W.Frag} {ms : List Addr} {H : Hp} {d : D} {u x y : V}
theorem repL_uncons {ds : List D} {vs : List V} (h : repL ms H (d :: ds) vs) : ∃ u us, vs = u :: us ∧ rep ms H d u ∧ repL ms H ds us := by
  simp only [repL] at h
  exact h
theorem repL_empty {vs : List V} (h : repL ms H [] vs) : vs = [] := by
  simp only [repL] at h
  exact h
theorem repL_ints {ns : List Int} {vs : List V} (h : repL ms H (ns.map fun n => D.v (.int n)) vs) : vs = ns.map V.int := by
  have e : (ns.map fun n => D.v (.int n)) = (ns.map V.int).map D.v := by rw [List.map_map]; rfl
  rw [e] at h
  exact repL_flat.mp h
theorem repL_strs {ns : List Str} {vs : List V} (h : repL ms H (ns.map fun n => D.v (.str n)) vs) : vs = ns.map V.str := by
  have e : (ns.map fun n => D.v (.str n)) = (ns.map V.str).map D.v := by rw [List.map_map]; rfl
  rw [e] at h
  exact repL_flat.mp h
theorem repL_bls {ns : List Bool} {vs : List V} (h : repL ms H (ns.map fun n => D.v (.bl n)) vs) : vs = ns.map V.bl := by
  have e : (ns.map fun n => D.v (.bl n)) = (ns.map V.bl).map D.v := by rw [List.map_map]; rfl
  rw [e] at h
  exact repL_flat.mp h
theorem rep_join {a : Str} {ys : List Str} {P : Str → List Str → Prop} (h : rep ms H (.lst (ys.map fun n => D.v (.str n))) x) (hz : (ys.map (·.length)).sum + ys.length * a.length ≤ 16777216) (k : P a ys) :
    ∃ a' p, ∃ ys : List Str, V.str a = .str a' ∧ [x] = [.ref p] ∧ (SqL K H p (ys.map V.str) ∨ SqT K H p (ys.map V.str)) ∧ (ys.map (·.length)).sum + ys.length * a'.length ≤ 16777216 ∧ P a' ys := by
  simp only [rep] at h
  obtain ⟨p, vs, e, _, hp, hr⟩ := h
  have ev := repL_strs hr
  subst ev e
  exact ⟨a, p, ys, rfl, rfl, .inl (.inl (.inl hp)), hz, k⟩
theorem rep_all {ys : List Bool} {P : List Bool → Prop} (h : rep ms H (.lst (ys.map fun n => D.v (.bl n))) x) (k : P ys) : ∃ (a : Addr) (bs : List Bool), [x] = [V.ref a] ∧ SqL K H a (bs.map V.bl) ∧ P bs := by
  simp only [rep] at h
  obtain ⟨p, vs, e, _, hp, hr⟩ := h
  have ev := repL_bls hr
  subst ev e
  exact ⟨p, ys, rfl, .inl (.inl hp), k⟩
/-! data as the library data, for == -/
mutual
def pyOf : D → PyData
  | .v .non => .none
  | .v (.bl b) => .bool b
  | .v (.int i) => .int i
  | .v (.str z) => .str z
  | .v _ => .none
  | .lst ds => .list (pyL ds)
  | .tup ds => .tuple (pyL ds)
  | .ins _ _ _ => .none
  | .dct _ _ => .none
  | .dcT _ _ => .none
def pyL : List D → List PyData
  | [] => []
  | d :: ds => pyOf d :: pyL ds
def plainD : D → Bool
  | .v .non => true
  | .v (.bl _) => true
  | .v (.int _) => true
  | .v (.str _) => true
  | .v _ => false
  | .lst ds => plainL ds
  | .tup ds => plainL ds
  | .ins _ _ _ => false
  | .dct _ _ => false
  | .dcT _ _ => false
def plainL : List D → Bool
  | [] => true
  | d :: ds => plainD d && plainL ds
end
mutual
theorem dp_of : ∀ (d : D) (u : V), plainD d = true → rep ms H d u → Dp K H u (pyOf d)
  | .v x, u, p, h => by
    have e := of_v h
    subst e
    cases u <;> simp only [pyOf, plainD] at p ⊢ <;> first | exact .non | exact .bl _ | exact .int _ | exact .str _ | cases p
  | .lst ds, u, p, h => by
    simp only [rep] at h
    obtain ⟨a, vs, e, _, hp, hr⟩ := h
    subst e
    simp only [pyOf, plainD] at p ⊢
    exact .lst (.inl (.inl hp)) (dpL_of ds vs p hr)
  | .tup ds, u, p, h => by
    simp only [rep] at h
    obtain ⟨a, vs, e, _, hp, hr⟩ := h
    subst e
    simp only [pyOf, plainD] at p ⊢
    exact .tup (.inl (.inl hp)) (dpL_of ds vs p hr)
  | .ins _ _ _, u, p, h => by
    simp only [plainD] at p
    cases p
  | .dct _ _, u, p, h => by
    simp only [plainD] at p
    cases p
  | .dcT _ _, u, p, h => by
    simp only [plainD] at p
    cases p
theorem dpL_of : ∀ (ds : List D) (vs : List V), plainL ds = true → repL ms H ds vs → DpAll K H vs (pyL ds)
  | [], vs, p, h => by
    have e := repL_empty h
    subst e
    simp only [pyL]
    exact .nil
  | d :: ds, vs, p, h => by
    obtain ⟨u, us, e, h1, h2⟩ := repL_uncons h
    subst e
    simp only [plainL, Bool.and_eq_true] at p
    simp only [pyL]
    exact .cons (dp_of d u p.1 h1) (dpL_of ds us p.2 h2)
end
theorem rep_eqD {d e : D} {Q : VK} (h1 : rep ms H d x) (h2 : rep ms H e y) (p1 : plainD d = true) (p2 : plainD e = true) (s1 : SeqAt.shaped (pyOf d) = true) (s2 : SeqAt.shaped (pyOf e) = true) (k : Q (.bl (PyData.eqv (pyOf d) (pyOf e))) H) : rEqD K x y H Q :=
  ⟨_, _, dp_of d x p1 h1, dp_of e y p2 h2, s1, s2, k⟩
theorem rep_neD {d e : D} {Q : VK} (h1 : rep ms H d x) (h2 : rep ms H e y) (p1 : plainD d = true) (p2 : plainD e = true) (s1 : SeqAt.shaped (pyOf d) = true) (s2 : SeqAt.shaped (pyOf e) = true) (k : Q (.bl (!PyData.eqv (pyOf d) (pyOf e))) H) : rNeD K x y H Q :=
  ⟨_, _, dp_of d x p1 h1, dp_of e y p2 h2, s1, s2, k⟩
end

section
variable {ms : List Addr} {H H' H1 : Hp} {d : D} {u : V} {l : Addr}
theorem Keep.trans (a : Keep ms H1 H) (b : Keep ms H H') : Keep ms H1 H' := fun x o n h => b x o n (a x o n h)
theorem Keep.new (k : Keep ms H1 H) : Keep (l :: ms) H1 H := fun x o n h => k x o (fun z => n (List.mem_cons_of_mem _ z)) h
theorem rep_new (nl : H l = none) (h : rep ms H d u) : rep (l :: ms) H d u := rep_map (fun p o n hp => ⟨fun z => by
  rcases List.mem_cons.mp z with z | z
  · exact ne_of_none hp nl z
  · exact n z, hp⟩) d u h
theorem repL_new {ds : List D} {us : List V} (nl : H l = none) (h : repL ms H ds us) : repL (l :: ms) H ds us := repL_map (fun p o n hp => ⟨fun z => by
  rcases List.mem_cons.mp z with z | z
  · exact ne_of_none hp nl z
  · exact n z, hp⟩) ds us h
end

/-! ### a method called by keywords alone -/
def tMethK (C : Addr) (m : Str) (n : Nat) (gV : List V → List V → List V) (sp : Sp) (E : XK) (ta : TE) (tk : TA) : TE := fun σ H Q => ta σ H fun x H1 => ∃ a dx fs, x = .ref a ∧ H1 a = some (.ins C dx fs) ∧ fs.lookup m = none ∧
  tk σ H1 fun zs H2 => zs.length = n ∧ sp (gV [x] zs) H2 Q E
section
variable {X : Cx} {CX : CXT} {k : Nat} {f C : Addr} {fd : FuncData} {ps ks : List Str} {sp : Sp} {E : XK} {m : Str} {apos pos : Pos} {o : Expr} {kws : List Keyword} {ta : TE} {tk : TA} {g : List Value → List Value → List Value} {gV : List V → List V → List V}
theorem pe_methK0 {pl : Sem Bool} (he : PE X o ta) (c : Cls X.K C) (hm : Meth X.K C m f) (F : FnOk X.prog X.w X.K X.mg X.base CX k f fd ps sp) (hr : Room k X.A) (hb : KBn X.K fd ps 1 ks g gV) (hx : Passes CX X E) (hkw : PK X kws tk)
    (hall : (backToKw pos (keywordEach kws X.env)).all (·.1.isSome) = true := by rfl) (hks : (backToKw pos (keywordEach kws X.env)).filterMap (·.1) = ks := by rfl)
    (hpl : ((backTo pos (starEach [] X.env)).any (·.1) || (backToKw pos (keywordEach kws X.env)).any (·.1.isNone)) = false := by rfl)
    (ht : eval (.Call (.Attribute o m apos) [] kws pos) X.env = (do
      let ov ← eval o X.env
      standAt apos.atName
      let (f, first) ← holding [ov] (getMethod ov m pl)
      callWith pos f first (backTo pos (starEach [] X.env)) (backToKw pos (keywordEach kws X.env))) := by rfl) :
    PE X (.Call (.Attribute o m apos) [] kws pos) (tMethK C m ks.length gV sp E ta tk) := by
  refine ⟨fun pins s σ H Q I h => ?_⟩
  refine PySem.W.methodCall_KW (pl := pl) (thn (he.run pins s σ H _ I h) fun u s1 ⟨x, H1, I1, rx, a, dx, fs, ex, ea, l, q⟩ => ?_) ht
  subst ex
  obtain rfl : u = Value.ref a := rx
  refine getmeth_ok I1 ea c hm l ?_
  refine PySem.W.callWith_KW0 (first := [.ref a]) (h₀ := X.base) I.ok.mod.kin hm.kp hall ?_ hpl
  refine thn (hkw.run pos pins s1 σ H1 _ I1 q) fun ws s2 ⟨zs, H2, I2, rz, l2, q2⟩ => ⟨I2.kIn, ?_⟩
  rw [hks]
  exact run_fnN (us := [.ref a]) (vs := [.ref a]) F hr hb hx I2 (.cons rfl .nil) rz rfl l2 q2
end
end Rx
namespace Rx
open PySem PySem.Spec PyProof.Rows L2
theorem vals_getD : ∀ {zs : List V} {ws : List Value}, Vals zs ws → ∀ j : Nat, RelV (zs.getD j .non) (ws.getD j .none)
  | _, _, .nil, _ => rfl
  | _, _, .cons r _, 0 => r
  | _, _, .cons _ t, j + 1 => vals_getD t j
theorem tyes_of {σ : L2.St} {H : Hp} {A B : Hp → Prop} (h : A H) : tYes σ H fun b H3 => if b = true then A H3 else B H3 := by
  show (if true = true then A H else B H)
  rw [if_pos rfl]
  exact h
theorem Ret.keep {H H' : Hp} (e : Ret [] H H') {a : Addr} {o : HO} (h : H a = some o) : H' a = some o := e.kp a o (by simp) h
end Rx
namespace Rx
open PySem PySem.Spec PyProof.Rows L2
section
variable {X : Cx}
def rMulS : R2 := fun x y H Q => ∃ (a : Str) (k : Int), x = .str a ∧ y = .int k ∧ MulOk a k ∧ Q (.str (Txt.mul a k)) H
theorem op_mulS : OpR X (binaryOp .Mult) rMulS := by
  intro pins s σ H x y v u Q I rx ry h
  obtain ⟨a, k, rfl, rfl, ok, q⟩ := h
  obtain ⟨t, rfl⟩ := rx
  obtain ⟨t', rfl⟩ := ry
  exact SB.mul ok fun t' tk => ⟨.str (Txt.mul a k), H, I.tok _, ⟨_, rfl⟩, q⟩
end

/-! own == -/
def rOwnEq (C : Addr) (sp : Sp) (E : XK) : R2 := fun x y H Q => ∃ a b dx dy fs gs, x = .ref a ∧ y = .ref b ∧ H a = some (.ins C dx fs) ∧ H b = some (.ins C dy gs) ∧ sp [x, y] H (fun v H' => ∃ r : Bool, v = .bl r ∧ Q v H') E
structure OwnEq (K : PySem.W.Frag) (C f : Addr) : Prop where
  hs : PySem.W.findIn K (.ref C) "__eq__" = some (some (.ref f))
  hf : PySem.W.isFn K (.ref f) = true
theorem op_eqOwn {X : Cx} {n : Nat} {CX : CXT} {C f : Addr} {fd : FuncData} {ps : List Str} {sp : Sp} {E : XK} (F : FnOk X.prog X.w X.K X.mg X.base CX n f fd ps sp) (hr : Room n X.A)
    (o : OwnEq X.K C f) (hb : Binds X.K fd ps []) (hx : Passes CX X E) : OpR X (compareOp .Eq) (rOwnEq C sp E) := by
  intro pins s σ H x y v u Q I rx ry d
  show wpAny (model X.prog X.w) X.A (richCompare .Eq v u) (EP X pins σ Q) X.xe s
  obtain ⟨a, b, dx, dy, fs, gs, rfl, rfl, ha, hb', hsp⟩ := d
  cases rx
  cases ry
  obtain ⟨mA, J, _⟩ := ins_get I.hok ha
  obtain ⟨mB, J', _⟩ := ins_get I.hok hb'
  obtain ⟨od, J, _⟩ := J.look
  obtain ⟨od', J', _⟩ := J'.look
  obtain ⟨m, hF⟩ := I.fr
  refine PySem.W.cmp_K (op := .Eq) (tb := .ref C) hr.units0 hF I.ok.mod.kin J J'.type (by simp [PySem.W.notFirst]) o.hs o.hf ?_
  have hl := F.len _ _ _ _ hsp
  have r2 : Vals [V.ref a, V.ref b] [Value.ref a, Value.ref b] := .cons rfl (.cons rfl .nil)
  refine wpAny_call (codeAny_mono (F.run X.A X.stack s H ⟨[.ref a, .ref b], []⟩ [.ref a, .ref b] [.ref a, .ref b] _ E hr I.env0 (by
    have := hb s [.ref a, .ref b] I.kIn (by simpa using hl)
    simpa using this) r2 hsp) fun r s' hq => ?_)
  cases r with
  | error e => exact hx pins σ H s e s' I hq
  | ok fl =>
    cases fl with
    | ret w =>
      obtain ⟨z, H', I', rz, ⟨r, ez, q⟩⟩ := I.after hq
      subst ez
      cases (show w = Value.bool r from rz)
      exact ⟨.bl r, H', I', rfl, q⟩
    | next => exact False.elim hq
    | brk => exact False.elim hq
    | cont => exact False.elim hq
section
variable {K : PySem.W.Frag} {ms ps : List Addr} {cs : List (Addr × List V)} {H H0 H1 : Hp} {d : D} {u x y : V}
theorem rep_ins {C : Addr} {ns : List Str} {ds : List D} (h : rep ms H (.ins C ns ds) u) : ∃ p dx fs, u = .ref p ∧ H p = some (.ins C dx fs) := by
  simp only [rep] at h
  obtain ⟨p, dx, vs, e, _, hp, _⟩ := h
  exact ⟨p, dx, _, e, hp⟩
theorem rep_eqOwn {C : Addr} {ns ns' : List Str} {ds ds' : List D} {sp : Sp} {E : XK} {Q : VK} (h1 : rep ms H (.ins C ns ds) x) (h2 : rep ms H (.ins C ns' ds') y) (k : sp [x, y] H (fun v H' => ∃ r : Bool, v = .bl r ∧ Q v H') E) : rOwnEq C sp E x y H Q := by
  obtain ⟨p, dx, fs, e, hp⟩ := rep_ins h1
  obtain ⟨q, dy, gs, e', hq⟩ := rep_ins h2
  subst e e'
  exact ⟨p, q, dx, dy, fs, gs, rfl, rfl, hp, hq, k⟩
/-! list + list -/
theorem rep_cat {α : Type} {xs ys : List α} {e : α → D} {Q : VK} (w : Wd ms ps cs H0 H) (h1 : rep ms H (.lst (xs.map e)) x) (h2 : rep ms H (.lst (ys.map e)) y) (hz : xs.length + ys.length ≤ sizeLine)
    (k : ∀ p H', Ret [] H H' → rep ms H' (.lst ((xs ++ ys).map e)) (.ref p) → Q (.ref p) H') : rCat x y H Q := by
  simp only [rep] at h1 h2
  obtain ⟨p, vs, rfl, np, hp, r1⟩ := h1
  obtain ⟨q, us, rfl, nq, hq, r2⟩ := h2
  have l1 := repL_len r1
  have l2 := repL_len r2
  rw [List.length_map] at l1 l2
  refine ⟨p, q, vs, us, rfl, rfl, hp, hq, by rw [← l1, ← l2]; exact hz, fun a na => ?_⟩
  have ee : Ret [] H (upd H a (.lst (vs ++ us))) := Ext.new na
  refine k a _ ee ?_
  simp only [rep]
  refine ⟨a, vs ++ us, rfl, fun z => w.tr a z na, upd_same, ?_⟩
  rw [List.map_append]
  exact repL_app (repL_ext ee r1) (repL_ext ee r2)
/-! isinstance(x, C), x of the class C -/
structure IsC (K : PySem.W.Frag) (C : Addr) : Prop where
  cl : Cls K C
  ha : PySem.W.findIn K (.ref C) "__class__" = some (some (.builtin "object.__class__"))
  hn : PySem.W.specialIn K (.builtin "object.__class__") "__get__" = some (some (.builtin "getset_descriptor.__get__"))
  tk : PySem.W.takesIn K (.builtin "object.__class__") = some true
  hm : PySem.W.mroIn K C (.type "object") = some true
theorem rep_isi {C : Addr} {ns : List Str} {ds : List D} {P : Bool → Prop} (h : rep ms H (.ins C ns ds) x) (c : IsC K C) (k : P true) :
    ∃ (x' c : V) (t u : Value) (b : Bool), [x, .ref C] = [x', c] ∧ ClsV c u ∧ TyX K H x' t ∧ PySem.W.kitOne K t u = some b ∧ P b := by
  obtain ⟨p, dx, fs, e, hp⟩ := rep_ins h
  subst e
  refine ⟨_, _, _, _, true, rfl, .own C, .base (.ins hp c.cl c.ha c.hn c.tk c.hm), ?_, k⟩
  simp [PySem.W.kitOne]
/-! list.count of texts -/
def rCntS (K : PySem.W.Frag) : V → List V → Hp → VK → Prop := fun x xs H Q => ∃ (p : Addr) (ns : List Str) (k : Str), x = .ref p ∧ xs = [.str k] ∧ SqL K H p (ns.map V.str) ∧ Q (.int (ns.count k : Nat)) H
def eqs (k : Str) (v : Value) : Bool := match v with
  | .str n _ => n == k
  | _ => false
theorem eqs_at {A : Around} {s : Shared} {k : Str} {t : Tok} : ∀ {ns : List Str} {us : List Value}, Vals (ns.map V.str) us → ∀ y ∈ us, SeqAt.EqAt A s y (.str k t) (eqs k y)
  | [], _, .nil => fun y hy => by cases hy
  | n :: ns, _, .cons r h => fun y hy => by
    rcases List.mem_cons.mp hy with e | e
    · subst e
      obtain ⟨t', rfl⟩ := r
      exact SeqAt.EqAt.str_str n t' k t
    · exact eqs_at h y e
theorem eqs_count {k : Str} : ∀ {ns : List Str} {us : List Value}, Vals (ns.map V.str) us → us.countP (eqs k) = ns.count k
  | [], _, .nil => rfl
  | n :: ns, _, .cons r h => by
    have ih := eqs_count (k := k) h
    obtain ⟨t', rfl⟩ := r
    rw [List.countP_cons, List.count_cons, ih] <;> rfl
theorem mt_lcountS {X : Cx} : MtR X "list.count" (rCntS X.K) := by
  intro pins s σ H x xs v us Q I rx rxs h
  obtain ⟨p, ns, k, rfl, rfl, hs, q⟩ := h
  cases rx
  obtain ⟨u, rfl, ru⟩ := rxs.one
  obtain ⟨t, rfl⟩ := ru
  obtain ⟨its, rv, ⟨⟨cls, dd, data, sl⟩, n, ho, hc, hdn, hd⟩, hlen⟩ := I.list hs
  simp only at hc hd
  subst hc hd
  refine call_meets PySem.F.slot_list_count ⟨_, ho, rfl⟩ PySem.F.entry_list_count (PySem.F.args_list_count_2 _ _)
    (SeqAt.list_countAt p its.toArray n dd sl (.str k t) (eqs k)) ⟨ho, fun y hy => eqs_at rv y (by simpa using hy), ?_⟩
  have ec : its.toArray.toList.countP (eqs k) = ns.count k := eqs_count rv
  refine ⟨.int (ns.count k : Nat), H, I.tok _, ⟨s.toks, ?_⟩, q⟩
  show Value.int ((its.toArray.toList.countP (eqs k) : Nat) : Int) s.toks = Value.int ((ns.count k : Nat) : Int) s.toks
  rw [ec]
theorem rep_lcountS {ns : List Str} {k : Str} {P : List Str → Str → Prop} (h : rep ms H (.lst (ns.map fun n => D.v (.str n))) x) (q : P ns k) :
    ∃ (p : Addr) (ns : List Str) (k' : Str), x = .ref p ∧ [V.str k] = [.str k'] ∧ SqL K H p (ns.map V.str) ∧ P ns k' := by
  simp only [rep] at h
  obtain ⟨p, vs, e, _, hp, hr⟩ := h
  have ev := repL_strs hr
  subst ev e
  exact ⟨p, ns, k, rfl, rfl, .inl (.inl hp), q⟩
/-! written dicts of texts -/
theorem kd_nil {w : World} {a : Addr} : ∀ z c : Str, ([] : List (Str × Str)).lookup z = some c → KDct K w a z (.str c) := fun _ _ h => by cases h
theorem kd_cons {w : World} {a : Addr} {k v : Str} {l : List (Str × Str)} (h : KDct K w a k (.str v)) (t : ∀ z c : Str, l.lookup z = some c → KDct K w a z (.str c)) : ∀ z c : Str, ((k, v) :: l).lookup z = some c → KDct K w a z (.str c) := by
  intro z c e
  rw [List.lookup_cons] at e
  by_cases q : (z == k) = true
  · rw [q] at e
    have e1 : v = c := Option.some.inj e
    subst e1
    rw [eq_of_beq q]
    exact h
  · have q' : (z == k) = false := by simpa using q
    rw [q'] at e
    exact t z c e
theorem rep_ixD {w : World} {a : Addr} {l : List (Str × Str)} {z c : Str} {Q : VK} (t : ∀ z c : Str, l.lookup z = some c → KDct K w a z (.str c)) (h : l.lookup z = some c) (q : Q (.str c) H) : rIxD K w (.ref a) (.str z) H Q :=
  ⟨a, z, .str c, rfl, rfl, t z c h, q⟩
theorem ix_kdictW {X : Cx} {w : World} (hK : X.K = K) (hw : X.w = w) : IxR X (rIxD K w) := by
  subst hK hw
  exact ix_kdict
theorem rep_tyL {ds : List D} (h : rep ms H (.lst ds) x) : tyV K "list" x H := by
  simp only [rep] at h
  obtain ⟨p, vs, e, _, hp, hr⟩ := h
  subst e
  exact .inl ⟨rfl, vs, .inl (.inl hp)⟩
end
/-! the signs of a text -/
def signs (x : Str) : List Str := x.cps.toList.map fun c => ⟨#[c]⟩
theorem signs_len {x : Str} : (signs x).length = x.cps.size := by simp [signs]
theorem signs_get {x : Str} {i : Nat} {c : Nat} (h : x.cps[i]? = some c) : (signs x)[i]? = some ⟨#[c]⟩ := by
  simp only [signs, List.getElem?_map, Array.getElem?_toList, h]
  rfl
section
variable {β : Type} {K : PySem.W.Frag} {ms ps : List Addr} {cs : List (Addr × List V)} {H0 H1 : Hp} {g : TG} {tt : TT} {te : TE} {vl : List Nat} {σ : L2.St} {Qd : Hp → Prop}
/-- [e for x in text] -/
theorem lc_strC {z : Str} {L : Addr} {eb : β → D} {body : Str → (β → Prop) → Prop} {KM : List β → Prop} (w : Wd ms ps cs H0 H1) (nl : H1 L = none) (hM : (signs z).length < 100000 ∧ mapC body (signs z) [] KM)
    (hs : ∀ (x : Str) (n : Nat) (ys : List β) (vs : List V) (k : β → Prop) (H : Hp), n < 100000 → Trn ms ps cs H0 H1 L eb n ys vs H → body x k → ∀ Nx : Hp → Prop, (∀ y vs' H', k y → Trn ms ps cs H0 H1 L eb (n + 1) (ys ++ [y]) vs' H' → Nx H') →
      g (.str x) (wipe σ vl) H fun σ2 H2 => wipe σ2 vl = wipe σ vl ∧ tt σ2 H2 fun b H3 => if b = true then te σ2 H3 fun y H4 => ∃ acc, H4 L = some (.lst acc) ∧ acc.length < sizeLine ∧ Nx (upd H4 L (.lst (acc ++ [y]))) else Nx H3)
    (hd : ∀ ys H, KM ys → Wd ms ps cs H0 H → Keep ms H1 H → rep ms H (.lst (ys.map eb)) (.ref L) → Qd H) :
    ∃ W : Nat → Nat → Hp → Prop, (∃ m, W 0 m (upd H1 L (.lst []))) ∧ ∀ i m H, W i m H →
      ((Its z).stop i H ∧ Qd H) ∨ ((Its z).go i H ∧ ∃ Nx : Hp → Prop, (∀ H', Nx H' → ∃ m', m' < m ∧ W (i + 1) m' H') ∧ ∀ x H', (Its z).yld i H x H' → g x (wipe σ vl) H' fun σ2 H2 => wipe σ2 vl = wipe σ vl ∧ tt σ2 H2 fun b H3 =>
        if b = true then te σ2 H3 fun y H4 => ∃ acc, H4 L = some (.lst acc) ∧ acc.length < sizeLine ∧ Nx (upd H4 L (.lst (acc ++ [y]))) else Nx H3) := by
  obtain ⟨hn, hM⟩ := hM
  rw [signs_len] at hn
  refine ⟨fun i m H => m = z.cps.size - i ∧ i ≤ z.cps.size ∧ ∃ ys vs, Trn ms ps cs H0 H1 L eb i ys vs H ∧ mapC body ((signs z).drop i) ys KM, ⟨_, rfl, Nat.zero_le _, [], [], Trn.start w nl, hM⟩, ?_⟩
  rintro i m H ⟨rfl, hi', ys, vs, T, q⟩
  by_cases hlt : i < z.cps.size
  · refine .inr ⟨hlt, fun H' => i + 1 ≤ z.cps.size ∧ ∃ ys vs, Trn ms ps cs H0 H1 L eb (i + 1) ys vs H' ∧ mapC body ((signs z).drop (i + 1)) ys KM, fun H' p' => ⟨_, by omega, rfl, p'⟩, fun x H' y => ?_⟩
    obtain ⟨e, c, hc, y⟩ := y
    subst e y
    rw [drop_cons' (signs_get hc)] at q
    exact hs _ i ys vs _ H' (by omega) T q _ fun y vs' H' k T' => ⟨hlt, _, _, T', k⟩
  · have e : i = z.cps.size := by omega
    refine .inl ⟨by rw [e]; exact Nat.le_refl _, ?_⟩
    have q' : KM ys := by
      rw [List.drop_of_length_le (by rw [signs_len]; omega)] at q
      exact q
    obtain ⟨w', k', r'⟩ := T.done w nl
    exact hd ys H q' w' k' r'
end
/-! != by the text's own == -/
section
variable {M : Model} {prog : Program} {w : World} {A : Around} {E : Value → Shared → Prop} {s : Shared} {K : PySem.W.Frag} {x y C : Addr} {ox : Obj} {od : Option Obj}
theorem entry_objNe {Q : Fin → Shared → Prop} (hu : A.units < cLine) (hcall : wpAny M A (callSpecialIfBound? (.ref x) (Str.ofString "__eq__") [.ref y]) (fun r s' => ∃ b, r = some (.bool b) ∧ Q (.done (.ret (.bool (!b)))) s') E s) :
    wpAny M A (Builtin.«object.__ne__» ⟨[.ref x, .ref y], []⟩) Q E s := by
  unfold Builtin.«object.__ne__»
  repeat (first
    | with_reducible refine wpAny_cRoomFor hu ?_
    | (refine wpAny_bind (m := callSpecialIfBound? (.ref x) (Str.ofString "__eq__") [.ref y])
        (wpAny_mono hcall (fun r s' hr => by
          obtain ⟨b, rfl, hq⟩ := hr
          repeat (first | exact hq | exact wpAny_pure hq | exact wpAny_truthy_bool hq | (refine wpAny_bind (m := truthy (.bool _)) (wpAny_truthy_bool ?_)) | wp_step)) fun _ _ e => e))
    | wp_step)
theorem call_objNe {Q : Value → Shared → Prop} (X : K.In s.heap) (I : PySem.W.InstAt s.heap x ox C od) (hm : PySem.W.mroIn K C (.type "object") = some true) (hu : A.in1.units < cLine)
    (hcall : wpAny (model prog w) A.in1 (callSpecialIfBound? (.ref x) (Str.ofString "__eq__") [.ref y]) (fun r s' => ∃ b, r = some (.bool b) ∧ Q (.bool (!b)) s') E s) :
    wpAny (model prog w) A (call (.builtin "object.__ne__") [.ref x, .ref y]) Q E s := by
  refine wpAny_call (codeAny_call_builtin F.cmp_object.ne.plain F.cmpEntry_ne (PySem.W.check_slot F.cmpKind_ne F.cmpSplit_ne (I.type.andThen (PySem.W.looks_mroIn X hm)) (F.cmpArgs_ne _ _) (entry_objNe hu (wpAny_mono hcall (fun r s' hr => ?_) fun _ _ e => e))))
  obtain ⟨b, rfl, hq⟩ := hr
  first | exact ⟨b, rfl, hq⟩ | exact ⟨b, rfl, wpAny_pure hq⟩
theorem ifBound_objNe {args : List Value} {Q : Option Value → Shared → Prop} (X : K.In s.heap) (I : PySem.W.InstAt s.heap x ox C od) (hs : PySem.W.findIn K (.ref C) "__ne__" = some (some (.builtin "object.__ne__")))
    (h : wpAny M A (call (.builtin "object.__ne__") (.ref x :: args)) (fun v => Q (some v)) E s) : wpAny M A (callSpecialIfBound? (.ref x) "__ne__" args) Q E s := by
  simp only [callSpecialIfBound?, bindSpecialIfBound?]
  refine wpAny_holding (wpAny_bind (wpAny_bind (wpAny_bind (I.type.here ((PySem.W.looks_findIn X hs).here ?_)))))
  refine wpAny_bind (wpAny_askSetting (wpAny_ite ?_))
  have fin : wpAny M A (call (.builtin "object.__ne__") ([.ref x] ++ args) >>= fun v => pure (some v)) Q E s := wpAny_bind (wpAny_mono h (fun v s' h' => wpAny_pure h') fun _ _ h' => h')
  split
  · exact wpAny_bind (wpAny_of_eq (F.cmp_object.ne.bind _) (wpAny_pure (by exact fin)))
  · exact wpAny_tryCatch (wpAny_bind (wpAny_of_eq (F.cmp_object.ne.bind _) (wpAny_pure (by exact fin))))
end
structure OwnNe (K : PySem.W.Frag) (C : Addr) : Prop where
  hne : PySem.W.findIn K (.ref C) "__ne__" = some (some (.builtin "object.__ne__"))
  hm : PySem.W.mroIn K C (.type "object") = some true
def rOwnNe (C : Addr) (sp : Sp) (E : XK) : R2 := fun x y H Q => ∃ a b dx dy fs gs, x = .ref a ∧ y = .ref b ∧ H a = some (.ins C dx fs) ∧ H b = some (.ins C dy gs) ∧ sp [x, y] H (fun v H' => ∃ r : Bool, v = .bl r ∧ Q (.bl (!r)) H') E
theorem op_neOwn {X : Cx} {n : Nat} {CX : CXT} {C f : Addr} {fd : FuncData} {ps : List Str} {sp : Sp} {E : XK} (F : FnOk X.prog X.w X.K X.mg X.base CX n f fd ps sp) (hr : Room (n + 1) X.A)
    (o : OwnEq X.K C f) (o' : OwnNe X.K C) (hb : Binds X.K fd ps []) (hx : Passes CX X E) : OpR X (compareOp .NotEq) (rOwnNe C sp E) := by
  intro pins s σ H x y v u Q I rx ry d
  show wpAny (model X.prog X.w) X.A (richCompare .NotEq v u) (EP X pins σ Q) X.xe s
  obtain ⟨a, b, dx, dy, fs, gs, rfl, rfl, ha, hb', hsp⟩ := d
  cases rx
  cases ry
  obtain ⟨mA, J, _⟩ := ins_get I.hok ha
  obtain ⟨mB, J', _⟩ := ins_get I.hok hb'
  obtain ⟨od, J, _⟩ := J.look
  obtain ⟨od', J', _⟩ := J'.look
  have hl := F.len _ _ _ _ hsp
  have r2 : Vals [V.ref a, V.ref b] [Value.ref a, Value.ref b] := .cons rfl (.cons rfl .nil)
  have one : wpAny (model X.prog X.w) X.A (tryCompare (.ref a) (cmpInfo .NotEq).2.1 (.ref b)) (fun r s' => ∃ v, r = some v ∧ EP X pins σ Q v s') X.xe s := by
    unfold tryCompare
    refine wpAny_bind (ifBound_objNe I.kIn J o'.hne (call_objNe I.kIn J o'.hm hr.in1.units0 (PySem.W.ifBound_K I.kIn J o.hs o.hf ?_)))
    refine wpAny_call (codeAny_mono (F.run X.A.in1 X.stack s H ⟨[.ref a, .ref b], []⟩ [.ref a, .ref b] [.ref a, .ref b] _ E hr.in1 I.env0.in1 (by
      have := hb s [.ref a, .ref b] I.kIn (by simpa using hl)
      simpa using this) r2 hsp) fun r s' hq => ?_)
    cases r with
    | error e => exact hx pins σ H s e s' I hq
    | ok fl =>
      cases fl with
      | ret w =>
        obtain ⟨z, H', I', rz, ⟨r, ez, q⟩⟩ := I.after hq
        subst ez
        cases (show w = Value.bool r from rz)
        exact ⟨r, rfl, wpAny_pure ⟨_, rfl, .bl (!r), H', I', rfl, q⟩⟩
      | next => exact False.elim hq
      | brk => exact False.elim hq
      | cont => exact False.elim hq
  unfold richCompare
  simp only [oneThing_ref]
  refine wpAny_holding (wpAny_bind (wpAny_cRoomFor hr.units0 ?_))
  refine wpAny_bind (J.type.here (wpAny_bind (J'.type.here ?_)))
  rw [show (Value.ref C != Value.ref C) = false from by simp]
  refine wpAny_bind (wpAny_pure ?_)
  simp only [Bool.false_eq_true, if_false]
  refine wpAny_bind (wpAny_mono one (fun r s' z => ?_) fun _ _ e => e)
  obtain ⟨v, rfl, hq⟩ := z
  exact wpAny_pure hq
theorem rep_neOwn {ms : List Addr} {H : Hp} {x y : V} {C : Addr} {ns ns' : List Str} {ds ds' : List D} {sp : Sp} {E : XK} {Q : VK} (h1 : rep ms H (.ins C ns ds) x) (h2 : rep ms H (.ins C ns' ds') y) (k : sp [x, y] H (fun v H' => ∃ r : Bool, v = .bl r ∧ Q (.bl (!r)) H') E) : rOwnNe C sp E x y H Q := by
  obtain ⟨p, dx, fs, e, hp⟩ := rep_ins h1
  obtain ⟨q, dy, gs, e', hq⟩ := rep_ins h2
  subst e e'
  exact ⟨p, q, dx, dy, fs, gs, rfl, rfl, hp, hq, k⟩
/-! a local list that grows -/
mutual
def noL : D → Bool
  | .v _ => true
  | .lst _ => false
  | .tup ds => noLs ds
  | .ins _ _ ds => noLs ds
  | .dct _ ds => noLs ds
  | .dcT _ ds => noLs ds
def noLs : List D → Bool
  | [] => true
  | d :: ds => noL d && noLs ds
end
section
variable {ms ps : List Addr} {cs : List (Addr × List V)} {H0 H H' : Hp} {L : Addr} {vs : List V}
mutual
theorem rep_lift0 (hL : H L = some (.lst vs)) : ∀ (d : D) (u : V), noL d = true → rep ms H d u → rep (L :: ms) H d u
  | .v x, u, _, h => by
    simp only [rep] at h ⊢
    exact h
  | .lst ds, u, n, h => by
    simp only [noL] at n
    cases n
  | .tup ds, u, n, h => by
    simp only [noL] at n
    simp only [rep] at h ⊢
    obtain ⟨p, us, e, np, hp, hl⟩ := h
    refine ⟨p, us, e, fun z => ?_, hp, repL_lift0 hL ds us n hl⟩
    rcases List.mem_cons.mp z with z | z
    · rw [z, hL] at hp
      cases hp
    · exact np z
  | .ins C ns ds, u, n, h => by
    simp only [noL] at n
    simp only [rep] at h ⊢
    obtain ⟨p, dx, us, e, np, hp, hn, hl⟩ := h
    refine ⟨p, dx, us, e, fun z => ?_, hp, hn, repL_lift0 hL ds us n hl⟩
    rcases List.mem_cons.mp z with z | z
    · rw [z, hL] at hp
      cases hp
    · exact np z
  | .dct ks ds, u, n, h => by
    simp only [noL] at n
    simp only [rep] at h ⊢
    obtain ⟨p, us, e, np, hp, hn, hl⟩ := h
    refine ⟨p, us, e, fun z => ?_, hp, hn, repL_lift0 hL ds us n hl⟩
    rcases List.mem_cons.mp z with z | z
    · rw [z, hL] at hp
      cases hp
    · exact np z
  | .dcT ks ds, u, n, h => by
    simp only [noL] at n
    simp only [rep] at h ⊢
    obtain ⟨p, us, e, np, hp, hn, hl⟩ := h
    refine ⟨p, us, e, fun z => ?_, hp, hn, repL_lift0 hL ds us n hl⟩
    rcases List.mem_cons.mp z with z | z
    · rw [z, hL] at hp
      cases hp
    · exact np z
theorem repL_lift0 (hL : H L = some (.lst vs)) : ∀ (ds : List D) (us : List V), noLs ds = true → repL ms H ds us → repL (L :: ms) H ds us
  | [], us, _, h => by
    simp only [repL] at h ⊢
    exact h
  | d :: ds, us, n, h => by
    simp only [noLs, Bool.and_eq_true] at n
    simp only [repL] at h ⊢
    obtain ⟨u, ws, e, h1, h2⟩ := h
    exact ⟨u, ws, e, rep_lift0 hL d u n.1 h1, repL_lift0 hL ds ws n.2 h2⟩
end
structure Mut (ms ps : List Addr) (cs : List (Addr × List V)) (H0 H : Hp) (L : Addr) (ds : List D) : Prop where
  hp : L ∉ ps
  h0 : H0 L = none
  hc : ∀ c ∈ cs, c.1 ≠ L
  nm : L ∉ ms
  val : ∃ vs, H L = some (.lst vs) ∧ repL (L :: ms) H ds vs
variable {ds : List D} {d : D} {u : V}
theorem mut_new (w : Wd ms ps cs H0 H) (nl : H L = none) (r : repL ms H ds vs) : Wd (L :: ms) ps cs H0 (upd H L (.lst vs)) ∧ Mut ms ps cs H0 (upd H L (.lst vs)) L ds := by
  have wc := Wd.cell (xs := vs) w nl
  have nL : L ∉ ms := fun z => w.tr L z nl
  refine ⟨⟨wc.kp, wc.grow, wc.tr, wc.pot, wc.pm, fun c h => wc.cel c (List.mem_cons_of_mem _ h)⟩, (wc.cel _ List.mem_cons_self).2.2.1, (wc.cel _ List.mem_cons_self).2.2.2, new_ne w nl, nL, vs, upd_same, ?_⟩
  exact repL_map (fun p o n hp => ⟨fun z => by
    rcases List.mem_cons.mp z with z | z
    · exact ne_of_none hp nl z
    · exact n z, by rw [upd_ne (ne_of_none hp nl)]; exact hp⟩) _ _ r
theorem mut_ret (w : Wd (L :: ms) ps cs H0 H) (e : Ret ps H H') (m : Mut ms ps cs H0 H L ds) : Mut ms ps cs H0 H' L ds := by
  obtain ⟨vs, h1, h2⟩ := m.val
  exact ⟨m.hp, m.h0, m.hc, m.nm, vs, e.kp L _ m.hp h1, repL_ret w e h2⟩
theorem mut_ext (e : Ret [] H H') (m : Mut ms ps cs H0 H L ds) : Mut ms ps cs H0 H' L ds := by
  obtain ⟨vs, h1, h2⟩ := m.val
  exact ⟨m.hp, m.h0, m.hc, m.nm, vs, e.kp L _ (by simp) h1, repL_ext e h2⟩
theorem mut_drop (m : Mut ms ps cs H0 H L ds) (w : Wd (L :: ms) ps cs H0 H) : Wd ms ps cs H0 H := by
  refine ⟨w.kp, w.grow, fun a h => w.tr a (List.mem_cons_of_mem _ h), w.pot, fun a h => ?_, fun c h => ?_⟩
  · rcases List.mem_cons.mp (w.pm a h) with z | z
    · rw [z] at h
      exact absurd h m.hp
    · exact z
  · obtain ⟨h1, h2, h3, h4⟩ := w.cel c h
    refine ⟨h1, ?_, h3, h4⟩
    rcases List.mem_cons.mp h2 with z | z
    · exact absurd z (m.hc c h)
    · exact z
theorem mut_rep (m : Mut ms ps cs H0 H L ds) : rep ms H (.lst ds) (.ref L) := by
  obtain ⟨vs, h1, h2⟩ := m.val
  simp only [rep]
  exact ⟨L, vs, rfl, m.nm, h1, repL_weak h2⟩
theorem rep_lift (m : Mut ms ps cs H0 H L ds) (n : noL d = true) (h : rep ms H d u) : rep (L :: ms) H d u := by
  obtain ⟨vs, h1, _⟩ := m.val
  exact rep_lift0 h1 d u n h
theorem mut_app {P : Addr → List V → V → Prop} (m : Mut ms ps cs H0 H L ds) (hl : ds.length < 16777216) (k : ∀ vs, H L = some (.lst vs) → repL (L :: ms) H ds vs → P L vs u) :
    ∃ (l : Addr) (xs : List V) (y : V), V.ref L = .ref l ∧ [u] = [y] ∧ H l = some (.lst xs) ∧ xs.length < sizeLine ∧ P l xs y := by
  obtain ⟨vs, h1, h2⟩ := m.val
  refine ⟨L, vs, u, rfl, rfl, h1, ?_, k vs h1 h2⟩
  rw [← repL_len h2, sizeLine_eq]
  exact hl
theorem mut_upd (w : Wd (L :: ms) ps cs H0 H) (m : Mut ms ps cs H0 H L ds) (hv : H L = some (.lst vs)) (h2 : repL (L :: ms) H ds vs) (r : rep (L :: ms) H d u) :
    Wd (L :: ms) ps cs H0 (upd H L (.lst (vs ++ [u]))) ∧ Mut ms ps cs H0 (upd H L (.lst (vs ++ [u]))) L (ds ++ [d]) ∧ (∀ d' u', rep (L :: ms) H d' u' → rep (L :: ms) (upd H L (.lst (vs ++ [u]))) d' u') ∧ True := by
  refine ⟨⟨fun a o n h => ?_, fun a h => ?_, fun a h => ?_, fun a h => ?_, w.pm, fun c h => ?_⟩, ⟨m.hp, m.h0, m.hc, m.nm, _, upd_same, ?_⟩, fun d u' h => ?_, trivial⟩
  · rw [upd_ne (ne_of_none h m.h0)]
    exact w.kp a o n h
  · by_cases e : a = L
    · rw [e, upd_same]
      exact fun z => nomatch z
    · rw [upd_ne e]
      exact w.grow a h
  · by_cases e : a = L
    · rw [e, upd_same]
      exact fun z => nomatch z
    · rw [upd_ne e]
      exact w.tr a h
  · obtain ⟨i, j, h1, h3⟩ := w.pot a h
    exact ⟨i, j, by rw [upd_ne (fun z => m.hp (by rw [← z]; exact h))]; exact h1, h3⟩
  · obtain ⟨h1, h3, h4, h5⟩ := w.cel c h
    exact ⟨by rw [upd_ne (m.hc c h)]; exact h1, h3, h4, h5⟩
  · exact repL_put List.mem_cons_self (repL_app h2 (repL_one r))
  · exact rep_put List.mem_cons_self h
end
section
variable {ms ps : List Addr} {cs : List (Addr × List V)} {H0 H H1 H' : Hp} {L : Addr} {K : PySem.W.Frag} {x : V}
theorem keep_none {w : Wd ms ps cs H0 H} (nl : H L = none) (k : Keep ms H1 H) : H1 L = none := by
  have nL : L ∉ ms := fun z => w.tr L z nl
  cases q : H1 L with
  | none => rfl
  | some o =>
    have := k L o nL q
    rw [nl] at this
    cases this
theorem keep_frz (n : H1 L = none) (k : Keep (L :: ms) H1 H) : Keep ms H1 H := fun a o na h => k a o (fun z => by
  rcases List.mem_cons.mp z with z | z
  · rw [z, n] at h
    cases h
  · exact na z) h
theorem rep_ixN {α : Type} {e : α → D} {xs : List α} {i : Int} {y : α} {Q : VK} (h : rep ms H (.lst (xs.map e)) x) (hi : atI xs i = some y) (k : ∀ v, rep ms H (e y) v → Q v H) : rIxL K x (.int i) H Q := by
  simp only [rep] at h
  obtain ⟨p, vs, e', _, hp, hr⟩ := h
  have hl := repL_len hr
  rw [List.length_map] at hl
  unfold atI at hi
  cases hx : ixN xs.length i with
  | none =>
    rw [hx] at hi
    cases hi
  | some j =>
    rw [hx] at hi
    have hj : xs[j]? = some y := hi
    obtain ⟨v, hv, rv⟩ := repL_get (d := e y) (j := j) hr (by rw [List.getElem?_map, hj]; rfl)
    refine ⟨p, vs, i, v, e', rfl, .inl (.inl hp), ?_, k v rv⟩
    unfold atI
    rw [← hl, hx]
    exact hv
theorem rep_rg_mk {p : Addr} {a b : Int} (w : Wd ms ps cs H0 H) (np : H p = none) (e : Ret [] H H') (hp : H' p = some (.lst (rgV a b))) : rep ms H' (.lst ((rangeI a b).map fun n => D.v (.int n))) (.ref p) := by
  simp only [rep]
  refine ⟨p, rgV a b, rfl, fun z => w.tr p z np, hp, ?_⟩
  have e1 : (rangeI a b).map (fun n => D.v (.int n)) = (rgV a b).map D.v := by
    unfold rangeI rgV
    rw [List.map_map, List.map_map]
    rfl
  rw [e1]
  exact repL_flat.mpr rfl
end
/-! ranges of any size -/
theorem turn_long {P : Program} {w : World} {K : PySem.W.Frag} {tg : Expr} (it : Addr) (lo : Int) (n : Nat) : Turn P w K tg (Itr lo n) [it] it (fun i h => IsLongIter h it (lo + (i : Nat) * 1) ((n : Int) - (i : Nat)) 1) where
  mem := by simp
  obj := fun i h st b hb => by
    have e : b = it := by simpa using hb
    subst e
    exact ⟨_, st, fun v z => by
      have z' : Data.fields _ = Data.cell v := z
      cases z'⟩
  keep := fun i h h' st k => k it (by simp) _ st
  item := by
    intro X hP hw hK hc i pins s σ H E I hf st hg
    subst hP hw hK
    obtain ⟨f0, f1, f2, f3, f4, f5⟩ := hf it (by simp)
    have W := Walks.longrange (prog := X.prog) (w := X.w) (I.ok.hd hc) it lo 1 n
    refine W.item i s _ _ hg st fun v h' tk hv st' kk => ?_
    obtain ⟨t, rfl⟩ := hv
    have I1 : Inv X pins σ H { s with heap := h', toks := tk } := I.turned (fun b o hb e => kk b o (by simpa using hb) e) f0 f1 f3 f4 f5
    refine ⟨_, rfl, go_of (s := { s with heap := h', toks := tk }) (n := "longrange_iterator") st' rfl rfl (by decide) ⟨.int (lo + i), H, I1, ⟨t, ?_⟩, ⟨rfl, rfl⟩, st', fun b hb => (hf b hb).1⟩⟩
    rw [Int.mul_one]
  done := by
    intro X hP hw hK hc i pins s σ H E I hf st hg
    subst hP hw hK
    obtain ⟨f0, f1, f2, f3, f4, f5⟩ := hf it (by simp)
    exact wpAny_pyNext_long_end (I.ok.hd hc) st (by have : n ≤ i := hg; omega) fun h' eb => ⟨rfl, I.turned (t' := s.toks) (fun b o hb e => eb b o hb e) f0 f1 f3 f4 f5⟩
  self := fun _ _ _ _ _ st h => wpAny_pyIter_longiter st h
section
variable {X : Cx} {tg : Expr}
theorem range_itW {pins : List (Addr × Obj)} {σ : L2.St} {H : Hp} {s : Shared} {R : It → Hp → Prop} {E : Value → Shared → Prop} {lo hi : Int} {t u v : Tok} {tk : Nat} (I : Inv X pins σ H s)
    (q : R (Itr lo (hi - lo).toNat) H) : wpAny (model X.prog X.w) X.A (pyIter (.ref s.heap.objs.size)) (PIE X pins σ tg R) E { s with heap := s.heap.push { cls := .type "range", data := .fields #[.int lo t, .int hi u, .int 1 v] }, toks := tk } := by
  have I1 : Inv X pins σ H { s with heap := s.heap.push { cls := .type "range", data := .fields #[.int lo t, .int hi u, .int 1 v] }, toks := tk } := I.kept fun b o e => Heap.get?_push_of_some _ e
  have e1 : lo + ((0 : Nat) : Int) * 1 = lo := by simp
  have e2 : (((hi - lo).toNat : Nat) : Int) - ((0 : Nat) : Int) = Builtin.Range.rangeSize lo hi 1 := by rw [rangeSize_one]; split <;> omega
  cases hs : Builtin.Range.small lo hi 1 with
  | true =>
    refine wpAny_pyIter_range (IsRange.new ..) hs ?_
    refine ⟨(s.heap.push { cls := .type "range", data := .fields #[.int lo t, .int hi u, .int 1 v] }).objs.size, [(s.heap.push { cls := .type "range", data := .fields #[.int lo t, .int hi u, .int 1 v] }).objs.size], _, _, H, rfl,
      I1.kept (t' := tk) fun b o e => Heap.get?_push_of_some _ e, turn_range _ lo (hi - lo).toNat, ?_, fun b hb => ?_, q⟩
    · show IsRangeIter _ _ (lo + ((0 : Nat) : Int) * 1) ((((hi - lo).toNat : Nat) : Int) - ((0 : Nat) : Int)) 1
      rw [e1, e2]
      exact Heap.get?_push_size _ rfl
    · have e : b = (s.heap.push { cls := .type "range", data := .fields #[.int lo t, .int hi u, .int 1 v] }).objs.size := by simpa using hb
      subst e
      exact I1.fpOk (Nat.le_refl _) (I1.hok.fresh (Nat.le_refl _))
  | false =>
    refine wpAny_pyIter_longrange (IsRange.new ..) hs ?_
    refine ⟨(s.heap.push { cls := .type "range", data := .fields #[.int lo t, .int hi u, .int 1 v] }).objs.size, [(s.heap.push { cls := .type "range", data := .fields #[.int lo t, .int hi u, .int 1 v] }).objs.size], _, _, H, rfl,
      I1.kept (t' := tk) fun b o e => Heap.get?_push_of_some _ e, turn_long _ lo (hi - lo).toNat, ?_, fun b hb => ?_, q⟩
    · show IsLongIter _ _ (lo + ((0 : Nat) : Int) * 1) ((((hi - lo).toNat : Nat) : Int) - ((0 : Nat) : Int)) 1
      rw [e1, e2]
      exact Heap.get?_push_size _ rfl
    · have e : b = (s.heap.push { cls := .type "range", data := .fields #[.int lo t, .int hi u, .int 1 v] }).objs.size := by simpa using hb
      subst e
      exact I1.fpOk (Nat.le_refl _) (I1.hok.fresh (Nat.le_refl _))
def iRngW1 (ta : TA) : TI := fun σ H R => ta σ H fun vs H1 => ∃ j : Int, vs = [.int j] ∧ R (Itr 0 j.toNat) H1
def iRngW2 (ta : TA) : TI := fun σ H R => ta σ H fun vs H1 => ∃ i j : Int, vs = [.int i, .int j] ∧ R (Itr i (j - i).toNat) H1
theorem pi_rangeW1 {a : Expr} {ta : TA} {p pos : Pos} (hg : Gl X "range") (hm : X.mg "range" = none) (ha : PA X [a] ta) (hs : starEach [a] X.env = [(false, eval a X.env)] := by rfl) : PI X tg (.Call (.Name "range" p) [a] [] pos) (iRngW1 ta) := by
  refine ⟨fun pins s σ H R I h => ?_⟩
  refine Call_ (ld_blt I hg hm boot_range (PyProof.Rows.callWith_type1 (thn (ha.run pos pins s σ H _ I h) fun us s1 ⟨vs, H1, I1, r1, q1⟩ => ?_) hs rfl))
  obtain ⟨j, e, q⟩ := q1
  subst e
  cases r1 with
  | cons r rr =>
    cases rr
    obtain ⟨t, rfl⟩ := r
    exact call_range_1 (range_itW I1 (by simpa using q))
theorem pi_rangeW2 {a b : Expr} {ta : TA} {p pos : Pos} (hg : Gl X "range") (hm : X.mg "range" = none) (ha : PA X [a, b] ta) (hs : starEach [a, b] X.env = [(false, eval a X.env), (false, eval b X.env)] := by rfl) (hs2 : starEach [b] X.env = [(false, eval b X.env)] := by rfl) :
    PI X tg (.Call (.Name "range" p) [a, b] [] pos) (iRngW2 ta) := by
  refine ⟨fun pins s σ H R I h => ?_⟩
  refine Call_ (ld_blt I hg hm boot_range (PyProof.Rows.callWith_type1 (thn (ha.run pos pins s σ H _ I h) fun us s1 ⟨vs, H1, I1, r1, q1⟩ => ?_) (by rw [hs, hs2]) (by rw [hs2]; rfl)))
  obtain ⟨i, j, e, q⟩ := q1
  subst e
  cases r1 with
  | cons r rr =>
    cases rr with
    | cons r' rr =>
      cases rr
      obtain ⟨t, rfl⟩ := r
      obtain ⟨t', rfl⟩ := r'
      exact call_range_2 (range_itW I1 q)
end
end Rx
namespace Rx
open PySem PySem.Spec PyProof.Rows L2
/-- a def's promise, asked only where no text is under way -/
structure FnG (P : Program) (w : World) (K : PySem.W.Frag) (mg : Str → Option Value) (base : Heap) (k : Nat) (f : Addr) (fd : FuncData) (ps : List Str) (sp : Sp) : Prop where
  len : ∀ vs H Q E, sp vs H Q E → vs.length = ps.length
  run : ∀ (A : Around), A.guards = some [] → Room k A → ∀ (outer : List Env) (s : Shared) (H : Hp) (args : Args) (us : List Value) (vs : List V) (Q : VK) (E : XK), Env0 P w K mg base A outer s H → BindsTo s fd args (ps.zip us) → Vals vs us → sp vs H Q E →
    codeAny (model P w) A (.call (.ref f) args) (CR CX0 outer P w H s Q E) s
theorem FnG.of {P : Program} {w : World} {K : PySem.W.Frag} {mg : Str → Option Value} {base : Heap} {k : Nat} {f : Addr} {fd : FuncData} {ps : List Str} {sp : Sp} (F : FnOk P w K mg base CX0 k f fd ps sp) : FnG P w K mg base k f fd ps sp :=
  ⟨F.len, fun A _ hr outer s H args us vs Q E => F.run A outer s H args us vs Q E hr⟩
section
variable {X : Cx} {k : Nat} {f : Addr} {fd : FuncData} {ps : List Str} {sp : Sp} {x : Str} {e : Expr} {es : List Expr} {p pos : Pos} {t : TA}
theorem runG {pins : List (Addr × Obj)} {σ : L2.St} {H : Hp} {s : Shared} {Q : VK} {us : List Value} {vs : List V} (F : FnG X.prog X.w X.K X.mg X.base k f fd ps sp) (hg : X.A.guards = some []) (hr : Room k X.A) (hb : Binds X.K fd ps [])
    (I : Inv X pins σ H s) (r : Vals vs us) (h : sp vs H Q E0) : wpAny (model X.prog X.w) X.A (call (.ref f) us) (EP X pins σ Q) X.xe s := by
  have hl : us.length = ps.length := r.length.symm.trans (F.len _ _ _ _ h)
  have bt := hb s us I.kIn (by rw [List.append_nil]; exact hl)
  rw [List.append_nil] at bt
  refine wpAny_call (codeAny_mono (F.run X.A hg hr X.stack s H ⟨us, []⟩ us vs Q E0 I.env0 bt r h) fun out s' hq => ?_)
  rcases out with err | fl
  · exact pass0 pins σ H s err s' I hq
  · rcases fl with _ | _ | _ | u
    all_goals first | exact I.after hq | exact hq.elim
/-- f(e, ..) -/
theorem pe_callG (F : FnG X.prog X.w X.K X.mg X.base k f fd ps sp) (gu : X.A.guards = some []) (hr : Room k X.A) (hg : Gl X x) (hm : X.mg x = some (.ref f)) (hk : PySem.W.keepIn X.K (.ref f) = true) (hb : Binds X.K fd ps []) (ha : PA X (e :: es) t)
    (hdb : (x == ("__debug__" : Str)) = false := by decide) (he : starEach (e :: es) X.env = (false, eval e X.env) :: starEach es X.env := by rfl) (hpl : (backTo pos (starEach es X.env)).any (·.1) = false := by rfl) :
    PE X (.Call (.Name x p) (e :: es) [] pos) (tCall sp [] E0 t) :=
  ⟨fun pins s σ H Q I h => wpAny_Call_Name_kw (ld_glob I hg hm (PySem.W.callWith_K (h₀ := X.base) I.ok.mod.kin hk (thn (ha.run pos pins s σ H _ I h) fun us s1 ⟨vs, H1, I1, r, q⟩ => ⟨I1.kIn, runG F gu hr hb I1 r (by have q' : sp (vs ++ []) H1 Q E0 := q; rwa [List.append_nil] at q')⟩) he hpl) hdb)⟩
end
section
variable {P : Program} {w : World} {K : PySem.W.Frag} {mg : Str → Option Value} {base : Heap}
/-- a def whose body is read where no text is under way -/
theorem okG {x qual : Str} {st : Stmt} {f : Addr} {fd : FuncData} {N ps : List Str} {k : Nat} {sp : Sp} (F : Fun K x qual st f fd) (S : FnScope N ps (defScope st)) (len : ∀ vs H Q E, sp vs H Q E → vs.length = ps.length)
    (hbody : ∀ (cdv : Value) (A : Around) (outer : List Env) (s : Shared) (H : Hp) (vs : List V) (Q : VK) (E : XK), A.guards = some [] → Room k (A.deeper (envOfC qual (defScope st) s.heap.objs.size f cdv)) → sp vs H Q E →
      ∃ t, PSs (cxOf CX0 P w K mg base N qual (defScope st) f cdv A outer s H E).nox (defBody st) t ∧ t { nx := fun _ H' => Q .non H', rt := Q } (start N vs) H) : FnG P w K mg base (k + 1) f fd ps sp := by
  obtain ⟨oc, od, kV, doc, pm, an, cdv, ct, osl, rfl, lk, hcd⟩ := F.ex
  refine ⟨len, fun A gu hr outer s H args us vs Q E en bt rv hs => ?_⟩
  have inK : K.In s.heap := en.mod.kin.keeps fun b o h => (en.bs b o h).1
  have names : ∀ y ∈ ps.zip us, (defScope st).names.lookup y.1 = some .local ∨ ((defScope st).names.lookup y.1 = some .cell ∧ ((cellsFrom (s.heap.objs.size + 1) (defScope st).names []).lookup y.1).isSome = true) := by
    rintro ⟨n, v⟩ hy
    exact (S.par n (List.of_mem_zip hy).1).imp id fun q => ⟨q, PySem.W.cellsFrom_some _ _ _ (.inl q)⟩
  refine codeAny_call_function hr.depth (inK _ _ lk) rfl S.co S.gen rfl (PySem.W.codeRec_of inK hcd) (bt _ _ _ _ (wpAny_newFunctionEnv_cells S.kind names fun env he s1 inner => ?_))
  subst he
  refine ⟨(en.mod.nolimit.keeps fun b o h => (en.bs b o h).1).keeps inner.toInCall.keep, codeAny_func ?_⟩
  obtain ⟨t, ht, hq⟩ := hbody cdv A outer s H vs Q E gu (hr.deeper _) hs
  have start0 : Inv (cxOf CX0 P w K mg base N qual (defScope st) f cdv A outer s H E) [] (start N vs) H s1 := inv_start S hr.hd en (len _ _ _ _ hs) rv inner
  have leave : ∀ {σ' : L2.St} {H' : Hp} {v : V} {u : Value} {s' : Shared}, Inv (cxOf CX0 P w K mg base N qual (defScope st) f cdv A outer s H E) [] σ' H' s' → RelV v u → Q v H' → CE outer P w H s Q u s' :=
    fun {σ' H' v u s'} J r q => ⟨v, H', J.os, J.bare, J.base, J.hok, r, q⟩
  refine wpAny_mono (ht.nox.run [] s1 (start N vs) H _ start0 hq) (fun fl s' hs' => ?_) fun _ _ h => h
  rcases fl with _ | _ | _ | u
  · obtain ⟨σ', H', J, q⟩ := hs'
    exact leave (v := V.non) (u := Value.none) J rfl q
  · obtain ⟨_, _, _, q⟩ := hs'
    exact q.elim
  · obtain ⟨_, _, _, q⟩ := hs'
    exact q.elim
  · obtain ⟨v, σ', H', J, r, q⟩ := hs'
    exact leave J r q
end
/-! the law's own call, where nothing is under way -/
section
variable {P : Program} {w : World} {K : PySem.W.Frag} {mg mb : Str → Option Value} {k : Nat} {fa a : Addr} {fd : FuncData} {x : Str} {sp : Sp} {s1 : Shared} {vs : List Value} {ns : List Int}
abbrev EndG (h : Heap) (os : OsState) (r : Result) (s' : Shared) : Prop := r = .ok (.ret (.bool true)) ∧ OldK h s'.heap ∧ s'.os = os ∧ AllBare s'.gens
/-- from one abstract heap that tells the script alone, if at all -/
theorem callG_at (inK : K.In s1.heap) (top : s1.heap.Ns mainGlobals mg) (bl : s1.heap.Ns builtinsNs mb) (blb : ∀ x : Str, x ≠ "__name__" → mb x = bootBuiltins x) (nl : s1.heap.NoLimit) (ng : s1.gens = #[])
    (obj : s1.heap.get? a = some { cls := .type "list", data := .seq vs.toArray }) (hr : Room k callerA) (F : ∀ base : Heap, K.In base → base.Ns mainGlobals mg → FnG P w K mg base k fa fd [x] sp) (bind : ∀ (s : Shared) (u : Value), BindsTo s fd ⟨[u], []⟩ [(x, u)])
    {H : Hp} (only : Only H) (ok : HOk P w H s1.heap) (at_a : ∀ b, H b ≠ none → b = a) (own : H a ≠ none → K.lookup a = none) (q : sp [.ref a] H (fun v _ => v = .bl true) E0) :
    codeAny (model P w) callerA (.call (.ref fa) ⟨[.ref a], []⟩) (EndG s1.heap s1.os) s1 := by
  have told : ∀ b, H b = none ∨ b = a := fun b => (Classical.em (H b = none)).imp id (at_a b)
  have keepN : ∀ {b : Addr} {m : Str → Option Value}, s1.heap.Ns b m → (hidT s1.heap H).Ns b m := fun {b m} ⟨o, es, ep, e, d, r⟩ => ⟨o, es, ep, hidT_get e ((told b).elim id fun z => by
    subst z
    rw [obj] at e
    cases e
    cases (show Data.seq vs.toArray _ = Data.dict es ep from d)), d, r⟩
  have keepK : K.In (hidT s1.heap H) := fun b o e => hidT_get (inK b o e) ((told b).elim id fun z => by
    subst z
    exact Classical.byContradiction fun n => by
      rw [own n] at e
      cases e)
  have md : Mod K mg (hidT s1.heap H) := ⟨keepK, keepN top, ⟨mb, keepN bl, blb⟩, nl.imp fun _ h => ⟨keepN h.1, h.2⟩⟩
  have en : Env0 P w K mg (hidT s1.heap H) callerA [] s1 H := ⟨rfl, md, fun b o e => of_hidT e, Nat.le_of_eq (hidT_size _ _), trivial, fun b hb => (List.not_mem_nil hb).elim, ok, .of_eq ng⟩
  refine codeAny_mono ((F _ keepK (keepN top)).run callerA rfl hr [] s1 H ⟨[.ref a], []⟩ [.ref a] [.ref a] _ _ en (bind s1 (.ref a)) (.cons rfl .nil) q) fun r s' h => ?_
  rcases r with e | fl
  · exact (show False from h).elim
  · rcases fl with _ | _ | _ | u
    · exact (show False from h).elim
    · exact (show False from h).elim
    · exact (show False from h).elim
    · obtain ⟨v, H', os, bare, un, ok', rv, qv⟩ := h
      cases (show v = .bl true from qv)
      cases (show u = Value.bool true from rv)
      refine ⟨rfl, OldK.of_keep fun b o e => ?_, os, bare⟩
      rcases only b with z | ⟨ob, xs, z⟩
      · exact un.keep b o e z (List.not_mem_nil) (List.not_mem_nil)
      · have e1 := (ok b _ z).1
        have e2 := (ok' b _ (un.frzs b ob _ z)).1
        exact (Option.some.inj (e.symm.trans e1)) ▸ e2
theorem callG (inK : K.In s1.heap) (top : s1.heap.Ns mainGlobals mg) (bl : s1.heap.Ns builtinsNs mb) (blb : ∀ x : Str, x ≠ "__name__" → mb x = bootBuiltins x) (nl : s1.heap.NoLimit) (ng : s1.gens = #[])
    (obj : s1.heap.get? a = some { cls := .type "list", data := .seq vs.toArray }) (its0 : IntsAre vs ns) (small : ns.length ≤ sizeLine) (hr : Room k callerA) (F : ∀ base : Heap, K.In base → base.Ns mainGlobals mg → FnG P w K mg base k fa fd [x] sp)
    (bind : ∀ (s : Shared) (u : Value), BindsTo s fd ⟨[u], []⟩ [(x, u)]) (q : ∀ H : Hp, Only H → SqL K H a (ns.map V.int) → sp [.ref a] H (fun v _ => v = .bl true) E0) :
    codeAny (model P w) callerA (.call (.ref fa) ⟨[.ref a], []⟩) (EndG s1.heap s1.os) s1 := by
  have rv := vals_ints its0
  have lv := its0.length
  cases hk : K.lookup a with
  | some o =>
    have e := inK a o hk
    rw [obj] at e
    cases e
    have sq : SqL K (fun _ => none) a (ns.map V.int) := .inr ⟨_, vs.toArray, _, hk, rfl, rfl, rfl, by rw [List.size_toArray, lv]; exact small, by simpa using rv⟩
    exact callG_at inK top bl blb nl ng obj hr F bind (H := fun _ => none) (fun _ => .inl rfl) (fun b u z => nomatch (show (none : Option HO) = some u from z)) (fun b z => absurd rfl z) (fun z => absurd rfl z) (q _ (fun _ => .inl rfl) sq)
  | none =>
    generalize hH : (fun b => if b = a then some (HO.frz { cls := .type "list", data := .seq vs.toArray } (.lst (ns.map V.int))) else none : Hp) = H
    have here : H a = some (.frz { cls := .type "list", data := .seq vs.toArray } (.lst (ns.map V.int))) := by rw [← hH]; exact if_pos rfl
    have else_ : ∀ b, b ≠ a → H b = none := fun b n => by rw [← hH]; exact if_neg n
    have only : Only H := fun b => (Classical.em (b = a)).elim (fun e => .inr ⟨{ cls := .type "list", data := .seq vs.toArray }, ns.map V.int, by rw [e]; exact here⟩) fun n => .inl (else_ b n)
    refine callG_at inK top bl blb nl ng obj hr F bind only (fun b u z => ?_) (fun b z => Classical.byContradiction fun n => z (else_ b n)) (fun _ => hk) (q _ only (.inl (.inr ⟨_, here⟩)))
    by_cases e : b = a
    · subst e
      rw [here] at z
      cases z
      exact ⟨obj, by rw [List.length_map]; exact small, vs, _, rv, obj⟩
    · rw [else_ b e] at z
      cases z
end
/-- the goal behind the head of an open law, by a promise that may tell texts of lists -/
theorem walk_ofG {l : PySem.W.OpenLaw} {n k : Nat} {q : Program} {loose : List Str} {XP : (Str → Option Value) → Heap → Prop} {YP : World → Heap → Prop} {d : DefRec} {K : Params → PySem.W.Frag} {sp : World → Sp} {x : Str}
    (most : l.most = some n) (small : n ≤ sizeLine) (plain : d.params.defaults = []) (hr : Room k callerA) (inK : ∀ (w : World) (h : Heap), YP w h → (K w.params).In h)
    (F : ∀ (w : World) (mg : Str → Option Value) (fa : Addr) (h : Heap), (K w.params).In h → h.Ns mainGlobals mg → mg d.name = some (.ref fa) →
      ∃ fd : FuncData, (∀ (s : Shared) (u : Value), BindsTo s fd ⟨[u], []⟩ [(x, u)]) ∧ ∀ base : Heap, (K w.params).In base → base.Ns mainGlobals mg → FnG l.prog w (K w.params) mg base k fa fd [x] (sp w))
    (enter : ∀ (w : World) (H : Hp) (a : Addr) (ns : List Int), ns.length ≤ n → Only H → SqL (K w.params) H a (ns.map V.int) → sp w [.ref a] H (fun v _ => v = .bl true) E0) :
    PySem.W.WalkO q loose XP YP l.row.toRowW d [] (fun f vs => PySem.call f vs) := by
  refine Att.attach_call most plain fun w s₀ s₁ mg mb fa o pm cd doc a vs ns G Y ho hd hcd hmg obj its0 len ng => ?_
  obtain ⟨fd, bind, hF⟩ := F w mg fa _ (inK w _ Y) G.T.g hmg
  exact callG (inK w _ Y) G.T.g G.T.b G.T.builtins G.T.nolimit ng obj its0 (Nat.le_trans len small) hr hF bind fun H only sq => enter w H a ns len only sq
/-! repr of lists and tuples -/
def rReprD (K : PySem.W.Frag) : List V → Hp → VK → Prop := fun xs H Q => ∃ (a : Addr) (d : PyData), xs = [.ref a] ∧ Dp K H (.ref a) d ∧ d.showable = true ∧ d.hasDict = false ∧ d.depth ≤ 60 ∧ d.shown.length ≤ sizeLine ∧ Q (.str d.shown) H
theorem call_reprD {X : Cx} {k : Nat} (gu : X.A.guards = some []) (hr : Room k X.A) : CallR X (.builtin "repr") (rReprD X.K) := by
  intro pins s σ H xs us Q I r h
  obtain ⟨a, d, rfl, dp, sh, nd, dep, len, q⟩ := h
  obtain ⟨u, rfl, ru⟩ := r.one
  cases ru
  obtain ⟨as, rd⟩ := Dp.reads I d _ _ dp rfl
  have un := hr.un
  refine repr_of_reads' (h₀ := s.heap) rd sh (fun z => by rw [nd] at z; cases z) gu (by omega) (fun _ _ h => h) (fun h' u tk keep => ?_) len
  exact ⟨.str d.shown, H, I.kept keep, ⟨u, rfl⟩, q⟩
/-- repr of any plain data -/
def rReprA (K : PySem.W.Frag) : List V → Hp → VK → Prop := fun xs H Q => ∃ (x : V) (d : PyData), xs = [x] ∧ Dp K H x d ∧ d.showable = true ∧ d.hasDict = false ∧ d.depth ≤ 60 ∧ d.shown.length ≤ sizeLine ∧ Q (.str d.shown) H
theorem call_reprA {X : Cx} {k : Nat} (gu : X.A.guards = some []) (hr : Room k X.A) : CallR X (.builtin "repr") (rReprA X.K) := by
  intro pins s σ H xs us Q I r h
  obtain ⟨x, d, rfl, dp, sh, nd, dep, len, q⟩ := h
  have big : ∀ a, x = .ref a → wpAny (model X.prog X.w) X.A (call (.builtin "repr") us) (EP X pins σ Q) X.xe s := fun a e => by
    subst e
    exact call_reprD gu hr pins s σ H _ us Q I r ⟨a, d, rfl, dp, sh, nd, dep, len, q⟩
  cases dp with
  | non =>
    obtain ⟨u, rfl, ru⟩ := r.one
    cases (show u = Value.none from ru)
    exact P.repr_of_none ⟨.str PyData.none.shown, H, I.tok _, ⟨_, rfl⟩, q⟩
  | bl b =>
    obtain ⟨u, rfl, ru⟩ := r.one
    cases (show u = Value.bool b from ru)
    exact P.repr_of_bool ⟨.str (PyData.bool b).shown, H, I.tok _, ⟨_, rfl⟩, q⟩
  | int i =>
    obtain ⟨u, rfl, t, rfl⟩ := r.one
    exact P.repr_of_int (of_decide_eq_true sh) ⟨.str (PyData.int i).shown, H, I.tok _, ⟨_, rfl⟩, q⟩
  | str z =>
    obtain ⟨u, rfl, t, rfl⟩ := r.one
    exact P.repr_of_str ⟨.str (PyData.str z).shown, H, I.tok _, ⟨_, rfl⟩, q⟩ len
  | lst _ _ => exact big _ rfl
  | tup _ _ => exact big _ rfl
section
variable {K : PySem.W.Frag} {ms : List Addr} {H : Hp} {d : D} {x : V}
theorem rep_repr {P : PyData → Prop} (h : rep ms H d x) (p : plainD d = true) (sh : (pyOf d).showable = true) (nd : (pyOf d).hasDict = false) (dep : (pyOf d).depth ≤ 60) (len : (pyOf d).shown.length ≤ sizeLine) (q : P (pyOf d)) :
    ∃ (x' : V) (d : PyData), [x] = [x'] ∧ Dp K H x' d ∧ d.showable = true ∧ d.hasDict = false ∧ d.depth ≤ 60 ∧ d.shown.length ≤ sizeLine ∧ P d :=
  ⟨x, _, rfl, dp_of (K := K) d x p h, sh, nd, dep, len, q⟩
end
/-! [e for x in range(lo, hi) if test]; min and max of a list of ints -/
section
variable {β : Type} {K : PySem.W.Frag} {ms ps : List Addr} {cs : List (Addr × List V)} {H0 H1 : Hp} {g : TG} {tt : TT} {te : TE} {vl : List Nat} {σ : L2.St} {Qd : Hp → Prop}
theorem lf_rangeC {lo hi : Int} {N : Nat} {L : Addr} {eb : β → D} {body : Int → (Option β → Prop) → Prop} {KM : List β → Prop} (hN : N = (hi - lo).toNat) (w : Wd ms ps cs H0 H1) (nl : H1 L = none) (hM : (rangeI lo hi).length < 100000 ∧ filC body (rangeI lo hi) [] KM)
    (hs : ∀ (x : Int) (n : Nat) (ys : List β) (vs : List V) (k : Option β → Prop) (H : Hp), n < 100000 → Trn ms ps cs H0 H1 L eb n ys vs H → body x k → ∀ Nx : Hp → Prop,
        (∀ y vs' H', k (some y) → Trn ms ps cs H0 H1 L eb (n + 1) (ys ++ [y]) vs' H' → Nx H') → (∀ vs' H', k none → Trn ms ps cs H0 H1 L eb (n + 1) ys vs' H' → Nx H') →
      g (.int x) (wipe σ vl) H fun σ2 H2 => wipe σ2 vl = wipe σ vl ∧ tt σ2 H2 fun b H3 => if b = true then te σ2 H3 fun y H4 => ∃ acc, H4 L = some (.lst acc) ∧ acc.length < sizeLine ∧ Nx (upd H4 L (.lst (acc ++ [y]))) else Nx H3)
    (hd : ∀ ys H, KM ys → Wd ms ps cs H0 H → Keep ms H1 H → rep ms H (.lst (ys.map eb)) (.ref L) → Qd H) :
    ∃ W : Nat → Nat → Hp → Prop, (∃ m, W 0 m (upd H1 L (.lst []))) ∧ ∀ i m H, W i m H →
      ((Itr lo N).stop i H ∧ Qd H) ∨ ((Itr lo N).go i H ∧ ∃ Nx : Hp → Prop, (∀ H', Nx H' → ∃ m', m' < m ∧ W (i + 1) m' H') ∧ ∀ x H', (Itr lo N).yld i H x H' → g x (wipe σ vl) H' fun σ2 H2 => wipe σ2 vl = wipe σ vl ∧ tt σ2 H2 fun b H3 =>
        if b = true then te σ2 H3 fun y H4 => ∃ acc, H4 L = some (.lst acc) ∧ acc.length < sizeLine ∧ Nx (upd H4 L (.lst (acc ++ [y]))) else Nx H3) := by
  obtain ⟨hn, hM⟩ := hM
  subst hN
  rw [rangeI_len] at hn
  refine ⟨fun i m H => m = (hi - lo).toNat - i ∧ i ≤ (hi - lo).toNat ∧ ∃ ys vs, Trn ms ps cs H0 H1 L eb i ys vs H ∧ filC body ((rangeI lo hi).drop i) ys KM, ⟨_, rfl, Nat.zero_le _, [], [], Trn.start w nl, hM⟩, ?_⟩
  rintro i m H ⟨rfl, hi', ys, vs, T, q⟩
  by_cases hlt : i < (hi - lo).toNat
  · refine .inr ⟨hlt, fun H' => i + 1 ≤ (hi - lo).toNat ∧ ∃ ys vs, Trn ms ps cs H0 H1 L eb (i + 1) ys vs H' ∧ filC body ((rangeI lo hi).drop (i + 1)) ys KM, fun H' p' => ⟨_, by omega, rfl, p'⟩, fun x H' y => ?_⟩
    obtain ⟨e, y⟩ := y
    subst e y
    rw [drop_cons' (rangeI_get hlt)] at q
    exact hs _ i ys vs _ H' (by omega) T q _ (fun y vs' H' k T' => ⟨hlt, _, _, T', k⟩) fun vs' H' k T' => ⟨hlt, _, _, T', k⟩
  · have e : i = (hi - lo).toNat := by omega
    refine .inl ⟨by rw [e]; exact Nat.le_refl _, ?_⟩
    have q' : KM ys := by
      rw [List.drop_of_length_le (by rw [rangeI_len]; omega)] at q
      exact q
    obtain ⟨w', k', r'⟩ := T.done w nl
    exact hd ys H q' w' k' r'
variable {x : V} {H : Hp}
theorem rep_minL {ns : List Int} {P : List Int → Prop} (h : rep ms H (.lst (ns.map fun n => D.v (.int n))) x) (ne : 0 < ns.length) (q : P ns) :
    ∃ (a : Addr) (ns : List Int), [x] = [V.ref a] ∧ SqL K H a (ns.map V.int) ∧ 0 < ns.length ∧ P ns := by
  simp only [rep] at h
  obtain ⟨p, vs, e, _, hp, hr⟩ := h
  have ev := repL_ints hr
  subst ev e
  exact ⟨p, ns, rfl, .inl (.inl hp), ne, q⟩
end
/-! repr and str of own instances, by the class's own def -/
def rOwnText (C : Addr) (sp : Sp) (E : XK) : List V → Hp → VK → Prop := fun xs H Q => ∃ (x : V) (a dx : Addr) (fs : List (Str × V)), xs = [x] ∧ x = .ref a ∧ H a = some (.ins C dx fs) ∧ sp [x] H (fun v H' => ∃ z : Str, v = .str z ∧ Q v H') E
structure OwnText (K : PySem.W.Frag) (C : Addr) (name : Str) (f : Addr) : Prop where
  hs : PySem.W.findIn K (.ref C) name = some (some (.ref f))
  hf : PySem.W.isFn K (.ref f) = true
section
variable {X : Cx} {n : Nat} {CX : CXT} {C f : Addr} {fd : FuncData} {ps : List Str} {sp : Sp} {E : XK}
theorem ownText_run (F : FnOk X.prog X.w X.K X.mg X.base CX n f fd ps sp) {A : Around} (hr : Room n A) (hb : Binds X.K fd ps []) (hx : Passes CX X E) {pins : List (Addr × Obj)} {σ : L2.St} {H : Hp} {s : Shared} {a : Addr} {Q : VK} (I : Inv X pins σ H s)
    (en : Env0 X.prog X.w X.K X.mg X.base A X.stack s H) (h : sp [.ref a] H (fun v H' => ∃ z : Str, v = .str z ∧ Q v H') E) : wpAny (model X.prog X.w) A (call (.ref f) [.ref a]) (PySem.W.StrBack (EP X pins σ Q)) X.xe s := by
  have hl := F.len _ _ _ _ h
  have bt := hb s [.ref a] I.kIn (by rw [List.append_nil]; exact hl)
  rw [List.append_nil] at bt
  refine wpAny_call (codeAny_mono (F.run A X.stack s H ⟨[.ref a], []⟩ [.ref a] [.ref a] _ E hr en bt (.cons rfl .nil) h) fun out s' hq => ?_)
  rcases out with err | fl
  · exact hx pins σ H s err s' I hq
  · rcases fl with _ | _ | _ | u
    · exact hq.elim
    · exact hq.elim
    · exact hq.elim
    · obtain ⟨v, H', I', rv, z, ez, q⟩ := I.after hq
      subst ez
      obtain ⟨t, rfl⟩ := rv
      exact ⟨.str z, H', I', ⟨t, rfl⟩, q⟩
theorem call_reprOwn (F : FnOk X.prog X.w X.K X.mg X.base CX n f fd ps sp) (hr : Room (n + 1) X.A) (o : OwnText X.K C "__repr__" f) (hb : Binds X.K fd ps []) (hx : Passes CX X E) : CallR X (.builtin "repr") (rOwnText C sp E) := by
  intro pins s σ H xs us Q I r h
  obtain ⟨x, a, dx, fs, rfl, rfl, ha, hsp⟩ := h
  obtain ⟨u, rfl, ru⟩ := r.one
  cases ru
  obtain ⟨mA, J, _⟩ := ins_get I.hok ha
  obtain ⟨od, J, _⟩ := J.look
  obtain ⟨m, hF⟩ := I.fr
  exact PySem.W.repr_K hr.in1.units0 hF I.ok.mod.kin J o.hs o.hf (ownText_run F hr.in1 hb hx I I.env0.in1 hsp)
theorem call_strOwn (F : FnOk X.prog X.w X.K X.mg X.base CX n f fd ps sp) (hr : Room (n + 2) X.A) (o : OwnText X.K C "__str__" f) (hb : Binds X.K fd ps []) (hx : Passes CX X E) : CallR X (.type "str") (rOwnText C sp E) := by
  intro pins s σ H xs us Q I r h
  obtain ⟨x, a, dx, fs, rfl, rfl, ha, hsp⟩ := h
  obtain ⟨u, rfl, ru⟩ := r.one
  cases ru
  obtain ⟨mA, J, _⟩ := ins_get I.hok ha
  obtain ⟨od, J, _⟩ := J.look
  exact PySem.W.kso_call hr.in1.in1.units0 I.kIn J o.hs o.hf (ownText_run F hr.in1.in1 hb hx I I.env0.in1.in1 hsp)
end
theorem rep_ownText {ms : List Addr} {H : Hp} {C : Addr} {ns : List Str} {ds : List D} {u : V} {P : V → Prop} (h : rep ms H (.ins C ns ds) u) (k : P u) :
    ∃ (x : V) (a dx : Addr) (fs : List (Str × V)), [u] = [x] ∧ x = .ref a ∧ H a = some (.ins C dx fs) ∧ P x := by
  obtain ⟨p, dx, fs, e, hp⟩ := rep_ins h
  exact ⟨u, p, dx, fs, rfl, e, hp, k⟩
/-! results that may be None -/
def encO {α : Type} (e : α → D) : Option α → D
  | none => .v .non
  | some y => e y
theorem rep_isN {α : Type} {e : α → D} {ms : List Addr} {H : Hp} {m : Option α} {u : V} (he : ∀ y, ∃ ds, e y = .tup ds) (h : rep ms H (encO e m) u) : decide (u = .non) = m.isNone := by
  cases m with
  | none =>
    rw [of_v h]
    rfl
  | some y =>
    obtain ⟨ds, ed⟩ := he y
    have h' : rep ms H (e y) u := h
    rw [ed] at h'
    simp only [rep] at h'
    obtain ⟨p, _, e1, _⟩ := h'
    rw [e1]
    rfl
theorem rep_isSome {α : Type} {e : α → D} {ms : List Addr} {H : Hp} {m : Option α} {u : V} (he : ∀ y, ∃ ds, e y = .tup ds) (h : rep ms H (encO e m) u) : (!decide (u = .non)) = m.isSome := by
  rw [rep_isN he h]
  cases m <;> rfl
theorem rep_some {α : Type} {e : α → D} {ms : List Addr} {H : Hp} {m : Option α} {u : V} {y : α} (hy : m = some y) (h : rep ms H (encO e m) u) : rep ms H (e y) u := by
  subst hy
  exact h
/-! a def called by keywords alone -/
def tCallKw (n : Nat) (gV : List V → List V → List V) (sp : Sp) (E : XK) (tk : TA) : TE := fun σ H Q => tk σ H fun zs H1 => zs.length = n ∧ sp (gV [] zs) H1 Q E
theorem pe_callKw {X : Cx} {CX : CXT} {k : Nat} {f : Addr} {fd : FuncData} {ps ks : List Str} {sp : Sp} {E : XK} {x : Str} {p pos : Pos} {kws : List Keyword} {tk : TA} {g : List Value → List Value → List Value} {gV : List V → List V → List V}
    (F : FnOk X.prog X.w X.K X.mg X.base CX k f fd ps sp) (hr : Room k X.A) (hg : Gl X x) (hm : X.mg x = some (.ref f)) (hk : PySem.W.keepIn X.K (.ref f) = true) (hb : KBn X.K fd ps 0 ks g gV) (hx : Passes CX X E) (hkw : PK X kws tk)
    (hall : (backToKw pos (keywordEach kws X.env)).all (·.1.isSome) = true := by rfl) (hks : (backToKw pos (keywordEach kws X.env)).filterMap (·.1) = ks := by rfl) (hdb : (x == ("__debug__" : Str)) = false := by decide)
    (hpl : ((backTo pos (starEach [] X.env)).any (·.1) || (backToKw pos (keywordEach kws X.env)).any (·.1.isNone)) = false := by rfl) : PE X (.Call (.Name x p) [] kws pos) (tCallKw ks.length gV sp E tk) :=
  ⟨fun pins s σ H Q I h => wpAny_Call_Name_kw (ld_glob I hg hm (PySem.W.callWith_KW0 (first := []) (h₀ := X.base) I.ok.mod.kin hk hall (thn (hkw.run pos pins s σ H _ I h) fun ws s2 ⟨zs, H2, I2, rz, l2, q2⟩ => ⟨I2.kIn, by
    rw [hks]
    exact run_fnN (us := []) (vs := []) F hr hb hx I2 .nil rz rfl l2 q2⟩) hpl) hdb)⟩
end Rx
namespace Rx
open PySem PySem.Spec PyProof.Rows L2
section
variable {K : PySem.W.Frag} {ms ps : List Addr} {cs : List (Addr × List V)} {H0 H H1 H' : Hp} {x : V} {ds : List D}
theorem wd_none {p : Addr} (w : Wd ms ps cs H0 H) (np : H p = none) : H0 p = none := by
  cases q : H0 p with
  | none => rfl
  | some o => exact absurd np (w.grow p (by rw [q]; exact fun z => nomatch z))
def rLstOf (K : PySem.W.Frag) : List V → Hp → VK → Prop := fun xs H Q => ∃ p ys, xs = [.ref p] ∧ (SqL K H p ys ∨ SqT K H p ys) ∧ ∀ l, H l = none → Q (.ref l) (upd H l (.lst ys))
theorem rep_listT {P : List V → Prop} (h : rep ms H (.tup ds) x) (k : ∀ ys, repL ms H ds ys → P ys) :
    ∃ p ys, [x] = [.ref p] ∧ (SqL K H p ys ∨ SqT K H p ys) ∧ P ys := by
  simp only [rep] at h
  obtain ⟨p, vs, rfl, _, hp, hr⟩ := h
  exact ⟨p, vs, rfl, .inr (.inl (.inl hp)), k vs hr⟩
theorem rep_listL {P : List V → Prop} (h : rep ms H (.lst ds) x) (k : ∀ ys, repL ms H ds ys → P ys) :
    ∃ p ys, [x] = [.ref p] ∧ (SqL K H p ys ∨ SqT K H p ys) ∧ P ys := by
  simp only [rep] at h
  obtain ⟨p, vs, rfl, _, hp, hr⟩ := h
  exact ⟨p, vs, rfl, .inl (.inl (.inl hp)), k vs hr⟩
mutual
theorem rep_noL {L : Addr} {vs vs' : List V} (hL : H L = some (.lst vs)) : ∀ (d : D) (u : V), noL d = true → rep ms H d u → rep ms (upd H L (.lst vs')) d u
  | .v x, u, _, h => by
    simp only [rep] at h ⊢
    exact h
  | .lst ds, u, n, h => by
    simp only [noL] at n
    cases n
  | .tup ds, u, n, h => by
    simp only [noL] at n
    simp only [rep] at h ⊢
    obtain ⟨p, us, e, np, hp, hl⟩ := h
    refine ⟨p, us, e, np, ?_, repL_noL hL ds us n hl⟩
    rw [upd_ne (fun z => by rw [z, hL] at hp; cases hp)]
    exact hp
  | .ins C ns ds, u, n, h => by
    simp only [noL] at n
    simp only [rep] at h ⊢
    obtain ⟨p, dx, us, e, np, hp, hn, hl⟩ := h
    refine ⟨p, dx, us, e, np, ?_, hn, repL_noL hL ds us n hl⟩
    rw [upd_ne (fun z => by rw [z, hL] at hp; cases hp)]
    exact hp
  | .dct ks ds, u, n, h => by
    simp only [noL] at n
    simp only [rep] at h ⊢
    obtain ⟨p, us, e, np, hp, hn, hl⟩ := h
    refine ⟨p, us, e, np, ?_, hn, repL_noL hL ds us n hl⟩
    rw [upd_ne (fun z => by rw [z, hL] at hp; cases hp)]
    exact hp
  | .dcT ks ds, u, n, h => by
    simp only [noL] at n
    simp only [rep] at h ⊢
    obtain ⟨p, us, e, np, hp, hn, hl⟩ := h
    refine ⟨p, us, e, np, ?_, hn, repL_noL hL ds us n hl⟩
    rw [upd_ne (fun z => by rw [z, hL] at hp; cases hp)]
    exact hp
theorem repL_noL {L : Addr} {vs vs' : List V} (hL : H L = some (.lst vs)) : ∀ (ds : List D) (us : List V), noLs ds = true → repL ms H ds us → repL ms (upd H L (.lst vs')) ds us
  | [], us, _, h => by
    simp only [repL] at h ⊢
    exact h
  | d :: ds, us, n, h => by
    simp only [noLs, Bool.and_eq_true] at n
    simp only [repL] at h ⊢
    obtain ⟨u, ws, e, h1, h2⟩ := h
    exact ⟨u, ws, e, rep_noL hL d u n.1 h1, repL_noL hL ds ws n.2 h2⟩
end
theorem noLs_map {α : Type} {e : α → D} (hn : ∀ x, noL (e x) = true) : ∀ xs : List α, noLs (xs.map e) = true
  | [] => rfl
  | x :: xs => by
    show (noL (e x) && noLs (xs.map e)) = true
    rw [hn x, noLs_map hn xs]
    rfl
theorem repL_set {α : Type} {e : α → D} {y : α} {v : V} : ∀ {xs : List α} {vs : List V} (j : Nat), repL ms H (xs.map e) vs → rep ms H (e y) v → repL ms H ((xs.set j y).map e) (vs.set j v)
  | [], vs, j, h, r => by
    have ev : vs = [] := by
      simp only [List.map_nil, repL] at h
      exact h
    subst ev
    simpa using h
  | x :: xs, vs, 0, h, r => by
    simp only [List.map_cons, repL] at h
    obtain ⟨u, us, rfl, h1, h2⟩ := h
    exact repL_cons r h2
  | x :: xs, vs, j + 1, h, r => by
    simp only [List.map_cons, repL] at h
    obtain ⟨u, us, rfl, h1, h2⟩ := h
    exact repL_cons h1 (repL_set j h2 r)
/-- L, a list of this def's own, may be told anew -/
theorem wd_own {L : Addr} {vs vs' : List V} (w : Wd ms ps cs H0 H) (nm : L ∉ ms) (hL : H L = some (.lst vs)) (o : H0 L = none) : Wd ms ps cs H0 (upd H L (.lst vs')) := by
  refine ⟨fun a o' n h => ?_, fun a h => ?_, fun m h => ?_, fun a h => ?_, w.pm, fun c h => ?_⟩
  · rw [upd_ne (ne_of_none h o)]
    exact w.kp a o' n h
  · by_cases e : a = L
    · rw [e, upd_same]
      exact fun z => nomatch z
    · rw [upd_ne e]
      exact w.grow a h
  · rw [upd_ne (fun z => nm (by rw [← z]; exact h))]
    exact w.tr m h
  · obtain ⟨i, j, h1, h3⟩ := w.pot a h
    exact ⟨i, j, by rw [upd_ne (fun z => nm (by rw [← z]; exact w.pm a h))]; exact h1, h3⟩
  · obtain ⟨h1, h3, h4, h5⟩ := w.cel c h
    exact ⟨by rw [upd_ne (fun z => nm (by rw [← z]; exact h3))]; exact h1, h3, h4, h5⟩
theorem rep_setL {α : Type} {e : α → D} {xs : List α} {y : α} {k : Int} {v : V} {L : Addr} {Q : Hp → Prop} (w : Wd ms ps cs H0 H) (h : rep ms H (.lst (xs.map e)) (.ref L)) (o : H0 L = none) (hn : ∀ x, noL (e x) = true)
    (h0 : 0 ≤ k) (hj : k.toNat < xs.length) (r : rep ms H (e y) v)
    (kk : ∀ H', Wd ms ps cs H0 H' → rep ms H' (.lst ((xs.set k.toNat y).map e)) (.ref L) → (∀ d u, noL d = true → rep ms H d u → rep ms H' d u) → Q H') : rSetL (.ref L) (.int k) v H Q := by
  simp only [rep] at h
  obtain ⟨p, vs, e1, np, hp, hr⟩ := h
  cases e1
  have hl := repL_len hr
  rw [List.length_map] at hl
  refine ⟨L, vs, k, k.toNat, rfl, rfl, hp, ?_, kk _ (wd_own w np hp o) ?_ fun d u n h => rep_noL hp d u n h⟩
  · unfold ixN
    rw [if_pos h0, if_pos (by omega)]
  · simp only [rep]
    exact ⟨L, _, rfl, np, upd_same, repL_set _ (repL_noL hp _ _ (noLs_map hn xs) hr) (rep_noL hp _ _ (hn y) r)⟩
end

/-! rules whose reading names the frame itself (within a comprehension its context is not known to the reading) -/
section
variable {X : Cx} {K : PySem.W.Frag}
theorem ix_listK (hK : X.K = K) : IxR X (rIxL K) := by
  subst hK
  exact ix_list
theorem ix_tupK (hK : X.K = K) : IxR X (rIxT K) := by
  subst hK
  exact ix_tup
end
end Rx
namespace Rx
open PySem PySem.Spec PyProof.Rows L2
section
variable {K : PySem.W.Frag} {ms ms' ps : List Addr} {H0 H H' H1 : Hp} {L L' : Addr} {d d' : D} {ds : List D} {u x : V} {vs : List V}
/-- what stands at L -/
def valO (ms : List Addr) (H : Hp) (L : Addr) : D → Prop
  | .lst ds => ∃ vs, H L = some (.lst vs) ∧ repL ms H ds vs
  | .dct ks ds => ∃ vs, H L = some (.dK (ks.zip vs)) ∧ ks.length = vs.length ∧ repL ms H ds vs
  | .dcT ks ds => ∃ vs, H L = some (.dT (ks.zip vs)) ∧ ks.length = vs.length ∧ repL ms H ds vs
  | _ => False
theorem valO_map (f : ∀ p o, p ∉ ms → H p = some o → p ∉ ms' ∧ H' p = some o) (g : ∀ o, H L = some o → H' L = some o) : ∀ d : D, valO ms H L d → valO ms' H' L d
  | .lst ds, ⟨vs, h1, h2⟩ => ⟨vs, g _ h1, repL_map f ds vs h2⟩
  | .dct ks ds, ⟨vs, h1, h2, h3⟩ => ⟨vs, g _ h1, h2, repL_map f ds vs h3⟩
  | .dcT ks ds, ⟨vs, h1, h2, h3⟩ => ⟨vs, g _ h1, h2, repL_map f ds vs h3⟩
  | .v _, h => h
  | .tup _, h => h
  | .ins _ _ _, h => h
structure MutO (ms ps : List Addr) (H0 H : Hp) (L : Addr) (d : D) : Prop where
  im : L ∈ ms
  hp : L ∉ ps
  h0 : H0 L = none
  val : valO ms H L d
theorem MutO.some (m : MutO ms ps H0 H L d) : ∃ o, H L = some o := by
  have h := m.val
  cases d with
  | lst ds => exact ⟨_, h.choose_spec.1⟩
  | dct ks ds => exact ⟨_, h.choose_spec.1⟩
  | dcT ks ds => exact ⟨_, h.choose_spec.1⟩
  | v _ => exact h.elim
  | tup _ => exact h.elim
  | ins _ _ _ => exact h.elim
theorem mo_ret (w : Wd ms ps [] H0 H) (e : Ret ps H H') (m : MutO ms ps H0 H L d) : MutO ms ps H0 H' L d :=
  ⟨m.im, m.hp, m.h0, valO_map (fun p o n hp => ⟨n, e.kp p o (fun z => n (w.pm p z)) hp⟩) (fun o h => e.kp L o m.hp h) d m.val⟩
theorem mo_ext (e : Ret [] H H') (m : MutO ms ps H0 H L d) : MutO ms ps H0 H' L d :=
  ⟨m.im, m.hp, m.h0, valO_map (fun p o n hp => ⟨n, e.kp p o (by simp) hp⟩) (fun o h => e.kp L o (by simp) h) d m.val⟩
theorem mo_ne (nl : H L = none) (m : MutO ms ps H0 H L' d) : L' ≠ L := fun z => by
  obtain ⟨o, h⟩ := m.some
  rw [z, nl] at h
  cases h
theorem mo_cell {o : HO} (nl : H L = none) (m : MutO ms ps H0 H L' d) : MutO (L :: ms) ps H0 (upd H L o) L' d :=
  ⟨List.mem_cons_of_mem _ m.im, m.hp, m.h0, valO_map (fun p o n hp => ⟨fun z => by
    rcases List.mem_cons.mp z with z | z
    · exact ne_of_none hp nl z
    · exact n z, by rw [upd_ne (ne_of_none hp nl)]; exact hp⟩) (fun o h => by rw [upd_ne (mo_ne nl m)]; exact h) d m.val⟩
theorem mo_put {o : HO} (lm : L ∈ ms) (ne : L' ≠ L) (m : MutO ms ps H0 H L' d) : MutO ms ps H0 (upd H L o) L' d :=
  ⟨m.im, m.hp, m.h0, valO_map (fun p o n hp => ⟨n, by rw [upd_ne (fun z => n (by rw [z]; exact lm))]; exact hp⟩) (fun o h => by rw [upd_ne ne]; exact h) d m.val⟩
theorem mo_sub (s : ∀ a ∈ ms', a ∈ ms) (i : L ∈ ms') (m : MutO ms ps H0 H L d) : MutO ms' ps H0 H L d :=
  ⟨i, m.hp, m.h0, valO_map (fun p o n hp => ⟨fun z => n (s p z), hp⟩) (fun o h => h) d m.val⟩
theorem rep_sub (s : ∀ a ∈ ms', a ∈ ms) (h : rep ms H d u) : rep ms' H d u := rep_map (fun p o n hp => ⟨fun z => n (s p z), hp⟩) d u h
theorem wd_sub (s : ∀ a ∈ ms', a ∈ ms) (hp : ∀ a ∈ ps, a ∈ ms') (w : Wd ms ps [] H0 H) : Wd ms' ps [] H0 H :=
  ⟨w.kp, w.grow, fun m h => w.tr m (s m h), w.pot, hp, fun _ h => absurd h List.not_mem_nil⟩
theorem keep_sub (h : ∀ a ∈ ms, a ∈ ms' ∨ H1 a = none) (k : Keep ms H1 H) : Keep ms' H1 H := fun a o n e => k a o (fun z => by
  rcases h a z with z | z
  · exact n z
  · rw [z] at e
    cases e) e
theorem mo_rep (n : L ∉ ms') (s : ∀ a ∈ ms', a ∈ ms) (m : MutO ms ps H0 H L d) : rep ms' H d (.ref L) := by
  have h := m.val
  cases d with
  | lst ds =>
    obtain ⟨vs, h1, h2⟩ := h
    simp only [rep]
    exact ⟨L, vs, rfl, n, h1, repL_map (fun p o n hp => ⟨fun z => n (s p z), hp⟩) ds vs h2⟩
  | dct ks ds =>
    obtain ⟨vs, h1, h2, h3⟩ := h
    simp only [rep]
    exact ⟨L, vs, rfl, n, h1, h2, repL_map (fun p o n hp => ⟨fun z => n (s p z), hp⟩) ds vs h3⟩
  | dcT ks ds =>
    obtain ⟨vs, h1, h2, h3⟩ := h
    simp only [rep]
    exact ⟨L, vs, rfl, n, h1, h2, repL_map (fun p o n hp => ⟨fun z => n (s p z), hp⟩) ds vs h3⟩
  | v _ => exact h.elim
  | tup _ => exact h.elim
  | ins _ _ _ => exact h.elim
/-- a new thing of one's own -/
theorem wd_cell {o : HO} (w : Wd ms ps [] H0 H) (nl : H L = none) : Wd (L :: ms) ps [] H0 (upd H L o) := by
  have w1 := w.ret0 (Ext.new (o := o) nl)
  refine ⟨w1.kp, w1.grow, fun m h => ?_, w1.pot, fun a h => List.mem_cons_of_mem _ (w.pm a h), fun _ h => absurd h List.not_mem_nil⟩
  rcases List.mem_cons.mp h with rfl | h
  · rw [upd_same]
    exact fun z => nomatch z
  · exact w1.tr m h
theorem pot_new (w : Wd ms ps [] H0 H) (nl : H L = none) : L ∉ ps := fun z => by
  obtain ⟨i, j, h, _⟩ := w.pot L z
  rw [nl] at h
  cases h
theorem nm_new (w : Wd ms ps [] H0 H) (nl : H L = none) : L ∉ ms := fun z => w.tr L z nl
theorem mo_newL (w : Wd ms ps [] H0 H) (nl : H L = none) (r : repL ms H ds vs) : MutO (L :: ms) ps H0 (upd H L (.lst vs)) L (.lst ds) :=
  ⟨List.mem_cons_self, pot_new w nl, wd_none w nl, vs, upd_same, repL_map (fun p o n hp => ⟨fun z => by
    rcases List.mem_cons.mp z with z | z
    · exact ne_of_none hp nl z
    · exact n z, by rw [upd_ne (ne_of_none hp nl)]; exact hp⟩) _ _ r⟩
theorem mo_newD {ks : List Key} (w : Wd ms ps [] H0 H) (nl : H L = none) (hl : ks.length = vs.length) (r : repL ms H ds vs) : MutO (L :: ms) ps H0 (upd H L (.dK (ks.zip vs))) L (.dct ks ds) :=
  ⟨List.mem_cons_self, pot_new w nl, wd_none w nl, vs, upd_same, hl, repL_map (fun p o n hp => ⟨fun z => by
    rcases List.mem_cons.mp z with z | z
    · exact ne_of_none hp nl z
    · exact n z, by rw [upd_ne (ne_of_none hp nl)]; exact hp⟩) _ _ r⟩
/-- told anew -/
theorem wd_put {o : HO} (w : Wd ms ps [] H0 H) (m : MutO ms ps H0 H L d) : Wd ms ps [] H0 (upd H L o) := by
  refine ⟨fun a o' n h => ?_, fun a h => ?_, fun a h => ?_, fun a h => ?_, w.pm, fun _ h => absurd h List.not_mem_nil⟩
  · rw [upd_ne (ne_of_none h m.h0)]
    exact w.kp a o' n h
  · by_cases e : a = L
    · rw [e, upd_same]
      exact fun z => nomatch z
    · rw [upd_ne e]
      exact w.grow a h
  · by_cases e : a = L
    · rw [e, upd_same]
      exact fun z => nomatch z
    · rw [upd_ne e]
      exact w.tr a h
  · obtain ⟨i, j, h1, h3⟩ := w.pot a h
    exact ⟨i, j, by rw [upd_ne (fun z => m.hp (by rw [← z]; exact h))]; exact h1, h3⟩
theorem mo_setL (m : MutO ms ps H0 H L d) (r : repL ms H ds vs) : MutO ms ps H0 (upd H L (.lst vs)) L (.lst ds) :=
  ⟨m.im, m.hp, m.h0, vs, upd_same, repL_put m.im r⟩
theorem mo_appU {P : Addr → List V → V → Prop} (m : MutO ms ps H0 H L (.lst ds)) (hl : ds.length < 16777216) (k : ∀ vs, repL ms H ds vs → P L vs u) :
    ∃ (l : Addr) (xs : List V) (y : V), V.ref L = .ref l ∧ [u] = [y] ∧ H l = some (.lst xs) ∧ xs.length < sizeLine ∧ P l xs y := by
  obtain ⟨vs, h1, h2⟩ := m.val
  refine ⟨L, vs, u, rfl, rfl, h1, ?_, k vs h2⟩
  rw [← repL_len h2, sizeLine_eq]
  exact hl
theorem mo_tyL (m : MutO ms ps H0 H L (.lst ds)) : tyV K "list" (.ref L) H := by
  obtain ⟨vs, h1, h2⟩ := m.val
  exact .inl ⟨rfl, vs, .inl (.inl h1)⟩
theorem mo_setU {α : Type} {e : α → D} {xs : List α} {k : Int} {v : V} {Q : Hp → Prop} (m : MutO ms ps H0 H L (.lst (xs.map e))) (h0 : 0 ≤ k) (hj : k.toNat < xs.length)
    (kk : ∀ vs, repL ms H (xs.map e) vs → Q (upd H L (.lst (vs.set k.toNat v)))) : rSetL (.ref L) (.int k) v H Q := by
  obtain ⟨vs, h1, h2⟩ := m.val
  have hl := repL_len h2
  rw [List.length_map] at hl
  refine ⟨L, vs, k, k.toNat, rfl, rfl, h1, ?_, kk vs h2⟩
  unfold ixN
  rw [if_pos h0, if_pos (by omega)]
/-- a list of one's own, as the comprehension's end wants it -/
theorem mo_end {n : Nat} {Nx : Hp → Prop} (m : MutO ms ps H0 H L (.lst ds)) (hn : n < 100000) (hy : ds.length ≤ n) (h : ∀ vs, repL ms H ds vs → Nx (upd H L (.lst (vs ++ [u])))) :
    ∃ acc, H L = some (.lst acc) ∧ acc.length < sizeLine ∧ Nx (upd H L (.lst (acc ++ [u]))) := by
  obtain ⟨vs, h1, h2⟩ := m.val
  refine ⟨vs, h1, ?_, h vs h2⟩
  have q := repL_len h2
  have e : sizeLine = 16777216 := sizeLine_eq
  omega
theorem repL_snoc {α : Type} {e : α → D} {xs : List α} {y : α} (r : repL ms H (xs.map e) vs) (h : rep ms H (e y) u) : repL ms H ((xs ++ [y]).map e) (vs ++ [u]) := by
  rw [List.map_append]
  exact repL_app r (repL_one h)
theorem repL_cat {α : Type} {e : α → D} {xs ys : List α} {us : List V} (r : repL ms H (xs.map e) vs) (h : repL ms H (ys.map e) us) : repL ms H ((xs ++ ys).map e) (vs ++ us) := by
  rw [List.map_append]
  exact repL_app r h
end

/-! loops by any invariant -/
section
variable {α S : Type} {K : PySem.W.Frag} {H1 : Hp} {g : TG} {tb : TS} {D' : Ends} {σ : L2.St}
theorem for_rangeG {lo hi : Int} {N : Nat} {body : Int → S → (S → Prop) → Prop} {KM : S → Prop} (SI : S → L2.St → Hp → Prop) (s0 : S) (hN : N = (hi - lo).toNat) (hM : forC body (rangeI lo hi) s0 KM) (h0 : SI s0 σ H1)
    (hs : ∀ (x : Int) (s : S) (k : S → Prop) (σ : L2.St) (H : Hp), SI s σ H → body x s k → ∀ Nx : L2.St → Hp → Prop, (∀ s' σ' H', k s' → SI s' σ' H' → Nx σ' H') →
      g (.int x) σ H fun σ2 H2 => tb { D' with nx := Nx, ct := Nx, bk := D'.nx } σ2 H2)
    (hd : ∀ s σ H, KM s → SI s σ H → D'.nx σ H) :
    ∃ W : Nat → Nat → L2.St → Hp → Prop, (∃ m, W 0 m σ H1) ∧ ∀ i m σ H, W i m σ H →
      ((Itr lo N).stop i H ∧ D'.nx σ H) ∨ ((Itr lo N).go i H ∧ ∃ Nx : L2.St → Hp → Prop, (∀ σ' H', Nx σ' H' → ∃ m', m' < m ∧ W (i + 1) m' σ' H') ∧ ∀ x H', (Itr lo N).yld i H x H' → g x σ H' fun σ2 H2 => tb { D' with nx := Nx, ct := Nx, bk := D'.nx } σ2 H2) := by
  subst hN
  refine for_range (lo := lo) (n := (hi - lo).toNat) (D := D') (fun i σ H => ∃ s, SI s σ H ∧ forC body ((rangeI lo hi).drop i) s KM) ⟨s0, h0, hM⟩ (fun i σ H hi' ⟨s, si, q⟩ => ?_) (fun σ H ⟨s, si, q⟩ => ?_)
  · rw [drop_cons' (rangeI_get hi')] at q
    exact hs _ s _ σ H si q _ fun s' σ' H' hk si2 => ⟨s', si2, hk⟩
  · rw [List.drop_of_length_le (by rw [rangeI_len]; exact Nat.le_refl _)] at q
    exact hd s σ H q si
theorem for_listG {items : List α} {e : α → D} {ms : List Addr} {a : Addr} {xs : List V} {body : α → S → (S → Prop) → Prop} {KM : S → Prop} (SI : S → L2.St → Hp → Prop) (s0 : S) (an : a ∉ ms) (ha : H1 a = some (.lst xs)) (hx : repL ms H1 (items.map e) xs)
    (kp : ∀ s σ H, SI s σ H → Keep ms H1 H) (hM : forC body items s0 KM) (h0 : SI s0 σ H1)
    (hs : ∀ (x : α) (u : V) (s : S) (k : S → Prop) (σ : L2.St) (H : Hp), SI s σ H → rep ms H (e x) u → body x s k → ∀ Nx : L2.St → Hp → Prop, (∀ s' σ' H', k s' → SI s' σ' H' → Nx σ' H') →
      g u σ H fun σ2 H2 => tb { D' with nx := Nx, ct := Nx, bk := D'.nx } σ2 H2)
    (hd : ∀ s σ H, KM s → SI s σ H → D'.nx σ H) :
    ∃ W : Nat → Nat → L2.St → Hp → Prop, (∃ m, W 0 m σ H1) ∧ ∀ i m σ H, W i m σ H →
      ((Itl K a).stop i H ∧ D'.nx σ H) ∨ ((Itl K a).go i H ∧ ∃ Nx : L2.St → Hp → Prop, (∀ σ' H', Nx σ' H' → ∃ m', m' < m ∧ W (i + 1) m' σ' H') ∧ ∀ x H', (Itl K a).yld i H x H' → g x σ H' fun σ2 H2 => tb { D' with nx := Nx, ct := Nx, bk := D'.nx } σ2 H2) := by
  have hl : items.length = xs.length := by
    have := repL_len hx
    rwa [List.length_map] at this
  refine for_list (xs := xs) (D := D') (fun i σ H => ∃ s, SI s σ H ∧ forC body (items.drop i) s KM) ⟨s0, h0, hM⟩ (fun i σ H _ ⟨s, si, _⟩ => .inl (.inl (kp s σ H si a _ an ha))) (fun i x σ H hx' ⟨s, si, q⟩ => ?_) (fun σ H ⟨s, si, q⟩ => ?_)
  · have hi : i < xs.length := (List.getElem?_eq_some_iff.mp hx').1
    have hit : items[i]? = some (items[i]'(by omega)) := List.getElem?_eq_getElem (by omega)
    rw [drop_cons' hit] at q
    obtain ⟨v, hv, rv⟩ := repL_get (repL_keep (kp s σ H si) hx) (j := i) (d := e (items[i]'(by omega))) (by rw [List.getElem?_map, hit]; rfl)
    rw [hx'] at hv
    have ev : x = v := Option.some.inj hv
    subst ev
    exact hs _ x s _ σ H si rv q _ fun s' σ' H' hk si2 => ⟨s', si2, hk⟩
  · rw [List.drop_of_length_le (by omega)] at q
    exact hd s σ H q si
theorem while_G {c : TT} {fuel : Nat} {body : S → (S → Prop) → (S → Prop) → Prop} {KM : S → Prop} (SI : S → L2.St → Hp → Prop) (s0 : S) (hM : whileC body fuel s0 KM) (h0 : SI s0 σ H1)
    (hs : ∀ (s : S) (k1 k2 : S → Prop) (σ : L2.St) (H : Hp), SI s σ H → body s k1 k2 → ∀ (Nx : L2.St → Hp → Prop) (Ex : L2.St → Hp → Prop), (∀ s' σ' H', k1 s' → SI s' σ' H' → Nx σ' H') → (∀ s' σ' H', k2 s' → SI s' σ' H' → Ex σ' H') →
      c σ H fun b H1 => if b = true then tb { D' with nx := Nx, ct := Nx, bk := D'.nx } σ H1 else Ex σ H1)
    (hd : ∀ s σ H, KM s → SI s σ H → D'.nx σ H)
    (mono : ∀ σ H Q Q', (∀ b H1, Q b H1 → Q' b H1) → c σ H Q → c σ H Q') : tWhile c tb D' σ H1 := by
  refine ⟨fun m σ H => ∃ s, SI s σ H ∧ whileC body m s KM, ⟨fuel, s0, h0, hM⟩, ?_⟩
  rintro m σ H ⟨s, si, q⟩
  cases m with
  | zero => exact False.elim q
  | succ m =>
    refine mono _ _ _ _ (fun b H2 hb => ?_) (hs s _ _ σ H si q (fun σ' H' => ∃ s, SI s σ' H' ∧ whileC body m s KM) D'.nx (fun s' σ' H' hk si2 => ⟨s', si2, hk⟩) fun s' σ' H' hk si2 => hd s' σ' H' hk si2)
    cases b with
    | true => exact ⟨_, fun σ' H' p => ⟨m, Nat.lt_succ_self m, p⟩, hb⟩
    | false => exact hb
end

/-! comprehensions by any invariant -/
section
variable {α β : Type} {K : PySem.W.Frag} {H1 H2 : Hp} {g : TG} {tt : TT} {te : TE} {vl : List Nat} {σ : L2.St} {Qd : Hp → Prop} {L : Addr}
/-- one turn -/
abbrev Turn (g : TG) (tt : TT) (te : TE) (vl : List Nat) (σ : L2.St) (L : Addr) (u : V) (H : Hp) (Nx : Hp → Prop) : Prop :=
  g u (wipe σ vl) H fun σ2 H2 => wipe σ2 vl = wipe σ vl ∧ tt σ2 H2 fun b H3 => if b = true then te σ2 H3 fun y H4 => ∃ acc, H4 L = some (.lst acc) ∧ acc.length < sizeLine ∧ Nx (upd H4 L (.lst (acc ++ [y]))) else Nx H3
theorem lc_rangeG {lo hi : Int} {N : Nat} {body : Int → (β → Prop) → Prop} {KM : List β → Prop} (SI : Nat → List β → Hp → Prop) (hN : N = (hi - lo).toNat) (hM : (rangeI lo hi).length < 100000 ∧ mapC body (rangeI lo hi) [] KM) (h0 : SI 0 [] (upd H1 L (.lst [])))
    (hs : ∀ (x : Int) (n : Nat) (ys : List β) (k : β → Prop) (H : Hp), n < 100000 → SI n ys H → body x k → ∀ Nx : Hp → Prop, (∀ y H', k y → SI (n + 1) (ys ++ [y]) H' → Nx H') → Turn g tt te vl σ L (.int x) H Nx)
    (hd : ∀ n ys H, KM ys → SI n ys H → Qd H) :
    ∃ W : Nat → Nat → Hp → Prop, (∃ m, W 0 m (upd H1 L (.lst []))) ∧ ∀ i m H, W i m H →
      ((Itr lo N).stop i H ∧ Qd H) ∨ ((Itr lo N).go i H ∧ ∃ Nx : Hp → Prop, (∀ H', Nx H' → ∃ m', m' < m ∧ W (i + 1) m' H') ∧ ∀ x H', (Itr lo N).yld i H x H' → g x (wipe σ vl) H' fun σ2 H2 => wipe σ2 vl = wipe σ vl ∧ tt σ2 H2 fun b H3 =>
        if b = true then te σ2 H3 fun y H4 => ∃ acc, H4 L = some (.lst acc) ∧ acc.length < sizeLine ∧ Nx (upd H4 L (.lst (acc ++ [y]))) else Nx H3) := by
  obtain ⟨hn, hM⟩ := hM
  subst hN
  rw [rangeI_len] at hn
  refine ⟨fun i m H => m = (hi - lo).toNat - i ∧ i ≤ (hi - lo).toNat ∧ ∃ ys, SI i ys H ∧ mapC body ((rangeI lo hi).drop i) ys KM, ⟨_, rfl, Nat.zero_le _, [], h0, hM⟩, ?_⟩
  rintro i m H ⟨rfl, hi', ys, T, q⟩
  by_cases hlt : i < (hi - lo).toNat
  · refine .inr ⟨hlt, fun H' => i + 1 ≤ (hi - lo).toNat ∧ ∃ ys, SI (i + 1) ys H' ∧ mapC body ((rangeI lo hi).drop (i + 1)) ys KM, fun H' p' => ⟨_, by omega, rfl, p'⟩, fun x H' y => ?_⟩
    obtain ⟨e, y⟩ := y
    subst e y
    rw [drop_cons' (rangeI_get hlt)] at q
    exact hs _ i ys _ H' (by omega) T q _ fun y H' k T' => ⟨hlt, _, T', k⟩
  · have e : i = (hi - lo).toNat := by omega
    refine .inl ⟨by rw [e]; exact Nat.le_refl _, ?_⟩
    rw [List.drop_of_length_le (by rw [rangeI_len]; omega)] at q
    exact hd _ ys H q T
theorem lf_rangeG {lo hi : Int} {N : Nat} {body : Int → (Option β → Prop) → Prop} {KM : List β → Prop} (SI : Nat → List β → Hp → Prop) (hN : N = (hi - lo).toNat) (hM : (rangeI lo hi).length < 100000 ∧ filC body (rangeI lo hi) [] KM) (h0 : SI 0 [] (upd H1 L (.lst [])))
    (hs : ∀ (x : Int) (n : Nat) (ys : List β) (k : Option β → Prop) (H : Hp), n < 100000 → SI n ys H → body x k → ∀ Nx : Hp → Prop, (∀ y H', k (some y) → SI (n + 1) (ys ++ [y]) H' → Nx H') → (∀ H', k none → SI (n + 1) ys H' → Nx H') → Turn g tt te vl σ L (.int x) H Nx)
    (hd : ∀ n ys H, KM ys → SI n ys H → Qd H) :
    ∃ W : Nat → Nat → Hp → Prop, (∃ m, W 0 m (upd H1 L (.lst []))) ∧ ∀ i m H, W i m H →
      ((Itr lo N).stop i H ∧ Qd H) ∨ ((Itr lo N).go i H ∧ ∃ Nx : Hp → Prop, (∀ H', Nx H' → ∃ m', m' < m ∧ W (i + 1) m' H') ∧ ∀ x H', (Itr lo N).yld i H x H' → g x (wipe σ vl) H' fun σ2 H2 => wipe σ2 vl = wipe σ vl ∧ tt σ2 H2 fun b H3 =>
        if b = true then te σ2 H3 fun y H4 => ∃ acc, H4 L = some (.lst acc) ∧ acc.length < sizeLine ∧ Nx (upd H4 L (.lst (acc ++ [y]))) else Nx H3) := by
  obtain ⟨hn, hM⟩ := hM
  subst hN
  rw [rangeI_len] at hn
  refine ⟨fun i m H => m = (hi - lo).toNat - i ∧ i ≤ (hi - lo).toNat ∧ ∃ ys, SI i ys H ∧ filC body ((rangeI lo hi).drop i) ys KM, ⟨_, rfl, Nat.zero_le _, [], h0, hM⟩, ?_⟩
  rintro i m H ⟨rfl, hi', ys, T, q⟩
  by_cases hlt : i < (hi - lo).toNat
  · refine .inr ⟨hlt, fun H' => i + 1 ≤ (hi - lo).toNat ∧ ∃ ys, SI (i + 1) ys H' ∧ filC body ((rangeI lo hi).drop (i + 1)) ys KM, fun H' p' => ⟨_, by omega, rfl, p'⟩, fun x H' y => ?_⟩
    obtain ⟨e, y⟩ := y
    subst e y
    rw [drop_cons' (rangeI_get hlt)] at q
    exact hs _ i ys _ H' (by omega) T q _ (fun y H' k T' => ⟨hlt, _, T', k⟩) fun H' k T' => ⟨hlt, _, T', k⟩
  · have e : i = (hi - lo).toNat := by omega
    refine .inl ⟨by rw [e]; exact Nat.le_refl _, ?_⟩
    rw [List.drop_of_length_le (by rw [rangeI_len]; omega)] at q
    exact hd _ ys H q T
theorem lc_strG {z : Str} {body : Str → (β → Prop) → Prop} {KM : List β → Prop} (SI : Nat → List β → Hp → Prop) (hM : (signs z).length < 100000 ∧ mapC body (signs z) [] KM) (h0 : SI 0 [] (upd H1 L (.lst [])))
    (hs : ∀ (x : Str) (n : Nat) (ys : List β) (k : β → Prop) (H : Hp), n < 100000 → SI n ys H → body x k → ∀ Nx : Hp → Prop, (∀ y H', k y → SI (n + 1) (ys ++ [y]) H' → Nx H') → Turn g tt te vl σ L (.str x) H Nx)
    (hd : ∀ n ys H, KM ys → SI n ys H → Qd H) :
    ∃ W : Nat → Nat → Hp → Prop, (∃ m, W 0 m (upd H1 L (.lst []))) ∧ ∀ i m H, W i m H →
      ((Its z).stop i H ∧ Qd H) ∨ ((Its z).go i H ∧ ∃ Nx : Hp → Prop, (∀ H', Nx H' → ∃ m', m' < m ∧ W (i + 1) m' H') ∧ ∀ x H', (Its z).yld i H x H' → g x (wipe σ vl) H' fun σ2 H2 => wipe σ2 vl = wipe σ vl ∧ tt σ2 H2 fun b H3 =>
        if b = true then te σ2 H3 fun y H4 => ∃ acc, H4 L = some (.lst acc) ∧ acc.length < sizeLine ∧ Nx (upd H4 L (.lst (acc ++ [y]))) else Nx H3) := by
  obtain ⟨hn, hM⟩ := hM
  rw [signs_len] at hn
  refine ⟨fun i m H => m = z.cps.size - i ∧ i ≤ z.cps.size ∧ ∃ ys, SI i ys H ∧ mapC body ((signs z).drop i) ys KM, ⟨_, rfl, Nat.zero_le _, [], h0, hM⟩, ?_⟩
  rintro i m H ⟨rfl, hi', ys, T, q⟩
  by_cases hlt : i < z.cps.size
  · refine .inr ⟨hlt, fun H' => i + 1 ≤ z.cps.size ∧ ∃ ys, SI (i + 1) ys H' ∧ mapC body ((signs z).drop (i + 1)) ys KM, fun H' p' => ⟨_, by omega, rfl, p'⟩, fun x H' y => ?_⟩
    obtain ⟨e, c, hc, y⟩ := y
    subst e y
    rw [drop_cons' (signs_get hc)] at q
    exact hs _ i ys _ H' (by omega) T q _ fun y H' k T' => ⟨hlt, _, T', k⟩
  · have e : i = z.cps.size := by omega
    refine .inl ⟨by rw [e]; exact Nat.le_refl _, ?_⟩
    rw [List.drop_of_length_le (by rw [signs_len]; omega)] at q
    exact hd _ ys H q T
/-- over a list; the items stand outside what changes -/
theorem lc_listG {items : List α} {e : α → D} {ms : List Addr} {a : Addr} {xs : List V} {body : α → (β → Prop) → Prop} {KM : List β → Prop} (SI : Nat → List β → Hp → Prop) (an : a ∉ ms) (ha : H1 a = some (.lst xs)) (hx : repL ms H1 (items.map e) xs) (nl : H1 L = none)
    (kp : ∀ n ys H, SI n ys H → Keep (L :: ms) H1 H) (hM : items.length < 100000 ∧ mapC body items [] KM) (h0 : SI 0 [] (upd H1 L (.lst [])))
    (hs : ∀ (x : α) (u : V) (n : Nat) (ys : List β) (k : β → Prop) (H : Hp), n < 100000 → SI n ys H → rep (L :: ms) H (e x) u → body x k → ∀ Nx : Hp → Prop, (∀ y H', k y → SI (n + 1) (ys ++ [y]) H' → Nx H') → Turn g tt te vl σ L u H Nx)
    (hd : ∀ n ys H, KM ys → SI n ys H → Qd H) :
    ∃ W : Nat → Nat → Hp → Prop, (∃ m, W 0 m (upd H1 L (.lst []))) ∧ ∀ i m H, W i m H →
      ((Itl K a).stop i H ∧ Qd H) ∨ ((Itl K a).go i H ∧ ∃ Nx : Hp → Prop, (∀ H', Nx H' → ∃ m', m' < m ∧ W (i + 1) m' H') ∧ ∀ x H', (Itl K a).yld i H x H' → g x (wipe σ vl) H' fun σ2 H2 => wipe σ2 vl = wipe σ vl ∧ tt σ2 H2 fun b H3 =>
        if b = true then te σ2 H3 fun y H4 => ∃ acc, H4 L = some (.lst acc) ∧ acc.length < sizeLine ∧ Nx (upd H4 L (.lst (acc ++ [y]))) else Nx H3) := by
  obtain ⟨hn, hM⟩ := hM
  have hl : items.length = xs.length := by
    have := repL_len hx
    rwa [List.length_map] at this
  have aM : a ∉ L :: ms := fun z => by
    rcases List.mem_cons.mp z with z | z
    · exact ne_of_none ha nl z
    · exact an z
  have hx1 : repL (L :: ms) H1 (items.map e) xs := repL_new nl hx
  refine ⟨fun i m H => m = xs.length - i ∧ i ≤ xs.length ∧ ∃ ys, SI i ys H ∧ mapC body (items.drop i) ys KM, ⟨_, rfl, Nat.zero_le _, [], h0, hM⟩, ?_⟩
  rintro i m H ⟨rfl, hi', ys, T, q⟩
  have hA : H a = some (.lst xs) := kp i ys H T a _ aM ha
  by_cases hlt : i < xs.length
  · refine .inr ⟨⟨xs, xs[i], .inl (.inl hA), by simp [hlt]⟩, fun H' => i + 1 ≤ xs.length ∧ ∃ ys, SI (i + 1) ys H' ∧ mapC body (items.drop (i + 1)) ys KM, fun H' p' => ⟨_, by omega, rfl, p'⟩, fun x H' y => ?_⟩
    obtain ⟨e1, y⟩ := y
    subst e1
    have hxi := y xs (.inl (.inl hA))
    have hit : items[i]? = some (items[i]'(by omega)) := List.getElem?_eq_getElem (by omega)
    rw [drop_cons' hit] at q
    obtain ⟨v, hv, rv⟩ := repL_get (repL_keep (kp i ys H' T) hx1) (j := i) (d := e (items[i]'(by omega))) (by rw [List.getElem?_map, hit]; rfl)
    rw [hxi] at hv
    have ev : x = v := Option.some.inj hv
    subst ev
    exact hs _ x i ys _ H' (by omega) T rv q _ fun y H'' k T' => ⟨hlt, _, T', k⟩
  · refine .inl ⟨⟨xs, .inl (.inl hA), by omega⟩, ?_⟩
    rw [List.drop_of_length_le (by omega)] at q
    exact hd _ ys H q T
theorem lf_listG {items : List α} {e : α → D} {ms : List Addr} {a : Addr} {xs : List V} {body : α → (Option β → Prop) → Prop} {KM : List β → Prop} (SI : Nat → List β → Hp → Prop) (an : a ∉ ms) (ha : H1 a = some (.lst xs)) (hx : repL ms H1 (items.map e) xs) (nl : H1 L = none)
    (kp : ∀ n ys H, SI n ys H → Keep (L :: ms) H1 H) (hM : items.length < 100000 ∧ filC body items [] KM) (h0 : SI 0 [] (upd H1 L (.lst [])))
    (hs : ∀ (x : α) (u : V) (n : Nat) (ys : List β) (k : Option β → Prop) (H : Hp), n < 100000 → SI n ys H → rep (L :: ms) H (e x) u → body x k → ∀ Nx : Hp → Prop, (∀ y H', k (some y) → SI (n + 1) (ys ++ [y]) H' → Nx H') → (∀ H', k none → SI (n + 1) ys H' → Nx H') → Turn g tt te vl σ L u H Nx)
    (hd : ∀ n ys H, KM ys → SI n ys H → Qd H) :
    ∃ W : Nat → Nat → Hp → Prop, (∃ m, W 0 m (upd H1 L (.lst []))) ∧ ∀ i m H, W i m H →
      ((Itl K a).stop i H ∧ Qd H) ∨ ((Itl K a).go i H ∧ ∃ Nx : Hp → Prop, (∀ H', Nx H' → ∃ m', m' < m ∧ W (i + 1) m' H') ∧ ∀ x H', (Itl K a).yld i H x H' → g x (wipe σ vl) H' fun σ2 H2 => wipe σ2 vl = wipe σ vl ∧ tt σ2 H2 fun b H3 =>
        if b = true then te σ2 H3 fun y H4 => ∃ acc, H4 L = some (.lst acc) ∧ acc.length < sizeLine ∧ Nx (upd H4 L (.lst (acc ++ [y]))) else Nx H3) := by
  obtain ⟨hn, hM⟩ := hM
  have hl : items.length = xs.length := by
    have := repL_len hx
    rwa [List.length_map] at this
  have aM : a ∉ L :: ms := fun z => by
    rcases List.mem_cons.mp z with z | z
    · exact ne_of_none ha nl z
    · exact an z
  have hx1 : repL (L :: ms) H1 (items.map e) xs := repL_new nl hx
  refine ⟨fun i m H => m = xs.length - i ∧ i ≤ xs.length ∧ ∃ ys, SI i ys H ∧ filC body (items.drop i) ys KM, ⟨_, rfl, Nat.zero_le _, [], h0, hM⟩, ?_⟩
  rintro i m H ⟨rfl, hi', ys, T, q⟩
  have hA : H a = some (.lst xs) := kp i ys H T a _ aM ha
  by_cases hlt : i < xs.length
  · refine .inr ⟨⟨xs, xs[i], .inl (.inl hA), by simp [hlt]⟩, fun H' => i + 1 ≤ xs.length ∧ ∃ ys, SI (i + 1) ys H' ∧ filC body (items.drop (i + 1)) ys KM, fun H' p' => ⟨_, by omega, rfl, p'⟩, fun x H' y => ?_⟩
    obtain ⟨e1, y⟩ := y
    subst e1
    have hxi := y xs (.inl (.inl hA))
    have hit : items[i]? = some (items[i]'(by omega)) := List.getElem?_eq_getElem (by omega)
    rw [drop_cons' hit] at q
    obtain ⟨v, hv, rv⟩ := repL_get (repL_keep (kp i ys H' T) hx1) (j := i) (d := e (items[i]'(by omega))) (by rw [List.getElem?_map, hit]; rfl)
    rw [hxi] at hv
    have ev : x = v := Option.some.inj hv
    subst ev
    exact hs _ x i ys _ H' (by omega) T rv q _ (fun y H'' k T' => ⟨hlt, _, T', k⟩) fun H'' k T' => ⟨hlt, _, T', k⟩
  · refine .inl ⟨⟨xs, .inl (.inl hA), by omega⟩, ?_⟩
    rw [List.drop_of_length_le (by omega)] at q
    exact hd _ ys H q T
end
end Rx
namespace Rx
open PySem PySem.Spec PyProof.Rows L2
/-! a thing of one's own is let go -/
structure Drop (ms : List Addr) (L : Addr) (ms' : List Addr) : Prop where
  sub : ∀ a ∈ ms', a ∈ ms
  ex : ∀ a ∈ ms, a ∈ ms' ∨ a = L
theorem dr_here {L : Addr} {ms : List Addr} : Drop (L :: ms) L ms := ⟨fun _ h => List.mem_cons_of_mem _ h, fun a h => (List.mem_cons.mp h).elim .inr .inl⟩
theorem dr_cons {L x : Addr} {ms ms' : List Addr} (d : Drop ms L ms') : Drop (x :: ms) L (x :: ms') :=
  ⟨fun a h => (List.mem_cons.mp h).elim (fun e => by rw [e]; exact List.mem_cons_self) fun h => List.mem_cons_of_mem _ (d.sub a h), fun a h => (List.mem_cons.mp h).elim (fun e => .inl (by rw [e]; exact List.mem_cons_self)) fun h => (d.ex a h).imp (List.mem_cons_of_mem _) id⟩
theorem nm_cons {L x : Addr} {ms : List Addr} (ne : L ≠ x) (n : L ∉ ms) : L ∉ x :: ms := fun z => (List.mem_cons.mp z).elim ne n
section
variable {K : PySem.W.Frag} {ms ms' ps : List Addr} {H0 H H' H1 : Hp} {L L' : Addr} {d d' : D} {ds : List D} {u x : V} {vs : List V}
theorem nm_dr (dr : Drop ms L ms') (n : L' ∉ ms) : L' ∉ ms' := fun z => n (dr.sub _ z)
theorem keep_dr (dr : Drop ms L ms') (n : H1 L = none) (k : Keep ms H1 H) : Keep ms' H1 H := fun a o na e => k a o (fun z => by
  rcases dr.ex a z with z | z
  · exact na z
  · rw [z, n] at e
    cases e) e
theorem wd_dr (dr : Drop ms L ms') (hp : L ∉ ps) (w : Wd ms ps [] H0 H) : Wd ms' ps [] H0 H := wd_sub dr.sub (fun a h => (dr.ex a (w.pm a h)).elim id fun e => absurd (by rw [← e]; exact h) hp) w
theorem rep_dr (dr : Drop ms L ms') (h : rep ms H d u) : rep ms' H d u := rep_sub dr.sub h
theorem repL_dr (dr : Drop ms L ms') (h : repL ms H ds vs) : repL ms' H ds vs := repL_map (fun p o n hp => ⟨fun z => n (dr.sub p z), hp⟩) ds vs h
theorem mo_dr (dr : Drop ms L ms') (ne : L' ≠ L) (m : MutO ms ps H0 H L' d) : MutO ms' ps H0 H L' d := mo_sub dr.sub ((dr.ex _ m.im).elim id fun e => absurd e ne) m
theorem mo_rep_dr (dr : Drop ms L ms') (n : L ∉ ms') (m : MutO ms ps H0 H L d) : rep ms' H d (.ref L) := mo_rep n dr.sub m
mutual
def noM : D → Bool
  | .v _ => true
  | .lst _ => false
  | .tup ds => noMs ds
  | .ins _ _ ds => noMs ds
  | .dct _ _ => false
  | .dcT _ _ => false
def noMs : List D → Bool
  | [] => true
  | d :: ds => noM d && noMs ds
end
def isMo : Option HO → Prop
  | some (.lst _) => True
  | some (.dK _) => True
  | some (.dT _) => True
  | _ => False
theorem MutO.isMo (m : MutO ms ps H0 H L d) : isMo (H L) := by
  have h := m.val
  cases d with
  | lst ds =>
    rw [h.choose_spec.1]
    trivial
  | dct ks ds =>
    rw [h.choose_spec.1]
    trivial
  | dcT ks ds =>
    rw [h.choose_spec.1]
    trivial
  | v _ => exact h.elim
  | tup _ => exact h.elim
  | ins _ _ _ => exact h.elim
mutual
theorem rep_liftO (dr : Drop ms L ms') (hL : Rx.isMo (H L)) : ∀ (d : D) (u : V), noM d = true → rep ms' H d u → rep ms H d u
  | .v x, u, _, h => by
    simp only [rep] at h ⊢
    exact h
  | .lst ds, u, n, h => by
    simp only [noM] at n
    cases n
  | .dct _ ds, u, n, h => by
    simp only [noM] at n
    cases n
  | .dcT _ ds, u, n, h => by
    simp only [noM] at n
    cases n
  | .tup ds, u, n, h => by
    simp only [noM] at n
    simp only [rep] at h ⊢
    obtain ⟨p, us, e, np, hp, hl⟩ := h
    refine ⟨p, us, e, fun z => ?_, hp, repL_liftO dr hL ds us n hl⟩
    rcases dr.ex p z with z | z
    · exact np z
    · rw [← z, hp] at hL
      exact hL
  | .ins C ns ds, u, n, h => by
    simp only [noM] at n
    simp only [rep] at h ⊢
    obtain ⟨p, dx, us, e, np, hp, hn, hl⟩ := h
    refine ⟨p, dx, us, e, fun z => ?_, hp, hn, repL_liftO dr hL ds us n hl⟩
    rcases dr.ex p z with z | z
    · exact np z
    · rw [← z, hp] at hL
      exact hL
theorem repL_liftO (dr : Drop ms L ms') (hL : Rx.isMo (H L)) : ∀ (ds : List D) (us : List V), noMs ds = true → repL ms' H ds us → repL ms H ds us
  | [], us, _, h => by
    simp only [repL] at h ⊢
    exact h
  | d :: ds, us, n, h => by
    simp only [noMs, Bool.and_eq_true] at n
    simp only [repL] at h ⊢
    obtain ⟨u, ws, e, h1, h2⟩ := h
    exact ⟨u, ws, e, rep_liftO dr hL d u n.1 h1, repL_liftO dr hL ds ws n.2 h2⟩
end
theorem mo_ixN {α : Type} {e : α → D} {xs : List α} {i : Int} {y : α} {Q : VK} (m : MutO ms ps H0 H L (.lst (xs.map e))) (hi : atI xs i = some y) (k : ∀ v, rep ms H (e y) v → Q v H) : rIxL K (.ref L) (.int i) H Q := by
  obtain ⟨vs, hp, hr⟩ := m.val
  have hl := repL_len hr
  rw [List.length_map] at hl
  unfold atI at hi
  cases hx : ixN xs.length i with
  | none =>
    rw [hx] at hi
    cases hi
  | some j =>
    rw [hx] at hi
    have hi' : xs[j]? = some y := hi
    obtain ⟨v, hv, rv⟩ := repL_get (d := e y) hr (by rw [List.getElem?_map, hi']; rfl)
    refine ⟨L, vs, i, v, rfl, rfl, .inl (.inl hp), ?_, k v rv⟩
    unfold atI
    rw [← hl, hx]
    exact hv
theorem mo_len {α : Type} {e : α → D} {xs : List α} {P : Nat → Prop} (m : MutO ms ps H0 H L (.lst (xs.map e))) (k : P xs.length) : ∃ y n, [V.ref L] = [y] ∧ LenV K y H n ∧ P n := by
  obtain ⟨vs, hp, hr⟩ := m.val
  have hl := repL_len hr
  rw [List.length_map] at hl
  exact ⟨_, xs.length, rfl, .inl ⟨vs, .inl (.inl hp), hl⟩, k⟩
end
end Rx
namespace Rx
open PySem PySem.Spec PyProof.Rows L2
section
variable {K : PySem.W.Frag} {ms ms' ps : List Addr} {H0 H H' H1 : Hp} {L L' : Addr} {d d' : D} {ds : List D} {u x : V} {vs : List V}
theorem mo_extU {α : Type} {e : α → D} {ys : List α} {P : Addr → List V → List V → Prop} (m : MutO ms ps H0 H L (.lst ds)) (h : rep ms H (.lst (ys.map e)) x) (hl : ds.length + ys.length ≤ 16777216) (k : ∀ vs us, repL ms H ds vs → repL ms H (ys.map e) us → P L vs us) :
    ∃ (l b : Addr) (xs zs : List V), V.ref L = .ref l ∧ [x] = [.ref b] ∧ H l = some (.lst xs) ∧ H b = some (.lst zs) ∧ xs.length + zs.length ≤ sizeLine ∧ P l xs zs := by
  obtain ⟨vs, h1, h2⟩ := m.val
  simp only [rep] at h
  obtain ⟨p, us, rfl, _, hp, hr⟩ := h
  have a := repL_len h2
  have b := repL_len hr
  rw [List.length_map] at b
  refine ⟨L, p, vs, us, rfl, rfl, h1, hp, ?_, k vs us h2 hr⟩
  rw [sizeLine_eq]
  omega
theorem repL_erase {α : Type} {e : α → D} : ∀ {xs : List α} {vs : List V} (k : Nat), repL ms H (xs.map e) vs → repL ms H ((xs.eraseIdx k).map e) (vs.eraseIdx k)
  | [], vs, k, h => by
    have ev : vs = [] := by
      simp only [List.map_nil, repL] at h
      exact h
    subst ev
    simpa using h
  | x :: xs, vs, 0, h => by
    simp only [List.map_cons, repL] at h
    obtain ⟨u, us, rfl, _, h2⟩ := h
    exact h2
  | x :: xs, vs, k + 1, h => by
    simp only [List.map_cons, repL] at h
    obtain ⟨u, us, rfl, h1, h2⟩ := h
    exact repL_cons h1 (repL_erase k h2)
theorem mo_popU {α : Type} {e : α → D} {xs : List α} {i : Int} {y : α} {P : Addr → List V → Nat → V → Prop} (m : MutO ms ps H0 H L (.lst (xs.map e))) (h0 : 0 ≤ i) (hi : xs[i.toNat]? = some y) (hb : i < 2 ^ 63) (k : ∀ vs v, repL ms H (xs.map e) vs → rep ms H (e y) v → P L vs i.toNat v) :
    ∃ (l : Addr) (xs : List V) (i' : Int) (k : Nat) (y : V), V.ref L = .ref l ∧ [V.int i] = [.int i'] ∧ H l = some (.lst xs) ∧ -(2 ^ 63) ≤ i' ∧ i' < 2 ^ 63 ∧ seqIndex? i' xs.length = some k ∧ xs[k]? = some y ∧ P l xs k y := by
  obtain ⟨vs, h1, h2⟩ := m.val
  have hl := repL_len h2
  rw [List.length_map] at hl
  obtain ⟨v, hv, rv⟩ := repL_get (d := e y) h2 (by rw [List.getElem?_map, hi]; rfl)
  have lt := (List.getElem?_eq_some_iff.mp hi).1
  refine ⟨L, vs, i, i.toNat, v, rfl, rfl, h1, by omega, hb, ?_, hv, k vs v h2 rv⟩
  unfold seqIndex?
  first
    | (simp only []; split <;> first | rfl | (exfalso; omega))
    | (rw [if_neg (by omega), if_pos (by omega)])
    | (simp; omega)
end
/-! a comprehension that changes things: its state is carried -/
def mapS {α β S : Type} (body : α → S → (β → S → Prop) → Prop) : List α → List β → S → (List β → S → Prop) → Prop
  | [], acc, s, k => k acc s
  | x :: xs, acc, s, k => body x s fun y s' => mapS body xs (acc ++ [y]) s' k
section
variable {α β S : Type} {K : PySem.W.Frag} {H1 H2 : Hp} {g : TG} {tt : TT} {te : TE} {vl : List Nat} {σ : L2.St} {Qd : Hp → Prop} {L : Addr}
theorem lc_rangeS {lo hi : Int} {N : Nat} {body : Int → S → (β → S → Prop) → Prop} {KM : List β → S → Prop} (SI : Nat → List β → S → Hp → Prop) (s0 : S) (hN : N = (hi - lo).toNat) (hM : (rangeI lo hi).length < 100000 ∧ mapS body (rangeI lo hi) [] s0 KM) (h0 : SI 0 [] s0 (upd H1 L (.lst [])))
    (hs : ∀ (x : Int) (n : Nat) (ys : List β) (s : S) (k : β → S → Prop) (H : Hp), n < 100000 → SI n ys s H → body x s k → ∀ Nx : Hp → Prop, (∀ y s' H', k y s' → SI (n + 1) (ys ++ [y]) s' H' → Nx H') → Turn g tt te vl σ L (.int x) H Nx)
    (hd : ∀ n ys s H, KM ys s → SI n ys s H → Qd H) :
    ∃ W : Nat → Nat → Hp → Prop, (∃ m, W 0 m (upd H1 L (.lst []))) ∧ ∀ i m H, W i m H →
      ((Itr lo N).stop i H ∧ Qd H) ∨ ((Itr lo N).go i H ∧ ∃ Nx : Hp → Prop, (∀ H', Nx H' → ∃ m', m' < m ∧ W (i + 1) m' H') ∧ ∀ x H', (Itr lo N).yld i H x H' → g x (wipe σ vl) H' fun σ2 H2 => wipe σ2 vl = wipe σ vl ∧ tt σ2 H2 fun b H3 =>
        if b = true then te σ2 H3 fun y H4 => ∃ acc, H4 L = some (.lst acc) ∧ acc.length < sizeLine ∧ Nx (upd H4 L (.lst (acc ++ [y]))) else Nx H3) := by
  obtain ⟨hn, hM⟩ := hM
  subst hN
  rw [rangeI_len] at hn
  refine ⟨fun i m H => m = (hi - lo).toNat - i ∧ i ≤ (hi - lo).toNat ∧ ∃ ys s, SI i ys s H ∧ mapS body ((rangeI lo hi).drop i) ys s KM, ⟨_, rfl, Nat.zero_le _, [], s0, h0, hM⟩, ?_⟩
  rintro i m H ⟨rfl, hi', ys, s, T, q⟩
  by_cases hlt : i < (hi - lo).toNat
  · refine .inr ⟨hlt, fun H' => i + 1 ≤ (hi - lo).toNat ∧ ∃ ys s, SI (i + 1) ys s H' ∧ mapS body ((rangeI lo hi).drop (i + 1)) ys s KM, fun H' p' => ⟨_, by omega, rfl, p'⟩, fun x H' y => ?_⟩
    obtain ⟨e, y⟩ := y
    subst e y
    rw [drop_cons' (rangeI_get hlt)] at q
    exact hs _ i ys s _ H' (by omega) T q _ fun y s' H' k T' => ⟨hlt, _, _, T', k⟩
  · have e : i = (hi - lo).toNat := by omega
    refine .inl ⟨by rw [e]; exact Nat.le_refl _, ?_⟩
    rw [List.drop_of_length_le (by rw [rangeI_len]; omega)] at q
    exact hd _ ys s H q T
end
end Rx
namespace Rx
open PySem PySem.Spec PyProof.Rows L2
section
variable {ms : List Addr} {H : Hp} {x y : V}
theorem rep_catU {α : Type} {xs ys : List α} {e : α → D} {P : List V → List V → Prop} (h1 : rep ms H (.lst (xs.map e)) x) (h2 : rep ms H (.lst (ys.map e)) y) (hz : xs.length + ys.length ≤ sizeLine)
    (k : ∀ vs us, repL ms H (xs.map e) vs → repL ms H (ys.map e) us → P vs us) : ∃ p q vs us, x = .ref p ∧ y = .ref q ∧ H p = some (.lst vs) ∧ H q = some (.lst us) ∧ vs.length + us.length ≤ sizeLine ∧ P vs us := by
  simp only [rep] at h1 h2
  obtain ⟨p, vs, rfl, np, hp, r1⟩ := h1
  obtain ⟨q, us, rfl, nq, hq, r2⟩ := h2
  have l1 := repL_len r1
  have l2 := repL_len r2
  rw [List.length_map] at l1 l2
  exact ⟨p, q, vs, us, rfl, rfl, hp, hq, by rw [← l1, ← l2]; exact hz, k vs us r1 r2⟩
end
end Rx
namespace Rx
open PySem PySem.Spec PyProof.Rows L2
section
variable {K : PySem.W.Frag} {ms : List Addr} {H : Hp} {x y : V} {ds : List D} {vs : List V}
/-- what a list holds -/
theorem rep_lsU {P : List V → Prop} (h : rep ms H (.lst ds) x) (k : ∀ vs, repL ms H ds vs → P vs) : ∃ a xs, x = .ref a ∧ SqL K H a xs ∧ P xs := by
  simp only [rep] at h
  obtain ⟨p, vs, rfl, np, hp, hr⟩ := h
  exact ⟨p, vs, rfl, .inl (.inl hp), k vs hr⟩
theorem rep_tpU {P : List V → Prop} (h : rep ms H (.tup ds) x) (k : ∀ vs, repL ms H ds vs → P vs) : ∃ a xs, x = .ref a ∧ SqT K H a xs ∧ P xs := by
  simp only [rep] at h
  obtain ⟨p, vs, rfl, np, hp, hr⟩ := h
  exact ⟨p, vs, rfl, .inl (.inl hp), k vs hr⟩
theorem rep_iterT {ds : List D} {P : Addr → Prop} (h : rep ms H (.tup ds) x) (k : ∀ a xs, x = .ref a → a ∉ ms → H a = some (.tup xs) → repL ms H ds xs → P a) : ∃ a, x = .ref a ∧ (∃ xs, SqT K H a xs) ∧ P a := by
  simp only [rep] at h
  obtain ⟨p, vs, e, n, hp, hr⟩ := h
  exact ⟨p, e, ⟨vs, .inl (.inl hp)⟩, k p vs e n hp hr⟩
theorem repL_rev : ∀ {ds : List D} {vs : List V}, repL ms H ds vs → repL ms H ds.reverse vs.reverse
  | [], vs, h => by
    have e := repL_empty h
    subst e
    exact repL_nil
  | d :: ds, vs, h => by
    obtain ⟨u, us, rfl, h1, h2⟩ := repL_uncons h
    rw [List.reverse_cons, List.reverse_cons]
    exact repL_app (repL_rev h2) (repL_one h1)
theorem repL_revM {α : Type} {e : α → D} {xs : List α} (h : repL ms H (xs.map e) vs) : repL ms H (xs.reverse.map e) vs.reverse := by
  rw [List.map_reverse]
  exact repL_rev h
theorem repL_take : ∀ (n : Nat) {ds : List D} {vs : List V}, repL ms H ds vs → repL ms H (ds.take n) (vs.take n)
  | 0, _, _, _ => by
    rw [List.take_zero, List.take_zero]
    exact repL_nil
  | n + 1, [], vs, h => by
    have e := repL_empty h
    subst e
    exact repL_nil
  | n + 1, d :: ds, vs, h => by
    obtain ⟨u, us, rfl, h1, h2⟩ := repL_uncons h
    exact repL_cons h1 (repL_take n h2)
theorem repL_drop : ∀ (n : Nat) {ds : List D} {vs : List V}, repL ms H ds vs → repL ms H (ds.drop n) (vs.drop n)
  | 0, _, _, h => h
  | n + 1, [], vs, h => by
    have e := repL_empty h
    subst e
    exact repL_nil
  | n + 1, d :: ds, vs, h => by
    obtain ⟨u, us, rfl, h1, h2⟩ := repL_uncons h
    exact repL_drop n h2
/-- a slice -/
def cutM {α : Type} (xs : List α) (lo hi : Option Int) : List α := (xs.drop (HT.sIx xs.length 0 lo)).take (HT.sIx xs.length xs.length hi - HT.sIx xs.length 0 lo)
theorem repL_cut {α : Type} {e : α → D} {xs : List α} {lo hi : Option Int} (h : repL ms H (xs.map e) vs) : repL ms H ((cutM xs lo hi).map e) (cutV vs lo hi) := by
  have hl := repL_len h
  rw [List.length_map] at hl
  unfold cutM cutV
  rw [List.map_take, List.map_drop, hl]
  exact repL_take _ (repL_drop _ h)
end
/-! walks over tuples -/
section
variable {α β S : Type} {K : PySem.W.Frag} {H1 : Hp} {g : TG} {tt : TT} {te : TE} {vl : List Nat} {σ : L2.St} {Qd : Hp → Prop} {L : Addr}
theorem lc_tupG {items : List α} {e : α → D} {ms : List Addr} {a : Addr} {xs : List V} {body : α → (β → Prop) → Prop} {KM : List β → Prop} (SI : Nat → List β → Hp → Prop) (an : a ∉ ms) (ha : H1 a = some (.tup xs)) (hx : repL ms H1 (items.map e) xs) (nl : H1 L = none)
    (kp : ∀ n ys H, SI n ys H → Keep (L :: ms) H1 H) (hM : items.length < 100000 ∧ mapC body items [] KM) (h0 : SI 0 [] (upd H1 L (.lst [])))
    (hs : ∀ (x : α) (u : V) (n : Nat) (ys : List β) (k : β → Prop) (H : Hp), n < 100000 → SI n ys H → rep (L :: ms) H (e x) u → body x k → ∀ Nx : Hp → Prop, (∀ y H', k y → SI (n + 1) (ys ++ [y]) H' → Nx H') → Turn g tt te vl σ L u H Nx)
    (hd : ∀ n ys H, KM ys → SI n ys H → Qd H) :
    ∃ W : Nat → Nat → Hp → Prop, (∃ m, W 0 m (upd H1 L (.lst []))) ∧ ∀ i m H, W i m H →
      ((Itt K a).stop i H ∧ Qd H) ∨ ((Itt K a).go i H ∧ ∃ Nx : Hp → Prop, (∀ H', Nx H' → ∃ m', m' < m ∧ W (i + 1) m' H') ∧ ∀ x H', (Itt K a).yld i H x H' → g x (wipe σ vl) H' fun σ2 H2 => wipe σ2 vl = wipe σ vl ∧ tt σ2 H2 fun b H3 =>
        if b = true then te σ2 H3 fun y H4 => ∃ acc, H4 L = some (.lst acc) ∧ acc.length < sizeLine ∧ Nx (upd H4 L (.lst (acc ++ [y]))) else Nx H3) := by
  obtain ⟨hn, hM⟩ := hM
  have hl : items.length = xs.length := by
    have := repL_len hx
    rwa [List.length_map] at this
  have aM : a ∉ L :: ms := fun z => by
    rcases List.mem_cons.mp z with z | z
    · exact ne_of_none ha nl z
    · exact an z
  have hx1 : repL (L :: ms) H1 (items.map e) xs := repL_new nl hx
  refine ⟨fun i m H => m = xs.length - i ∧ i ≤ xs.length ∧ ∃ ys, SI i ys H ∧ mapC body (items.drop i) ys KM, ⟨_, rfl, Nat.zero_le _, [], h0, hM⟩, ?_⟩
  rintro i m H ⟨rfl, hi', ys, T, q⟩
  have hA : H a = some (.tup xs) := kp i ys H T a _ aM ha
  by_cases hlt : i < xs.length
  · refine .inr ⟨⟨xs, xs[i], .inl (.inl hA), by simp [hlt]⟩, fun H' => i + 1 ≤ xs.length ∧ ∃ ys, SI (i + 1) ys H' ∧ mapC body (items.drop (i + 1)) ys KM, fun H' p' => ⟨_, by omega, rfl, p'⟩, fun x H' y => ?_⟩
    obtain ⟨e1, y⟩ := y
    subst e1
    have hxi := y xs (.inl (.inl hA))
    have hit : items[i]? = some (items[i]'(by omega)) := List.getElem?_eq_getElem (by omega)
    rw [drop_cons' hit] at q
    obtain ⟨v, hv, rv⟩ := repL_get (repL_keep (kp i ys H' T) hx1) (j := i) (d := e (items[i]'(by omega))) (by rw [List.getElem?_map, hit]; rfl)
    rw [hxi] at hv
    have ev : x = v := Option.some.inj hv
    subst ev
    exact hs _ x i ys _ H' (by omega) T rv q _ fun y H'' k T' => ⟨hlt, _, T', k⟩
  · refine .inl ⟨⟨xs, .inl (.inl hA), by omega⟩, ?_⟩
    rw [List.drop_of_length_le (by omega)] at q
    exact hd _ ys H q T
end
end Rx
namespace Rx
open PySem PySem.Spec PyProof.Rows L2
/-! the same rules, their readings without the context -/
section
variable {X : Cx} {K : PySem.W.Frag}
theorem call_lenK (hK : X.K = K) : CallR X (.builtin "len") (fun xs H Q => ∃ x n, xs = [x] ∧ LenV K x H n ∧ Q (.int n) H) := by
  subst hK
  exact call_len
theorem call_isiK (hK : X.K = K) : CallR X (.builtin "isinstance") (rIsi K) := by
  subst hK
  exact call_isi
theorem sl_listK (hK : X.K = K) : SlR X (rSlL K) := by
  subst hK
  exact sl_list
theorem call_list_ofK (hK : X.K = K) : CallR X (.type "list") (fun xs H Q => ∃ p ys, xs = [.ref p] ∧ (SqL K H p ys ∨ SqT K H p ys) ∧ ∀ l, H l = none → Q (.ref l) (upd H l (.lst ys))) := by
  subst hK
  exact call_list_of
theorem cr_maxK (hK : X.K = K) (hc : X.calm = true) : CallR X (.builtin "max") (rMax K) := by
  subst hK
  exact cr_max hc
theorem cr_minK (hK : X.K = K) (hc : X.calm = true) : CallR X (.builtin "min") (rMin K) := by
  subst hK
  exact cr_min hc
theorem cr_anyK (hK : X.K = K) (hc : X.calm = true) : CallR X (.builtin "any") (rAny K) := by
  subst hK
  exact cr_any hc
theorem cr_allK (hK : X.K = K) (hc : X.calm = true) : CallR X (.builtin "all") (rAll K) := by
  subst hK
  exact cr_all hc
theorem op_eqDK (hK : X.K = K) (hu : X.A.units + 64 < cLine) : OpR X (compareOp .Eq) (rEqD K) := by
  subst hK
  exact op_eqD hu
theorem op_neDK (hK : X.K = K) (hu : X.A.units + 64 < cLine) : OpR X (compareOp .NotEq) (rNeD K) := by
  subst hK
  exact op_neD hu
theorem call_reprAK {k : Nat} (hK : X.K = K) (gu : X.A.guards = some []) (hr : Room k X.A) : CallR X (.builtin "repr") (rReprA K) := by
  subst hK
  exact call_reprA gu hr
theorem mt_lcountSK (hK : X.K = K) : MtR X "list.count" (rCntS K) := by
  subst hK
  exact mt_lcountS
end
end Rx
namespace Rx
open PySem PySem.Spec PyProof.Rows L2
section
variable {X : Cx} {K : PySem.W.Frag} {T name id : String} {o e : Expr} {es : List Expr} {r : V → List V → Hp → VK → Prop} {to : TE} {t : TA} {apos cpos : Pos}
theorem pe_bmK (hK : X.K = K) (pa : PlainAttrs T) (slot : Slot T name id) (hty : typeOf (.builtin id) = pure (.type "method_descriptor")) (hm : MtR X id r) (ho : PE X o to) (ha : PA X (e :: es) t)
    (hbase : attributeBase o name X.env (eval o X.env) = eval o X.env := by rfl)
    (hfew : ((backTo cpos (starEach (e :: es) X.env)).all (fun x => !x.1) && (backToKw cpos (keywordEach [] X.env)).all (fun x => x.1.isSome)
      && decide ((e :: es).length + ([] : List Keyword).length + (if ([] : List Keyword).isEmpty then 0 else 1) < 30)) = true := by rfl)
    (hline : (apos.endLine == cpos.line) = true := by rfl) (hs : starEach (e :: es) X.env = (false, eval e X.env) :: starEach es X.env := by rfl) (hplain : (backTo cpos (starEach es X.env)).any (·.1) = false := by rfl) :
    PE X (.Call (.Attribute o name apos) (e :: es) [] cpos) (tBM K T r to t) := by
  subst hK
  exact pe_bm pa slot hty hm ho ha hbase hfew hline hs hplain
end
end Rx
namespace Rx
open PySem PySem.Spec PyProof.Rows L2
section
variable {M : Model} {s : Shared} {K : PySem.W.Frag} {C : Addr}
theorem looksT {v : Value} {T : String} (h : s.TypeIs v T) : PySem.W.Looks M s.heap (typeOf v) (.type T) := fun A Q E s' k q => wpAny_typeOf (by
  cases v with
  | ref a =>
    obtain ⟨o, e, c⟩ := h
    exact ⟨o, k _ _ e, c⟩
  | _ => exact h) q
theorem sub_non : PySem.W.subIn K (.type "NoneType") (.ref C) = some false := by
  show ((fastBuiltinMro "NoneType").map _) = _
  rw [show fastBuiltinMro "NoneType" = some [.type "NoneType", .type "object"] by decide +kernel]
  simp
theorem sub_bool : PySem.W.subIn K (.type "bool") (.ref C) = some false := by
  show ((fastBuiltinMro "bool").map _) = _
  rw [show fastBuiltinMro "bool" = some [.type "bool", .type "int", .type "object"] by decide +kernel]
  simp
theorem sub_int : PySem.W.subIn K (.type "int") (.ref C) = some false := by
  show ((fastBuiltinMro "int").map _) = _
  rw [show fastBuiltinMro "int" = some [.type "int", .type "object"] by decide +kernel]
  simp
theorem sub_str : PySem.W.subIn K (.type "str") (.ref C) = some false := by
  show ((fastBuiltinMro "str").map _) = _
  rw [show fastBuiltinMro "str" = some [.type "str", .type "object"] by decide +kernel]
  simp
theorem sub_list : PySem.W.subIn K (.type "list") (.ref C) = some false := by
  show ((fastBuiltinMro "list").map _) = _
  rw [show fastBuiltinMro "list" = some [.type "list", .type "object"] by decide +kernel]
  simp
theorem sub_tuple : PySem.W.subIn K (.type "tuple") (.ref C) = some false := by
  show ((fastBuiltinMro "tuple").map _) = _
  rw [show fastBuiltinMro "tuple" = some [.type "tuple", .type "object"] by decide +kernel]
  simp
theorem sub_dict : PySem.W.subIn K (.type "dict") (.ref C) = some false := by
  show ((fastBuiltinMro "dict").map _) = _
  rw [show fastBuiltinMro "dict" = some [.type "dict", .type "object"] by decide +kernel]
  simp
theorem sub_ty {H : Hp} {x : V} {T : String} (t : TyB K H x T) (nb : ∀ b, x ≠ .byt b) : PySem.W.subIn K (.type T) (.ref C) = some false := by
  cases t with
  | non => exact sub_non
  | bl b => exact sub_bool
  | int i => exact sub_int
  | str z => exact sub_str
  | byt b => exact absurd rfl (nb b)
  | lst h => exact sub_list
  | tup h => exact sub_tuple
  | dK h => exact sub_dict
end
section
variable {M : Model} {prog : Program} {w : World} {A : Around} {E : Value → Shared → Prop} {s : Shared} {K : PySem.W.Frag} {x C : Addr} {uy : Value} {ox : Obj} {od : Option Obj}
theorem entry_objNeA {Q : Fin → Shared → Prop} (hu : A.units < cLine) (hcall : wpAny M A (callSpecialIfBound? (.ref x) (Str.ofString "__eq__") [uy]) (fun r s' => ∃ b, r = some (.bool b) ∧ Q (.done (.ret (.bool (!b)))) s') E s) :
    wpAny M A (Builtin.«object.__ne__» ⟨[.ref x, uy], []⟩) Q E s := by
  unfold Builtin.«object.__ne__»
  repeat (first
    | with_reducible refine wpAny_cRoomFor hu ?_
    | (refine wpAny_bind (m := callSpecialIfBound? (.ref x) (Str.ofString "__eq__") [uy])
        (wpAny_mono hcall (fun r s' hr => by
          obtain ⟨b, rfl, hq⟩ := hr
          repeat (first | exact hq | exact wpAny_pure hq | exact wpAny_truthy_bool hq | (refine wpAny_bind (m := truthy (.bool _)) (wpAny_truthy_bool ?_)) | wp_step)) fun _ _ e => e))
    | wp_step)
theorem call_objNeA {Q : Value → Shared → Prop} (X : K.In s.heap) (I : PySem.W.InstAt s.heap x ox C od) (hm : PySem.W.mroIn K C (.type "object") = some true) (hu : A.in1.units < cLine)
    (hcall : wpAny (model prog w) A.in1 (callSpecialIfBound? (.ref x) (Str.ofString "__eq__") [uy]) (fun r s' => ∃ b, r = some (.bool b) ∧ Q (.bool (!b)) s') E s) :
    wpAny (model prog w) A (call (.builtin "object.__ne__") [.ref x, uy]) Q E s := by
  refine wpAny_call (codeAny_call_builtin F.cmp_object.ne.plain F.cmpEntry_ne (PySem.W.check_slot F.cmpKind_ne F.cmpSplit_ne (I.type.andThen (PySem.W.looks_mroIn X hm)) (F.cmpArgs_ne _ _) (entry_objNeA hu (wpAny_mono hcall (fun r s' hr => ?_) fun _ _ e => e))))
  obtain ⟨b, rfl, hq⟩ := hr
  first | exact ⟨b, rfl, hq⟩ | exact ⟨b, rfl, wpAny_pure hq⟩
end
/-- not an instance -/
def noI : D → Bool
  | .v .non => true
  | .v (.bl _) => true
  | .v (.int _) => true
  | .v (.str _) => true
  | .v _ => false
  | .ins _ _ _ => false
  | .dcT _ _ => false
  | _ => true
theorem rep_TyB {K : PySem.W.Frag} {ms : List Addr} {H : Hp} {d : D} {u : V} (h : rep ms H d u) (n : noI d = true) : ∃ T, TyB K H u T ∧ (∀ b, u ≠ .byt b) ∧ TyX K H u (.type T) := by
  cases d with
  | v x =>
    obtain rfl := of_v h
    cases u <;> simp only [noI] at n
    · exact ⟨_, .non, (fun _ z => nomatch z), .base .non⟩
    · exact ⟨_, .bl _, (fun _ z => nomatch z), .base (.bl _)⟩
    · exact ⟨_, .int _, (fun _ z => nomatch z), .base (.int _)⟩
    · exact ⟨_, .str _, (fun _ z => nomatch z), .base (.str _)⟩
    all_goals cases n
  | lst ds =>
    simp only [rep] at h
    obtain ⟨p, vs, rfl, _, hp, _⟩ := h
    exact ⟨_, .lst (.inl (.inl hp)), (fun _ z => nomatch z), .base (.lst hp)⟩
  | tup ds =>
    simp only [rep] at h
    obtain ⟨p, vs, rfl, _, hp, _⟩ := h
    exact ⟨_, .tup (.inl (.inl hp)), (fun _ z => nomatch z), .base (.tup hp)⟩
  | dct ks ds =>
    simp only [rep] at h
    obtain ⟨p, vs, rfl, _, hp, _⟩ := h
    exact ⟨_, .dK hp, (fun _ z => nomatch z), .base (.dK hp)⟩
  | dcT _ _ => cases n
  | ins _ _ _ => cases n
/-- own == with any value that is no instance -/
def rOwnEqA (K : PySem.W.Frag) (C : Addr) (sp : Sp) (E : XK) : R2 := fun x y H Q => ∃ a dx fs T, x = .ref a ∧ H a = some (.ins C dx fs) ∧ TyB K H y T ∧ (∀ b, y ≠ .byt b) ∧ sp [x, y] H (fun v H' => ∃ r : Bool, v = .bl r ∧ Q v H') E
def rOwnNeA (K : PySem.W.Frag) (C : Addr) (sp : Sp) (E : XK) : R2 := fun x y H Q => ∃ a dx fs T, x = .ref a ∧ H a = some (.ins C dx fs) ∧ TyB K H y T ∧ (∀ b, y ≠ .byt b) ∧ sp [x, y] H (fun v H' => ∃ r : Bool, v = .bl r ∧ Q (.bl (!r)) H') E
theorem op_eqOwnA {X : Cx} {K : PySem.W.Frag} (hK : X.K = K) {n : Nat} {CX : CXT} {C f : Addr} {fd : FuncData} {ps : List Str} {sp : Sp} {E : XK} (F : FnOk X.prog X.w X.K X.mg X.base CX n f fd ps sp) (hr : Room n X.A)
    (o : OwnEq X.K C f) (hb : Binds X.K fd ps []) (hx : Passes CX X E) : OpR X (compareOp .Eq) (rOwnEqA K C sp E) := by
  subst hK
  intro pins s σ H x y v u Q I rx ry d
  show wpAny (model X.prog X.w) X.A (richCompare .Eq v u) (EP X pins σ Q) X.xe s
  obtain ⟨a, dx, fs, T, rfl, ha, ty, nb, hsp⟩ := d
  cases rx
  obtain ⟨mA, J, _⟩ := ins_get I.hok ha
  obtain ⟨od, J, _⟩ := J.look
  obtain ⟨m, hF⟩ := I.fr
  refine PySem.W.cmp_K (op := .Eq) (tb := .type T) hr.units0 hF I.ok.mod.kin J (looksT (ty.is I ry)) (by simp [PySem.W.notFirst, sub_ty ty nb]) o.hs o.hf ?_
  have hl := F.len _ _ _ _ hsp
  have r2 : Vals [V.ref a, y] [Value.ref a, u] := .cons rfl (.cons ry .nil)
  refine wpAny_call (codeAny_mono (F.run X.A X.stack s H ⟨[.ref a, u], []⟩ [.ref a, u] [.ref a, y] _ E hr I.env0 (by
    have := hb s [.ref a, u] I.kIn (by simpa using hl)
    simpa using this) r2 hsp) fun r s' hq => ?_)
  cases r with
  | error e => exact hx pins σ H s e s' I hq
  | ok fl =>
    cases fl with
    | ret w =>
      obtain ⟨z, H', I', rz, ⟨r, ez, q⟩⟩ := I.after hq
      subst ez
      cases (show w = Value.bool r from rz)
      exact ⟨.bl r, H', I', rfl, q⟩
    | next => exact False.elim hq
    | brk => exact False.elim hq
    | cont => exact False.elim hq
theorem op_neOwnA {X : Cx} {K : PySem.W.Frag} (hK : X.K = K) {n : Nat} {CX : CXT} {C f : Addr} {fd : FuncData} {ps : List Str} {sp : Sp} {E : XK} (F : FnOk X.prog X.w X.K X.mg X.base CX n f fd ps sp) (hr : Room (n + 1) X.A)
    (o : OwnEq X.K C f) (o' : OwnNe X.K C) (hb : Binds X.K fd ps []) (hx : Passes CX X E) : OpR X (compareOp .NotEq) (rOwnNeA K C sp E) := by
  subst hK
  intro pins s σ H x y v u Q I rx ry d
  show wpAny (model X.prog X.w) X.A (richCompare .NotEq v u) (EP X pins σ Q) X.xe s
  obtain ⟨a, dx, fs, T, rfl, ha, ty, nb, hsp⟩ := d
  cases rx
  obtain ⟨mA, J, _⟩ := ins_get I.hok ha
  obtain ⟨od, J, _⟩ := J.look
  have J' := looksT (M := model X.prog X.w) (ty.is I ry)
  have hl := F.len _ _ _ _ hsp
  have r2 : Vals [V.ref a, y] [Value.ref a, u] := .cons rfl (.cons ry .nil)
  have one : wpAny (model X.prog X.w) X.A (tryCompare (.ref a) (cmpInfo .NotEq).2.1 u) (fun r s' => ∃ v, r = some v ∧ EP X pins σ Q v s') X.xe s := by
    unfold tryCompare
    refine wpAny_bind (ifBound_objNe I.kIn J o'.hne (call_objNeA I.kIn J o'.hm hr.in1.units0 (PySem.W.ifBound_K I.kIn J o.hs o.hf ?_)))
    refine wpAny_call (codeAny_mono (F.run X.A.in1 X.stack s H ⟨[.ref a, u], []⟩ [.ref a, u] [.ref a, y] _ E hr.in1 I.env0.in1 (by
      have := hb s [.ref a, u] I.kIn (by simpa using hl)
      simpa using this) r2 hsp) fun r s' hq => ?_)
    cases r with
    | error e => exact hx pins σ H s e s' I hq
    | ok fl =>
      cases fl with
      | ret w =>
        obtain ⟨z, H', I', rz, ⟨r, ez, q⟩⟩ := I.after hq
        subst ez
        cases (show w = Value.bool r from rz)
        exact ⟨r, rfl, wpAny_pure ⟨_, rfl, .bl (!r), H', I', rfl, q⟩⟩
      | next => exact False.elim hq
      | brk => exact False.elim hq
      | cont => exact False.elim hq
  unfold richCompare
  simp only [oneThing_ref]
  refine wpAny_holding (wpAny_bind (wpAny_cRoomFor hr.units0 ?_))
  refine wpAny_bind (J.type.here (wpAny_bind (J'.here ?_)))
  rw [show (Value.ref C != Value.type T) = true from by simp]
  refine wpAny_bind ((PySem.W.looks_subIn I.kIn (sub_ty ty nb)).here ?_)
  simp only [Bool.false_eq_true, if_false]
  refine wpAny_bind (wpAny_mono one (fun r s' z => ?_) fun _ _ e => e)
  obtain ⟨v, rfl, hq⟩ := z
  exact wpAny_pure hq
section
variable {K : PySem.W.Frag} {ms : List Addr} {H : Hp} {x y : V} {d : D}
theorem rep_eqOwnA {C : Addr} {ns : List Str} {ds : List D} {sp : Sp} {E : XK} {Q : VK} (h1 : rep ms H (.ins C ns ds) x) (h2 : rep ms H d y) (n : noI d = true) (k : sp [x, y] H (fun v H' => ∃ r : Bool, v = .bl r ∧ Q v H') E) : rOwnEqA K C sp E x y H Q := by
  obtain ⟨p, dx, fs, e, hp⟩ := rep_ins h1
  obtain ⟨T, ty, nb, _⟩ := rep_TyB (K := K) h2 n
  subst e
  exact ⟨p, dx, fs, T, rfl, hp, ty, nb, k⟩
theorem rep_neOwnA {C : Addr} {ns : List Str} {ds : List D} {sp : Sp} {E : XK} {Q : VK} (h1 : rep ms H (.ins C ns ds) x) (h2 : rep ms H d y) (n : noI d = true) (k : sp [x, y] H (fun v H' => ∃ r : Bool, v = .bl r ∧ Q (.bl (!r)) H') E) : rOwnNeA K C sp E x y H Q := by
  obtain ⟨p, dx, fs, e, hp⟩ := rep_ins h1
  obtain ⟨T, ty, nb, _⟩ := rep_TyB (K := K) h2 n
  subst e
  exact ⟨p, dx, fs, T, rfl, hp, ty, nb, k⟩
/-- a class of the text's own, for isinstance that says no -/
structure IsN (K : PySem.W.Frag) (C : Addr) : Prop where
  ic : PySem.W.isClsIn K C = true
  ty : PySem.W.typeIn K (.ref C) = some (.type "type")
theorem rep_isN2 {C : Addr} {P : Bool → Prop} (h : rep ms H d x) (n : noI d = true) (c : IsN K C) (k : P false) :
    ∃ (x' c : V) (t u : Value) (b : Bool), [x, .ref C] = [x', c] ∧ ClsV c u ∧ TyX K H x' t ∧ PySem.W.kitOne K t u = some b ∧ P b := by
  obtain ⟨T, ty, nb, tx⟩ := rep_TyB (K := K) h n
  refine ⟨x, _, .type T, .ref C, false, rfl, .own C, tx, ?_, k⟩
  · unfold PySem.W.kitOne
    rw [if_neg (by simp)]
    show (if ((PySem.W.clsIn K C).isSome && PySem.W.typeIn K (.ref C) == some (.type "type")) = true then PySem.W.subIn K (.type T) (.ref C) else none) = some false
    rw [sub_ty ty nb]
    have h1 := c.ic
    unfold PySem.W.isClsIn at h1
    rw [h1, c.ty]
    simp
end
end Rx
namespace Rx
open PySem PySem.Spec PyProof.Rows L2
theorem pe_never {X : Cx} {e : Expr} : PE X e (fun _ _ _ => False) := ⟨fun _ _ _ _ _ _ h => h.elim⟩
section
variable {ms ps : List Addr} {cs : List (Addr × List V)} {H0 H H' : Hp} {u : V}
theorem rep_dynL {α : Type} {e : α → D} {xs : List α} (h : rep ms H (.lst (xs.map e)) u) : rep ms H (.lst ((xs.map e).map fun y : D => y)) u := by
  rw [List.map_id']
  exact h
theorem rep_dct0 {p : Addr} (w : Wd ms ps cs H0 H) (np : H p = none) (hp : H' p = some (.dK [])) : rep ms H' (.dct [] []) (.ref p) := by
  simp only [rep]
  exact ⟨p, [], rfl, fun z => w.tr p z np, hp, rfl, repL_nil⟩
end
end Rx
namespace Rx
open PySem PySem.Spec PyProof.Rows L2
section
variable {κ : Type} [DecidableEq κ]
theorem any_zip {k : κ} : ∀ {ks : List κ} {vs : List V}, ks.length = vs.length → ((ks.zip vs).any fun kv => decide (kv.1 = k)) = decide (k ∈ ks)
  | [], [], _ => by simp
  | k0 :: ks, v :: vs, h => by
    have ih := any_zip (k := k) (ks := ks) (vs := vs) (by simpa using h)
    rw [List.zip_cons_cons, List.any_cons, ih]
    by_cases e : k0 = k
    · subst e
      simp
    · have e' : k ≠ k0 := fun z => e z.symm
      simp [e, e']
  | [], _ :: _, h => by simp at h
  | _ :: _, [], h => by simp at h
theorem putK_new {k : κ} {v : V} {ks : List κ} {vs : List V} (h : ks.length = vs.length) (n : k ∉ ks) : putK (ks.zip vs) k v = (ks ++ [k]).zip (vs ++ [v]) := by
  unfold putK
  rw [any_zip h, if_neg (by simpa using n), List.zip_append h]
  rfl
theorem putK_old {k : κ} {v : V} : ∀ {ks : List κ} {vs : List V} {j : Nat}, ks.length = vs.length → ks.Nodup → ks[j]? = some k → putK (ks.zip vs) k v = ks.zip (vs.set j v) := by
  intro ks vs j h nd hj
  have hk : k ∈ ks := List.mem_of_getElem? hj
  unfold putK
  rw [any_zip h, if_pos (by simpa using hk)]
  induction ks generalizing vs j with
  | nil => simp at hj
  | cons k0 ks ih =>
    cases vs with
    | nil => simp at h
    | cons v0 vs =>
      have nd' := List.nodup_cons.mp nd
      cases j with
      | zero =>
        have e : k0 = k := Option.some.inj hj
        subst e
        rw [List.zip_cons_cons, List.map_cons, if_pos rfl, List.set_cons_zero, List.zip_cons_cons]
        congr 1
        conv => rhs; rw [← List.map_id (ks.zip vs)]
        refine List.map_congr_left fun q hq => ?_
        rw [if_neg]
        · rfl
        · intro z
          exact nd'.1 (by rw [← z]; exact (List.of_mem_zip (show (q.1, q.2) ∈ ks.zip vs from hq)).1)
      | succ j =>
        have hj' : ks[j]? = some k := by simpa using hj
        have ne : ¬ k0 = k := fun z => nd'.1 (by rw [z]; exact List.mem_of_getElem? hj')
        rw [List.zip_cons_cons, List.map_cons, if_neg ne, List.set_cons_succ, List.zip_cons_cons]
        congr 1
        exact ih (by simpa using h) nd'.2 hj' (List.mem_of_getElem? hj')
theorem valV_zip {k : κ} : ∀ {ks : List κ} {vs : List V} {j : Nat}, ks.Nodup → ks[j]? = some k → ks.length = vs.length → valV (ks.zip vs) k = vs[j]?
  | [], _, _, _, hj, _ => by simp at hj
  | k0 :: ks, [], _, _, _, h => by simp at h
  | k0 :: ks, v :: vs, 0, _, hj, _ => by
    have e : k0 = k := Option.some.inj hj
    subst e
    simp [valV]
  | k0 :: ks, v :: vs, j + 1, nd, hj, h => by
    have nd' := List.nodup_cons.mp nd
    have hj' : ks[j]? = some k := by simpa using hj
    have ne : ¬ k0 = k := fun z => nd'.1 (by rw [z]; exact List.mem_of_getElem? hj')
    rw [List.zip_cons_cons, valV_neg (p := (k0, v)) ne, valV_zip nd'.2 hj' (by simpa using h)]
    rfl
end
theorem mergeK_nodup : ∀ {more : List (Key × V)} {acc : List (Key × V)}, ((acc ++ more).map (·.1)).Nodup → mergeK acc more = acc ++ more
  | [], acc, _ => by simp [mergeK]
  | q :: more, acc, h => by
    have n : q.1 ∉ acc.map (·.1) := by
      rw [List.map_append, List.nodup_append] at h
      exact fun z => h.2.2 q.1 z q.1 (by simp) rfl
    have e : putK acc q.1 q.2 = acc ++ [q] := by
      unfold putK
      rw [if_neg]
      intro z
      obtain ⟨w, hw, ew⟩ := List.any_eq_true.mp z
      exact n (List.mem_map.mpr ⟨w, hw, of_decide_eq_true ew⟩)
    show mergeK (putK acc q.1 q.2) more = _
    rw [e, mergeK_nodup (by rw [List.append_assoc]; exact h), List.append_assoc]
    rfl
section
variable {K : PySem.W.Frag} {ms ps : List Addr} {H0 H H' H1 : Hp} {L : Addr} {d : D} {ds : List D} {u x y : V} {vs : List V} {ks : List Key} {k : Key}
theorem map_fst_zip' : ∀ {ks : List Key} {vs : List V}, ks.length = vs.length → (ks.zip vs).map (·.1) = ks
  | [], [], _ => rfl
  | k :: ks, v :: vs, h => by
    rw [List.zip_cons_cons, List.map_cons, map_fst_zip' (by simpa using h)]
  | [], _ :: _, h => by simp at h
  | _ :: _, [], h => by simp at h
theorem merge_zip (h : ks.length = vs.length) (nd : ks.Nodup) : mergeK [] (ks.zip vs) = ks.zip vs := by
  rw [mergeK_nodup (by rw [List.nil_append, map_fst_zip' h]; exact nd), List.nil_append]
/-- what a dict of one's own holds, as it is made -/
theorem mo_nilD (w : Wd ms ps [] H0 H) (nl : H L = none) : MutO (L :: ms) ps H0 (upd H L (.dK [])) L (.dct [] []) :=
  mo_newD (ks := []) (vs := []) (ds := []) w nl rfl repL_nil
theorem mo_dK0 (m : MutO ms ps H0 H L (.dct [] [])) : H L = some (.dK []) := by
  obtain ⟨vs, h1, h2, _⟩ := m.val
  rw [h1]
  simp
theorem mo_setD (m : MutO ms ps H0 H L d) (hl : ks.length = vs.length) (r : repL ms H ds vs) : MutO ms ps H0 (upd H L (.dK (ks.zip vs))) L (.dct ks ds) :=
  ⟨m.im, m.hp, m.h0, vs, upd_same, hl, repL_put m.im r⟩
/-- d[k] = v, a new key -/
theorem mo_putU {v : V} {Q : Hp → Prop} (m : MutO ms ps H0 H L (.dct ks ds)) (n : k ∉ ks) (hk : ks.length < 16777216)
    (q : ∀ vs, ks.length = vs.length → repL ms H ds vs → Q (upd H L (.dK ((ks ++ [k]).zip (vs ++ [v]))))) : rSetD (.ref L) (kV k) v H Q := by
  obtain ⟨vs, h1, h2, h3⟩ := m.val
  refine ⟨L, _, rfl, DPut.k h1 ?_, ?_⟩
  · rw [List.length_zip, ← h2, sizeLine_eq, Nat.min_self]
    exact hk
  · rw [putK_new h2 n]
    exact q vs h2 h3
/-- d[k] = v, a key that is there -/
theorem mo_putO {v : V} {Q : Hp → Prop} (j : Nat) (m : MutO ms ps H0 H L (.dct ks ds)) (nd : ks.Nodup) (hj : ks[j]? = some k) (hk : ks.length < 16777216)
    (q : ∀ vs, ks.length = (vs.set j v).length → repL ms H ds vs → Q (upd H L (.dK (ks.zip (vs.set j v))))) : rSetD (.ref L) (kV k) v H Q := by
  obtain ⟨vs, h1, h2, h3⟩ := m.val
  refine ⟨L, _, rfl, DPut.k h1 ?_, ?_⟩
  · rw [List.length_zip, ← h2, sizeLine_eq, Nat.min_self]
    exact hk
  · rw [putK_old h2 nd hj]
    exact q vs (by rw [List.length_set]; exact h2) h3
theorem repL_setD {v : V} {e : D} : ∀ {ds : List D} {vs : List V} (j : Nat), repL ms H ds vs → rep ms H e v → repL ms H (ds.set j e) (vs.set j v)
  | [], vs, j, h, r => by
    have ev := repL_empty h
    subst ev
    simpa using h
  | d :: ds, vs, 0, h, r => by
    obtain ⟨u, us, rfl, h1, h2⟩ := repL_uncons h
    exact repL_cons r h2
  | d :: ds, vs, j + 1, h, r => by
    obtain ⟨u, us, rfl, h1, h2⟩ := repL_uncons h
    exact repL_cons h1 (repL_setD j h2 r)
theorem dgetL (h1 : H L = some (.dK (ks.zip vs))) (nd : ks.Nodup) (hl : ks.length = vs.length) {j : Nat} (hj : ks[j]? = some k) {v : V} (hv : vs[j]? = some v) : DGet H L (kV k) (some v) := by
  have := DGet.k (k := k) h1
  rw [valV_zip nd hj hl, hv] at this
  exact this
/-- d[k], k a written key -/
theorem rep_dget {Q : VK} (j : Nat) (h : rep ms H (.dct ks ds) x) (nd : ks.Nodup) (hj : ks[j]? = some k) (hd : ds[j]? = some d) (q : ∀ v, rep ms H d v → Q v H) :
    ∃ a v, x = .ref a ∧ DGet H a (kV k) (some v) ∧ Q v H := by
  simp only [rep] at h
  obtain ⟨p, vs, rfl, _, hp, hl, hr⟩ := h
  obtain ⟨v, hv, rv⟩ := repL_get hr hd
  exact ⟨p, v, rfl, dgetL hp nd hl hj hv, q v rv⟩
theorem mo_dget {Q : VK} (j : Nat) (m : MutO ms ps H0 H L (.dct ks ds)) (nd : ks.Nodup) (hj : ks[j]? = some k) (hd : ds[j]? = some d) (q : ∀ v, rep ms H d v → Q v H) :
    ∃ a v, V.ref L = .ref a ∧ DGet H a (kV k) (some v) ∧ Q v H := by
  obtain ⟨vs, hp, hl, hr⟩ := m.val
  obtain ⟨v, hv, rv⟩ := repL_get hr hd
  exact ⟨L, v, rfl, dgetL hp nd hl hj hv, q v rv⟩
/-- d[k], any key: what is found -/
def getM {α : Type} (ks : List Key) (xs : List α) (k : Key) : Option α := ((ks.zip xs).find? fun q => decide (q.1 = k)).map (·.2)
theorem getM_at {α : Type} {y : α} : ∀ {ks : List Key} {xs : List α}, getM ks xs k = some y → ∃ j : Nat, ks[j]? = some k ∧ xs[j]? = some y
  | [], _, h => by simp [getM] at h
  | _ :: _, [], h => by simp [getM] at h
  | k0 :: ks, x :: xs, h => by
    by_cases e : k0 = k
    · subst e
      simp [getM] at h
      exact ⟨0, rfl, by rw [h]; rfl⟩
    · have h' : getM ks xs k = some y := by
        unfold getM at h ⊢
        rw [List.zip_cons_cons, List.find?_cons_of_neg (by simpa using e)] at h
        exact h
      obtain ⟨j, h1, h2⟩ := getM_at h'
      exact ⟨j + 1, by simpa using h1, by simpa using h2⟩
theorem rep_dgetM {α : Type} {e : α → D} {xs : List α} {y : α} {Q : VK} (h : rep ms H (.dct ks (xs.map e)) x) (nd : ks.Nodup) (hy : getM ks xs k = some y) (q : ∀ v, rep ms H (e y) v → Q v H) :
    ∃ a v, x = .ref a ∧ DGet H a (kV k) (some v) ∧ Q v H := by
  obtain ⟨j, h1, h2⟩ := getM_at hy
  exact rep_dget j h nd h1 (by rw [List.getElem?_map, h2]; rfl) q
/-- dict(list(d.items())) -/
theorem rep_items {Q : VK} (w : Wd ms ps [] H0 H) (h : rep ms H (.dct ks ds) x)
    (q : ∀ (H' : Hp) (p : Addr), Ret [] H H' → (∀ (r : List V → Hp → Prop), (∀ vs, ks.length = vs.length → repL ms H' ds vs → (∃ ps, SqL K H' p (ps.map V.ref) ∧ Paired (fun p kv => SqT K H' p [kV kv.1, kv.2]) ps (ks.zip vs)) → r vs H') → ∃ vs, ks.length = vs.length ∧ repL ms H' ds vs ∧ r vs H') → Q (.ref p) H') :
    ∃ (d : Addr) (kvs : List (Key × V)), x = .ref d ∧ H d = some (.dK kvs) ∧ ∀ (H' : Hp) (p : Addr) (ts : List Addr), (∀ b o, H b = some o → H' b = some o) → H p = none → (∀ t ∈ ts, H t = none) → p ∉ ts → H' p = some (.lst (ts.map V.ref)) → Paired (fun (t : Addr) (q : Key × V) => H' t = some (.tup [kV q.1, q.2])) ts kvs → Q (.ref p) H' := by
  simp only [rep] at h
  obtain ⟨d, vs, rfl, _, hp, hl, hr⟩ := h
  refine ⟨d, _, rfl, hp, fun H' p ts keep np nts pt hl' hpd => ?_⟩
  have e : Ret [] H H' := ⟨fun a o _ z => keep a o z, fun _ z => absurd z List.not_mem_nil, fun a z => by
    cases c : H a with
    | none => exact absurd c z
    | some o => rw [keep a o c]; exact fun z => nomatch z⟩
  refine q H' p e fun r hr' => ⟨vs, hl, repL_ext e hr, hr' vs hl (repL_ext e hr) ⟨ts, .inl (.inl hl'), ?_⟩⟩
  clear hr' hl' q hp
  generalize ks.zip vs = kvs at hpd
  induction hpd with
  | nil => exact .nil
  | cons a _ ih => exact .cons (.inl (.inl a)) (ih (fun t z => nts t (List.mem_cons_of_mem _ z)) fun z => pt (List.mem_cons_of_mem _ z))
end
end Rx
namespace Rx
open PySem PySem.Spec PyProof.Rows L2
section
variable {X : Cx} {K : PySem.W.Frag}
theorem call_dictPK (hK : X.K = K) (hcalm : X.calm = true) : CallR X (.type "dict") (fun xs H Q => ∃ (a : Addr) (ps : List Addr) (kvs : List (Key × V)), xs = [.ref a] ∧ SqL K H a (ps.map V.ref) ∧ Paired (fun p kv => SqT K H p [kV kv.1, kv.2]) ps kvs ∧
    ∀ p, H p = none → Q (.ref p) (upd H p (.dK (mergeK [] kvs)))) := by
  subst hK
  exact call_dictP hcalm
end
end Rx
namespace Rx
theorem nin_of {α : Type} {ks : List α} {k : α} (h : (ks ++ [k]).Nodup) : k ∉ ks := fun z => by
  rw [List.nodup_append] at h
  exact h.2.2 k z k (by simp) rfl
end Rx
namespace Rx
open PySem PySem.Spec PyProof.Rows L2
/-! a new instance, while its __init__ runs -/
section
variable {ms ps : List Addr} {H0 H H' He : Hp} {p L C dx : Addr} {d : D} {u : V} {fs : List (Str × V)} {o : HO}
structure KpI (p : Addr) (He H : Hp) : Prop where
  kp : ∀ a o, a ≠ p → He a = some o → H a = some o
  gr : ∀ a, He a ≠ none → H a ≠ none
theorem ki_refl : KpI p H H := ⟨fun _ _ _ h => h, fun _ h => h⟩
theorem ki_wd (k : KpI p He H0) (w : Wd ms [] [] H0 H) : KpI p He H := ⟨fun a o n h => w.kp a o (by simp) (k.kp a o n h), fun a h => w.grow a (k.gr a h)⟩
theorem ki_put (k : KpI p He H0) (w : Wd ms [] [] H0 H) : KpI p He (upd H p o) := ⟨fun a o' n h => by
  rw [upd_ne n]
  exact (ki_wd k w).kp a o' n h, fun a h => by
  by_cases e : a = p
  · rw [e, upd_same]
    exact fun z => nomatch z
  · rw [upd_ne e]
    exact (ki_wd k w).gr a h⟩
theorem wd_at (w : Wd ms [] [] H0 H) : Wd ms [] [] (upd H p o) (upd H p o) := ⟨fun _ _ _ h => h, fun _ h => h, fun m h => by
  by_cases e : m = p
  · rw [e, upd_same]
    exact fun z => nomatch z
  · rw [upd_ne e]
    exact w.tr m h, fun _ h => absurd h List.not_mem_nil, fun _ h => absurd h List.not_mem_nil, fun _ h => absurd h List.not_mem_nil⟩
theorem at_put (hp : H p = some (.ins C dx fs)) (m : MutO ms ps H0 H L d) : upd H L o p = some (.ins C dx fs) := by
  rw [upd_ne (fun z => ?_)]
  · exact hp
  · have h := m.isMo
    rw [← z, hp] at h
    exact h
theorem putF_zip {f : Str} {v : V} : ∀ {ns : List Str} {us : List V}, ns.length = us.length → f ∉ ns → putF f v (ns.zip us) = (ns ++ [f]).zip (us ++ [v])
  | [], [], _, _ => by simp [putF]
  | [], _ :: _, h, _ => by simp at h
  | _ :: _, [], h, _ => by simp at h
  | n :: ns, u :: us, h, nn => by
    have e : ¬ n = f := fun z => nn (by rw [z]; exact List.mem_cons_self)
    have ih := putF_zip (f := f) (v := v) (ns := ns) (us := us) (by simpa using h) fun z => nn (List.mem_cons_of_mem _ z)
    simp only [List.zip_cons_cons, List.cons_append]
    unfold putF
    rw [if_neg e, ih]
theorem mem_new (nl : H p = none) (h : rep ms H d u) (ndx : H dx = none) {o1 o2 : HO} : rep (p :: ms) (upd (upd H dx o1) p o2) d u :=
  rep_map (fun a o n hp => ⟨fun z => by
    rcases List.mem_cons.mp z with z | z
    · exact ne_of_none hp nl z
    · exact n z, by rw [upd_ne (ne_of_none hp nl), upd_ne (ne_of_none hp ndx)]; exact hp⟩) d u h
theorem wd_new (w : Wd ms ps cs H0 H) (nl : H p = none) (ndx : H dx = none) {o1 o2 : HO} : Wd (p :: ms) [] [] (upd (upd H dx o1) p o2) (upd (upd H dx o1) p o2) := ⟨fun _ _ _ h => h, fun _ h => h, fun m h => by
  by_cases e : m = p
  · rw [e, upd_same]
    exact fun z => nomatch z
  · rw [upd_ne e]
    by_cases e2 : m = dx
    · rw [e2, upd_same]
      exact fun z => nomatch z
    · rw [upd_ne e2]
      exact w.tr m ((List.mem_cons.mp h).elim (fun z => absurd z e) id), fun _ h => absurd h List.not_mem_nil, fun _ h => absurd h List.not_mem_nil, fun _ h => absurd h List.not_mem_nil⟩
theorem ext_new (k : KpI p (upd (upd H dx o1) p o2) H') (nl : H p = none) (ndx : H dx = none) : Ret [] H H' := ⟨fun a o _ h => k.kp a o (ne_of_none h nl) (by rw [upd_ne (ne_of_none h nl), upd_ne (ne_of_none h ndx)]; exact h), fun _ z => absurd z List.not_mem_nil, fun a h => k.gr a (by
  by_cases e : a = p
  · rw [e, upd_same]
    exact fun z => nomatch z
  · rw [upd_ne e]
    by_cases e2 : a = dx
    · rw [e2, upd_same]
      exact fun z => nomatch z
    · rw [upd_ne e2]
      exact h)⟩
theorem rep_insW (w : Wd ms ps cs H0 H) (np : H p = none) {ns : List Str} {us : List V} {ds : List D} (hp : H' p = some (.ins C dx (ns.zip us))) (hl : ns.length = us.length) (hr : repL (p :: ms) H' ds us) : rep ms H' (.ins C ns ds) (.ref p) := by
  simp only [rep]
  exact ⟨p, dx, us, rfl, fun z => w.tr p z np, hp, hl, repL_weak hr⟩
end
end Rx
namespace Rx
open PySem PySem.Spec PyProof.Rows L2
section
variable {K : PySem.W.Frag} {x qual : Str} {params : Arguments} {body : List Stmt} {scope : Scope} {dvs : List V} {f : Addr} {fd : FuncData} {ps : List Str}
/-- a def with defaults, called with all its arguments -/
theorem FunD_b0 (F : FunD K x qual params body scope dvs [] f fd) (hd : dvs ≠ [])
    (h : ∀ (T : Addr) (kV doc pm : Value) (an : Option Addr) (cdv ct : Value) (us its : List Value), us.length = ps.length → its.length = dvs.length →
      ∃ k, bindArgs (PySem.W.fnOf x qual params body scope (.ref T) kV doc pm an cdv ct) ⟨us, []⟩ = seqItems? (.ref T) >>= k ∧ k (some its.toArray) = pure (ps.zip us)) : Binds K fd ps [] := by
  obtain ⟨ds, rd, hb⟩ := F.binds1 (ps := ps) ps.length dvs.length hd (by omega) fun T kV doc pm an cdv ct us its h1 h2 => by
    obtain ⟨k, e1, e2⟩ := h T kV doc pm an cdv ct us its h1 h2
    refine ⟨k, e1, ?_⟩
    rw [e2, List.drop_of_length_le (by omega), List.append_nil]
  rw [List.drop_length] at rd
  cases rd
  exact hb
end
end Rx
namespace Rx
open PySem PySem.Spec PyProof.Rows L2
/-! x in a written dict, x there -/
def rInW (K : PySem.W.Frag) (w : World) (d : Addr) (b : Bool) : R2 := fun x y H Q => ∃ (z c : Str), x = .str z ∧ y = .ref d ∧ KDct K w d z (.str c) ∧ Q (.bl b) H
section
variable {X : Cx} {K : PySem.W.Frag} {w : World} {d : Addr}
theorem op_inW (hK : X.K = K) (hw : X.w = w) (low : (d == sysModules) = false) : OpR X (compareOp .In) (rInW K w d true) := by
  subst hK hw
  intro pins s σ H x y v u Q I rx ry h
  obtain ⟨z, c, rfl, rfl, ⟨es, n, u0, at_, lit, ns, ru⟩, q⟩ := h
  exact op_in_kd ⟨at_, lit, low⟩ pins s σ H _ _ v u Q I rx ry ⟨z, some u0, rfl, rfl, ns, q⟩
theorem op_ninW (hK : X.K = K) (hw : X.w = w) (low : (d == sysModules) = false) : OpR X (compareOp .NotIn) (rInW K w d false) := by
  subst hK hw
  intro pins s σ H x y v u Q I rx ry h
  obtain ⟨z, c, rfl, rfl, ⟨es, n, u0, at_, lit, ns, ru⟩, q⟩ := h
  exact op_notIn_kd ⟨at_, lit, low⟩ pins s σ H _ _ v u Q I rx ry ⟨z, some u0, rfl, rfl, ns, q⟩
theorem rep_inW {l : List (Str × Str)} {z c : Str} {b : Bool} {H : Hp} {σ : L2.St} {Q : VK} (t : ∀ z c : Str, l.lookup z = some c → KDct K w d z (.str c)) (h : l.lookup z = some c) (q : Q (.bl b) H) : tC (V.ref d) σ H fun y H2 => rInW K w d b (.str z) y H2 Q := ⟨z, c, rfl, rfl, t z c h, q⟩
end
end Rx
namespace Rx
open PySem PySem.Spec PyProof.Rows L2
/-! ranges with a step -/
def rangeS (lo hi c : Int) : List Int := (List.range (if lo < hi then (hi - lo - 1) / c + 1 else 0).toNat).map fun i => lo + ((i : Nat) : Int) * c
def RgB (lo hi : Int) : Prop := -(2 ^ 60) ≤ lo ∧ lo < 2 ^ 60 ∧ -(2 ^ 60) ≤ hi ∧ hi < 2 ^ 60
theorem rangeS_len {lo hi c : Int} : (rangeS lo hi c).length = (if lo < hi then (hi - lo - 1) / c + 1 else 0).toNat := by simp [rangeS]
theorem rangeS_get {lo hi c : Int} {i : Nat} (h : i < (rangeS lo hi c).length) : (rangeS lo hi c)[i]? = some (lo + (i : Int) * c) := by
  rw [rangeS_len] at h
  simp [rangeS, List.getElem?_map, List.getElem?_range h]
theorem rgS_size {lo hi c : Int} (hc : 0 < c) : Builtin.Range.rangeSize lo hi c = ((rangeS lo hi c).length : Int) := by
  rw [rangeS_len]
  unfold Builtin.Range.rangeSize
  rw [if_pos hc]
  split
  · have := Int.ediv_nonneg (a := hi - lo - 1) (b := c) (by omega) (by omega)
    omega
  · rfl
theorem rgS_small {lo hi c : Int} (hc : 0 < c) (hc2 : c < 2 ^ 30) (hb : RgB lo hi) : Builtin.Range.small lo hi c = true := by
  obtain ⟨h1, h2, h3, h4⟩ := hb
  have e : Builtin.Range.rangeSize lo hi c ≤ 2 ^ 61 ∧ 0 ≤ Builtin.Range.rangeSize lo hi c := by
    unfold Builtin.Range.rangeSize
    rw [if_pos hc]
    split
    · have a := Int.ediv_nonneg (a := hi - lo - 1) (b := c) (by omega) (by omega)
      have b := Int.ediv_le_self (a := hi - lo - 1) c (by omega)
      omega
    · omega
  unfold Builtin.Range.small
  have f : ∀ z : Int, -(2 ^ 62) ≤ z → z < 2 ^ 62 → Builtin.Range.rangeFitsLong z = true := by
    intro z a b
    unfold Builtin.Range.rangeFitsLong
    simp only [Bool.and_eq_true, decide_eq_true_eq]
    omega
  rw [f lo (by omega) (by omega), f hi (by omega) (by omega), f c (by omega) (by omega), f _ (by omega) (by omega), if_pos hc, f (hi + (c - 1)) (by omega) (by omega)]
  simp
theorem rgC_of {lo hi c : Int} (hc : 0 < c) (hc2 : c < 2 ^ 30) (hb : RgB lo hi) : RgC lo hi c (rangeS lo hi c).length :=
  ⟨by omega, by omega, rgS_small hc hc2 hb, rgS_size hc⟩
section
variable {α β : Type} {K : PySem.W.Frag} {H1 H2 : Hp} {g : TG} {tt : TT} {te : TE} {vl : List Nat} {σ : L2.St} {Qd : Hp → Prop} {L : Addr}
theorem lc_rangeTG {lo hi c : Int} {body : Int → (β → Prop) → Prop} {KM : List β → Prop} (SI : Nat → List β → Hp → Prop) (hM : (rangeS lo hi c).length < 100000 ∧ mapC body (rangeS lo hi c) [] KM) (h0 : SI 0 [] (upd H1 L (.lst [])))
    (hs : ∀ (x : Int) (n : Nat) (ys : List β) (k : β → Prop) (H : Hp), n < 100000 → SI n ys H → body x k → ∀ Nx : Hp → Prop, (∀ y H', k y → SI (n + 1) (ys ++ [y]) H' → Nx H') → Turn g tt te vl σ L (.int x) H Nx)
    (hd : ∀ n ys H, KM ys → SI n ys H → Qd H) :
    ∃ W : Nat → Nat → Hp → Prop, (∃ m, W 0 m (upd H1 L (.lst []))) ∧ ∀ i m H, W i m H →
      ((Itc lo c (rangeS lo hi c).length).stop i H ∧ Qd H) ∨ ((Itc lo c (rangeS lo hi c).length).go i H ∧ ∃ Nx : Hp → Prop, (∀ H', Nx H' → ∃ m', m' < m ∧ W (i + 1) m' H') ∧ ∀ x H', (Itc lo c (rangeS lo hi c).length).yld i H x H' → g x (wipe σ vl) H' fun σ2 H2 => wipe σ2 vl = wipe σ vl ∧ tt σ2 H2 fun b H3 =>
        if b = true then te σ2 H3 fun y H4 => ∃ acc, H4 L = some (.lst acc) ∧ acc.length < sizeLine ∧ Nx (upd H4 L (.lst (acc ++ [y]))) else Nx H3) := by
  obtain ⟨hn, hM⟩ := hM
  refine ⟨fun i m H => m = (rangeS lo hi c).length - i ∧ i ≤ (rangeS lo hi c).length ∧ ∃ ys, SI i ys H ∧ mapC body ((rangeS lo hi c).drop i) ys KM, ⟨_, rfl, Nat.zero_le _, [], h0, hM⟩, ?_⟩
  rintro i m H ⟨rfl, hi', ys, T, q⟩
  by_cases hlt : i < (rangeS lo hi c).length
  · refine .inr ⟨hlt, fun H' => i + 1 ≤ (rangeS lo hi c).length ∧ ∃ ys, SI (i + 1) ys H' ∧ mapC body ((rangeS lo hi c).drop (i + 1)) ys KM, fun H' p' => ⟨_, by omega, rfl, p'⟩, fun x H' y => ?_⟩
    obtain ⟨e, y⟩ := y
    subst e y
    rw [drop_cons' (rangeS_get hlt)] at q
    exact hs _ i ys _ H' (by omega) T q _ fun y H' k T' => ⟨hlt, _, T', k⟩
  · have e : i = (rangeS lo hi c).length := by omega
    refine .inl ⟨by rw [e]; exact Nat.le_refl _, ?_⟩
    rw [List.drop_of_length_le (by omega)] at q
    exact hd _ ys H q T
theorem lf_rangeTG {lo hi c : Int} {body : Int → (Option β → Prop) → Prop} {KM : List β → Prop} (SI : Nat → List β → Hp → Prop) (hM : (rangeS lo hi c).length < 100000 ∧ filC body (rangeS lo hi c) [] KM) (h0 : SI 0 [] (upd H1 L (.lst [])))
    (hs : ∀ (x : Int) (n : Nat) (ys : List β) (k : Option β → Prop) (H : Hp), n < 100000 → SI n ys H → body x k → ∀ Nx : Hp → Prop, (∀ y H', k (some y) → SI (n + 1) (ys ++ [y]) H' → Nx H') → (∀ H', k none → SI (n + 1) ys H' → Nx H') → Turn g tt te vl σ L (.int x) H Nx)
    (hd : ∀ n ys H, KM ys → SI n ys H → Qd H) :
    ∃ W : Nat → Nat → Hp → Prop, (∃ m, W 0 m (upd H1 L (.lst []))) ∧ ∀ i m H, W i m H →
      ((Itc lo c (rangeS lo hi c).length).stop i H ∧ Qd H) ∨ ((Itc lo c (rangeS lo hi c).length).go i H ∧ ∃ Nx : Hp → Prop, (∀ H', Nx H' → ∃ m', m' < m ∧ W (i + 1) m' H') ∧ ∀ x H', (Itc lo c (rangeS lo hi c).length).yld i H x H' → g x (wipe σ vl) H' fun σ2 H2 => wipe σ2 vl = wipe σ vl ∧ tt σ2 H2 fun b H3 =>
        if b = true then te σ2 H3 fun y H4 => ∃ acc, H4 L = some (.lst acc) ∧ acc.length < sizeLine ∧ Nx (upd H4 L (.lst (acc ++ [y]))) else Nx H3) := by
  obtain ⟨hn, hM⟩ := hM
  refine ⟨fun i m H => m = (rangeS lo hi c).length - i ∧ i ≤ (rangeS lo hi c).length ∧ ∃ ys, SI i ys H ∧ filC body ((rangeS lo hi c).drop i) ys KM, ⟨_, rfl, Nat.zero_le _, [], h0, hM⟩, ?_⟩
  rintro i m H ⟨rfl, hi', ys, T, q⟩
  by_cases hlt : i < (rangeS lo hi c).length
  · refine .inr ⟨hlt, fun H' => i + 1 ≤ (rangeS lo hi c).length ∧ ∃ ys, SI (i + 1) ys H' ∧ filC body ((rangeS lo hi c).drop (i + 1)) ys KM, fun H' p' => ⟨_, by omega, rfl, p'⟩, fun x H' y => ?_⟩
    obtain ⟨e, y⟩ := y
    subst e y
    rw [drop_cons' (rangeS_get hlt)] at q
    exact hs _ i ys _ H' (by omega) T q _ (fun y H' k T' => ⟨hlt, _, T', k⟩) fun H' k T' => ⟨hlt, _, T', k⟩
  · have e : i = (rangeS lo hi c).length := by omega
    refine .inl ⟨by rw [e]; exact Nat.le_refl _, ?_⟩
    rw [List.drop_of_length_le (by omega)] at q
    exact hd _ ys H q T
theorem lc_rangeTS {lo hi c : Int} {body : Int → S → (β → S → Prop) → Prop} {KM : List β → S → Prop} (SI : Nat → List β → S → Hp → Prop) (s0 : S) (hM : (rangeS lo hi c).length < 100000 ∧ mapS body (rangeS lo hi c) [] s0 KM) (h0 : SI 0 [] s0 (upd H1 L (.lst [])))
    (hs : ∀ (x : Int) (n : Nat) (ys : List β) (s : S) (k : β → S → Prop) (H : Hp), n < 100000 → SI n ys s H → body x s k → ∀ Nx : Hp → Prop, (∀ y s' H', k y s' → SI (n + 1) (ys ++ [y]) s' H' → Nx H') → Turn g tt te vl σ L (.int x) H Nx)
    (hd : ∀ n ys s H, KM ys s → SI n ys s H → Qd H) :
    ∃ W : Nat → Nat → Hp → Prop, (∃ m, W 0 m (upd H1 L (.lst []))) ∧ ∀ i m H, W i m H →
      ((Itc lo c (rangeS lo hi c).length).stop i H ∧ Qd H) ∨ ((Itc lo c (rangeS lo hi c).length).go i H ∧ ∃ Nx : Hp → Prop, (∀ H', Nx H' → ∃ m', m' < m ∧ W (i + 1) m' H') ∧ ∀ x H', (Itc lo c (rangeS lo hi c).length).yld i H x H' → g x (wipe σ vl) H' fun σ2 H2 => wipe σ2 vl = wipe σ vl ∧ tt σ2 H2 fun b H3 =>
        if b = true then te σ2 H3 fun y H4 => ∃ acc, H4 L = some (.lst acc) ∧ acc.length < sizeLine ∧ Nx (upd H4 L (.lst (acc ++ [y]))) else Nx H3) := by
  obtain ⟨hn, hM⟩ := hM
  refine ⟨fun i m H => m = (rangeS lo hi c).length - i ∧ i ≤ (rangeS lo hi c).length ∧ ∃ ys s, SI i ys s H ∧ mapS body ((rangeS lo hi c).drop i) ys s KM, ⟨_, rfl, Nat.zero_le _, [], s0, h0, hM⟩, ?_⟩
  rintro i m H ⟨rfl, hi', ys, s, T, q⟩
  by_cases hlt : i < (rangeS lo hi c).length
  · refine .inr ⟨hlt, fun H' => i + 1 ≤ (rangeS lo hi c).length ∧ ∃ ys s, SI (i + 1) ys s H' ∧ mapS body ((rangeS lo hi c).drop (i + 1)) ys s KM, fun H' p' => ⟨_, by omega, rfl, p'⟩, fun x H' y => ?_⟩
    obtain ⟨e, y⟩ := y
    subst e y
    rw [drop_cons' (rangeS_get hlt)] at q
    exact hs _ i ys s _ H' (by omega) T q _ fun y s' H' k T' => ⟨hlt, _, _, T', k⟩
  · have e : i = (rangeS lo hi c).length := by omega
    refine .inl ⟨by rw [e]; exact Nat.le_refl _, ?_⟩
    rw [List.drop_of_length_le (by omega)] at q
    exact hd _ ys s H q T
end
section
variable {α S : Type} {K : PySem.W.Frag} {H1 : Hp} {g : TG} {tb : TS} {D' : Ends} {σ : L2.St}
theorem for_rangeTG {lo hi c : Int} {body : Int → S → (S → Prop) → Prop} {KM : S → Prop} (SI : S → L2.St → Hp → Prop) (s0 : S) (hM : forC body (rangeS lo hi c) s0 KM) (h0 : SI s0 σ H1)
    (hs : ∀ (x : Int) (s : S) (k : S → Prop) (σ : L2.St) (H : Hp), SI s σ H → body x s k → ∀ Nx : L2.St → Hp → Prop, (∀ s' σ' H', k s' → SI s' σ' H' → Nx σ' H') →
      g (.int x) σ H fun σ2 H2 => tb { D' with nx := Nx, ct := Nx, bk := D'.nx } σ2 H2)
    (hd : ∀ s σ H, KM s → SI s σ H → D'.nx σ H) :
    ∃ W : Nat → Nat → L2.St → Hp → Prop, (∃ m, W 0 m σ H1) ∧ ∀ i m σ H, W i m σ H →
      ((Itc lo c (rangeS lo hi c).length).stop i H ∧ D'.nx σ H) ∨ ((Itc lo c (rangeS lo hi c).length).go i H ∧ ∃ Nx : L2.St → Hp → Prop, (∀ σ' H', Nx σ' H' → ∃ m', m' < m ∧ W (i + 1) m' σ' H') ∧ ∀ x H', (Itc lo c (rangeS lo hi c).length).yld i H x H' → g x σ H' fun σ2 H2 => tb { D' with nx := Nx, ct := Nx, bk := D'.nx } σ2 H2) := by
  refine L2.for_rangeC (lo := lo) (c := c) (n := (rangeS lo hi c).length) (D := D') (fun i σ H => ∃ s, SI s σ H ∧ forC body ((rangeS lo hi c).drop i) s KM) ⟨s0, h0, hM⟩ (fun i σ H hi' ⟨s, si, q⟩ => ?_) (fun σ H ⟨s, si, q⟩ => ?_)
  · rw [drop_cons' (rangeS_get hi')] at q
    exact hs _ s _ σ H si q _ fun s' σ' H' hk si2 => ⟨s', si2, hk⟩
  · rw [List.drop_of_length_le (Nat.le_refl _)] at q
    exact hd s σ H q si
end
theorem paired_at {ys : List V} {l : List Value} (hl : ys.length = l.length) (h : ∀ (i : Nat) (v : V) (u : Value), ys[i]? = some v → l[i]? = some u → L2.RelV v u) : Vals ys l := by
  induction ys generalizing l with
  | nil =>
    cases l with
    | nil => exact .nil
    | cons _ _ => cases hl
  | cons y ys ih =>
    cases l with
    | nil => cases hl
    | cons u l => exact .cons (h 0 y u rfl rfl) (ih (Nat.succ.inj hl) fun i v u a b => h (i + 1) v u a b)
section
variable {X : L2.Cx} {a b c e : PySem.Expr} {ta : TA}
/-- list(range(a, b, c)) -/
def tLstRg3 (ta : TA) : TE := fun σ H Q => ta σ H fun vs H1 => ∃ i j c : Int, vs = [.int i, .int j, .int c] ∧ (0 < c ∧ c < 2 ^ 30) ∧ RgB i j ∧ (rangeS i j c).length ≤ 2 ^ 24 ∧ ∀ q, H1 q = none → Q (.ref q) (upd H1 q (.lst ((rangeS i j c).map V.int)))
theorem pe_listRg3 {p pos p' pos' : Pos} (hc : X.calm = true) (hl : Gl X "list") (hlm : X.mg "list" = none) (hg : Gl X "range") (hm : X.mg "range" = none) (ha : PA X [a, b, c] ta)
    (hs : starEach [a, b, c] X.env = [(false, eval a X.env), (false, eval b X.env), (false, eval c X.env)] := by rfl) (hs2 : starEach [b, c] X.env = [(false, eval b X.env), (false, eval c X.env)] := by rfl) :
    PE X (.Call (.Name "list" p) [.Call (.Name "range" p') [a, b, c] [] pos'] [] pos) (tLstRg3 ta) := by
  refine ⟨fun pins s σ H Q I h => ?_⟩
  refine Call_ (ld_blt I hl hlm boot_list (PyProof.Rows.callWith_type1 (e := .Call (.Name "range" p') [a, b, c] [] pos') (rest := []) (PyProof.Rows.args_cons (Call_ (ld_blt I hg hm boot_range (PyProof.Rows.callWith_type1 (thn (ha.run pos' pins s σ H _ I h) fun us s1 ⟨vs, H1, I1, r1, q1⟩ => ?_) (by rw [hs, hs2]) (by rw [hs2]; rfl)))) rfl) rfl rfl))
  obtain ⟨i, j, c, e, ⟨c0, c1⟩, hb, hn, q⟩ := q1
  subst e
  cases r1 with
  | cons r rr =>
  cases rr with
  | cons r' rr =>
  cases rr with
  | cons r'' rr =>
  cases rr
  obtain ⟨t, rfl⟩ := r
  obtain ⟨t', rfl⟩ := r'
  obtain ⟨t'', rfl⟩ := r''
  refine call_range_3 (by omega) (PyProof.Rows.args_nil ?_) (.inl ?_)
  · have I2 : L2.Inv X pins σ H1 { heap := s1.heap.push { cls := .type "range", data := .fields #[.int i t, .int j t', .int c t''] }, gens := s1.gens, drawn := s1.drawn, toks := s1.toks, os := s1.os } := I1.kept fun b o e => Heap.get?_push_of_some _ e
    refine call_list_range (I2.ok.hd hc) (IsRange.new _ i j c t t' t'') (rgS_small c0 c1 hb) (rgS_size c0) hn fun h' tk acc' c' hk hob hit => ?_
    obtain ⟨hi1, hi2⟩ := hit
    refine ⟨.ref _, _, I2.laid (a := _) (o := .lst ((rangeS i j c).map V.int)) (t' := tk) hk (Nat.le_refl _) ?_, rfl, q _ I2.fresh⟩
    refine ⟨by rw [List.length_map, sizeLine_eq]; omega, acc'.toList, c', paired_at (by rw [List.length_map]; exact hi1.symm) fun k v u hv hu => ?_, hob⟩
    rw [List.getElem?_map] at hv
    have lt : k < (rangeS i j c).length := by
      rcases Nat.lt_or_ge k (rangeS i j c).length with h | h
      · exact h
      · rw [List.getElem?_eq_none h] at hv
        cases hv
    rw [rangeS_get lt] at hv
    cases hv
    obtain ⟨tt, e⟩ := hi2 k u (by simpa using hu)
    exact ⟨tt, e⟩
  · unfold Builtin.divisionGoesByPylong
    have e : c.natAbs.log2 < 30 := (Nat.log2_lt (by omega)).mpr (by omega)
    have d : (if (c == 0) = true then 0 else c.natAbs.log2 / 30 + 1) ≤ 1 := by
      split
      · omega
      · omega
    simp only [Bool.and_eq_false_iff, decide_eq_false_iff_not]
    exact .inl (by omega)
end
/-! text[::-1] -/
def revS (z : Str) : Str := ⟨z.cps.reverse⟩
theorem revS_len (z : Str) : (revS z).length = z.length := by
  show (z.cps.reverse).size = z.cps.size
  exact Array.size_reverse
theorem revS_eq (z : Str) (u : Tok) : Txt.sliceBy z none none (-1, u) = revS z := by
  have h := step_rev_list z u
  have e : (Txt.sliceBy z none none (-1, u)).cps = (revS z).cps := by
    apply Array.toList_inj.mp
    rw [h]
    show _ = (z.cps.reverse).toList
    rw [Array.toList_reverse]
    apply List.ext_getElem?
    intro i
    rw [List.getElem?_map]
    by_cases c : i < z.length
    · rw [List.getElem?_range c, List.getElem?_reverse (by exact c)]
      show some (z.cps.getD (z.length - 1 - i) 0) = z.cps.toList[z.length - 1 - i]?
      rw [Array.getD_eq_getD_getElem?, ← Array.getElem?_toList, List.getElem?_eq_getElem (show z.length - 1 - i < z.cps.toList.length from (by have : z.cps.toList.length = z.length := rfl; omega))]
      rfl
    · rw [List.getElem?_eq_none (by simpa using c), List.getElem?_eq_none (by rw [List.length_reverse]; exact Nat.le_of_not_lt c)]
      rfl
  cases hx : Txt.sliceBy z none none (-1, u) with
  | mk c =>
    rw [hx] at e
    show Str.mk c = Str.mk _
    rw [show c = _ from e]
    rfl
section
variable {X : L2.Cx} {e : PySem.Expr} {te : TE}
def tRevS (te : TE) : TE := fun σ H Q => te σ H fun x H1 => ∃ z : Str, x = .str z ∧ z.length ≤ sizeLine ∧ Q (.str (revS z)) H1
theorem pe_revS {e : PySem.Expr} {k : Nat} {p1 p2 p3 pos : Pos} (h : PE X e te)  (hl : ∀ o r : Value, letTemporaryGo e o r = pure () := by intros; rfl) :
    PE X (.Subscript e (.Slice none none (some (.UnaryOp .USub (.Constant (.int 1) k p1) p2)) p3) pos) (tRevS te) := by
  refine ⟨fun pins s σ H Q I q => ?_⟩
  have hn : PE X (.UnaryOp .USub (.Constant (.int 1) k p1) p2) (tC (.int (-1))) := ⟨fun pins s σ H Q I q => (pe_un un_neg pe_int).run pins s σ H Q I ⟨1, rfl, q⟩⟩
  refine wpAny_Subscript_Slice_step (T := "str") (id := "str.__getitem__") (by rfl) (thn (h.run pins s σ H _ I q) fun v s1 ⟨x, H1, I1, r1, q1⟩ => ?_) hl
  obtain ⟨z, e, hz, q1⟩ := q1
  subst e
  obtain ⟨t, rfl⟩ := r1
  refine wpAny_Slice (evalPart_none_step (evalPart_none_step (wpAny_evalPart_some (thn (hn.run pins s1 σ H1 (fun y H2 => y = .int (-1) ∧ H2 = H1) I1 ⟨rfl, rfl⟩) fun v s2 ⟨y, H2, I2, r2, q2⟩ => ?_))))
  obtain ⟨e1, e2⟩ := q2
  subst e1 e2
  obtain ⟨t2, rfl⟩ := r2
  refine ⟨rfl, wpAny_getItem_str_slice (l := none) (u := none) (st := some (-1, t2)) ⟨_, Heap.get?_push_size _ rfl, rfl, rfl⟩ (by rfl) ?_⟩
  have e : sliceMade z t none none (some (-1, t2)) = .str (revS z) := by
    rw [← revS_eq z t2]
    rfl
  rw [e]
  unfold Made.post
  exact ⟨by rw [revS_len]; exact hz, .str (revS z), _, I2.kept fun b o e => Heap.get?_push_of_some _ e, ⟨_, rfl⟩, q1⟩
end
theorem repL_intsM {ms : List Addr} {H : Hp} {xs : List Int} : repL ms H (xs.map fun y_ : Int => D.v (V.int y_)) (xs.map V.int) := by
  have e1 : xs.map (fun y_ : Int => D.v (V.int y_)) = (xs.map V.int).map D.v := by
    rw [List.map_map]
    rfl
  rw [e1]
  exact repL_flat.mpr rfl
/-! results that may be None, of plain values -/
def optV {α : Type} (f : α → V) : Option α → V
  | none => .non
  | some y => f y
theorem rep_oV {α : Type} {f : α → V} {ms : List Addr} {H : Hp} {m : Option α} : rep ms H (encO (fun y_ : α => D.v (f y_)) m) (optV f m) := by
  cases m <;> exact rep_v
theorem rep_optV {α : Type} {f : α → V} {ms : List Addr} {H : Hp} {m : Option α} {u : V} (h : rep ms H (encO (fun y_ : α => D.v (f y_)) m) u) : u = optV f m := by
  cases m <;> exact of_v h
theorem optV_isN {α : Type} {f : α → V} {m : Option α} (he : ∀ y, f y ≠ .non) : decide (optV f m = .non) = m.isNone := by
  cases m with
  | none => rfl
  | some y => exact decide_eq_false (he y)
theorem optV_isSome {α : Type} {f : α → V} {m : Option α} (he : ∀ y, f y ≠ .non) : (!decide (optV f m = .non)) = m.isSome := by
  rw [optV_isN he]
  cases m <;> rfl
theorem optV_some {α : Type} {f : α → V} {m : Option α} {y : α} (h : m = some y) : optV f m = f y := by rw [h]; rfl
theorem scal_oo {a b : Option Int} : scal (optV V.int a) (optV V.int b) = true := by
  cases a <;> cases b <;> rfl
theorem scal_oi {a : Option Int} {b : Int} : scal (optV V.int a) (V.int b) = true := by
  cases a <;> rfl
theorem scal_io {a : Int} {b : Option Int} : scal (V.int a) (optV V.int b) = true := by
  cases b <;> rfl
theorem scal_on {a : Option Int} : scal (optV V.int a) V.non = true := by
  cases a <;> rfl
/-! x in a list or tuple of plain values -/
section
variable {X : L2.Cx} {K : PySem.W.Frag} {ms : List Addr} {H : Hp} {u x : V}
theorem op_inSK (hK : X.K = K) : OpR X (compareOp .In) (rIn K false) := by
  subst hK
  exact op_in_seq
theorem op_ninSK (hK : X.K = K) : OpR X (compareOp .NotIn) (rIn K true) := by
  subst hK
  exact op_notIn_seq
theorem inQ_all {α : Type} {f : α → V} {xs : List α} (fs : ∀ y, flatV (f y) = true) : (xs.map f).all flatV = true := by
  rw [List.all_map]
  exact List.all_eq_true.mpr fun y _ => fs y
theorem inQ_eq {α : Type} {f : α → V} {xs : List α} {vs : List V} (h : repL ms H (xs.map fun y_ : α => D.v (f y_)) vs) : vs = xs.map f := by
  have e1 : xs.map (fun y_ : α => D.v (f y_)) = (xs.map f).map D.v := by
    rw [List.map_map]
    rfl
  rw [e1] at h
  exact repL_flat.mp h
theorem rep_inL {α : Type} {f : α → V} {xs : List α} {Q : VK} (h : rep ms H (.lst (xs.map fun y_ : α => D.v (f y_))) u) (fx : flatV x = true) (fs : ∀ y, flatV (f y) = true) (k : Q (.bl (inV x (xs.map f))) H) : rIn K false x u H Q := by
  simp only [rep] at h
  obtain ⟨p, vs, e, _, hp, hr⟩ := h
  rw [inQ_eq hr] at hp
  exact ⟨p, _, e, .inl (.inl (.inl hp)), fx, inQ_all fs, k⟩
theorem rep_ninL {α : Type} {f : α → V} {xs : List α} {Q : VK} (h : rep ms H (.lst (xs.map fun y_ : α => D.v (f y_))) u) (fx : flatV x = true) (fs : ∀ y, flatV (f y) = true) (k : Q (.bl (!inV x (xs.map f))) H) : rIn K true x u H Q := by
  simp only [rep] at h
  obtain ⟨p, vs, e, _, hp, hr⟩ := h
  rw [inQ_eq hr] at hp
  exact ⟨p, _, e, .inl (.inl (.inl hp)), fx, inQ_all fs, k⟩
theorem rep_inT {α : Type} {f : α → V} {xs : List α} {Q : VK} (h : rep ms H (.tup (xs.map fun y_ : α => D.v (f y_))) u) (fx : flatV x = true) (fs : ∀ y, flatV (f y) = true) (k : Q (.bl (inV x (xs.map f))) H) : rIn K false x u H Q := by
  simp only [rep] at h
  obtain ⟨p, vs, e, _, hp, hr⟩ := h
  rw [inQ_eq hr] at hp
  exact ⟨p, _, e, .inr (.inl (.inl hp)), fx, inQ_all fs, k⟩
theorem rep_ninT {α : Type} {f : α → V} {xs : List α} {Q : VK} (h : rep ms H (.tup (xs.map fun y_ : α => D.v (f y_))) u) (fx : flatV x = true) (fs : ∀ y, flatV (f y) = true) (k : Q (.bl (!inV x (xs.map f))) H) : rIn K true x u H Q := by
  simp only [rep] at h
  obtain ⟨p, vs, e, _, hp, hr⟩ := h
  rw [inQ_eq hr] at hp
  exact ⟨p, _, e, .inr (.inl (.inl hp)), fx, inQ_all fs, k⟩
theorem inV_int {x : Int} {xs : List Int} : inV (.int x) (xs.map V.int) = true ↔ x ∈ xs := by
  unfold inV
  rw [List.any_map, List.any_eq_true]
  constructor
  · rintro ⟨y, hy, e⟩
    have e' : (y == x) = true := e
    rw [← eq_of_beq e']
    exact hy
  · intro h
    exact ⟨x, h, show (x == x) = true from beq_self_eq_true x⟩
end
section
variable {K : PySem.W.Frag} {ms ps : List Addr} {H0 H H' H1 : Hp} {L : Addr} {d : D} {ds : List D} {u x y : V} {vs : List V} {ks : List Key} {k : Key}
theorem rep_itemsR {Q : VK} (w : Wd ms ps [] H0 H) (h : rep ms H (.dct ks ds) x)
    (q : ∀ (H' : Hp) (p : Addr), Ret [] H H' → (∀ (r : List V → Hp → Prop), (∀ vs, ks.length = vs.length → repL ms H' ds vs → (∃ ps, SqL K H' p (ps.map V.ref) ∧ Paired (fun p kv => SqT K H' p [kV kv.1, kv.2]) ps (ks.zip vs)) → r vs H') → ∃ vs, ks.length = vs.length ∧ repL ms H' ds vs ∧ r vs H') → Q (.ref p) H') : LiI.rItemsL x H Q := rep_items w h q
end
end Rx
namespace Rx
open PySem PySem.Spec PyProof.Rows L2
section
variable {K : PySem.W.Frag} {ms ps : List Addr} {H0 H : Hp} {x : V}
theorem rep_gunl {ds : List D} {n : Nat} {Q : L2.St → Hp → Prop} {t : TGs} {σ : L2.St} (h : rep ms H (.lst ds) x) (hn : ds.length = n) (k : ∀ vs, repL ms H ds vs → t vs σ H Q) : ∃ a xs, x = .ref a ∧ SqL K H a xs ∧ xs.length = n ∧ t xs σ H Q := by
  simp only [rep] at h
  obtain ⟨p, vs, e, _, hp, hr⟩ := h
  exact ⟨p, vs, e, .inl (.inl hp), by rw [← repL_len hr]; exact hn, k vs hr⟩
theorem rep_iterE {ds : List D} {P : Addr → Prop} (h : rep ms H (.lst ds) x) (k : ∀ a xs, x = .ref a → a ∉ ms → H a = some (.lst xs) → repL ms H ds xs → P a) : ∃ (a : Addr) (xs : List V), [x] = [.ref a] ∧ SqL K H a xs ∧ P a := by
  simp only [rep] at h
  obtain ⟨p, vs, e, n, hp, hr⟩ := h
  exact ⟨p, vs, by rw [e], .inl (.inl hp), k p vs e n hp hr⟩
end
section
variable {α S : Type} {K : PySem.W.Frag} {H1 : Hp} {g : TG} {tb : TS} {D' : Ends} {σ : L2.St}
/-- a pair that is new at T -/
theorem rep_pair {ms : List Addr} {H H2 : Hp} {T : Addr} {d1 d2 : D} {v1 v2 : V} (tr : ∀ m ∈ ms, H m ≠ none) (nT : H T = none) (e : H2 = upd H T (.tup [v1, v2])) (h1 : rep ms H d1 v1) (h2 : rep ms H d2 v2) : rep ms H2 (.tup [d1, d2]) (.ref T) := by
  subst e
  simp only [rep]
  refine ⟨T, [v1, v2], rfl, fun z => tr T z nT, upd_same, ?_⟩
  exact repL_ext (Ext.new nT) (repL_cons h1 (repL_cons h2 repL_nil))
theorem for_enumG {items : List α} {e : α → D} {ms : List Addr} {a : Addr} {xs : List V} {body : (Int × α) → S → (S → Prop) → Prop} {KM : S → Prop} (SI : S → L2.St → Hp → Prop) (s0 : S) (an : a ∉ ms) (ha : H1 a = some (.lst xs)) (hx : repL ms H1 (items.map e) xs)
    (kp : ∀ s σ H, SI s σ H → Keep ms H1 H) (tr : ∀ s σ H, SI s σ H → ∀ m ∈ ms, H m ≠ none) (hM : forC body ((rangeI 0 (items.length : Int)).zip items) s0 KM) (h0 : SI s0 σ H1)
    (hs : ∀ (x : Int × α) (u : V) (s : S) (k : S → Prop) (σ : L2.St) (H H2 : Hp), SI s σ H → Ext H H2 → rep ms H2 (.tup [.v (.int x.1), e x.2]) u → body x s k → ∀ Nx : L2.St → Hp → Prop, (∀ s' σ' H', k s' → SI s' σ' H' → Nx σ' H') →
      g u σ H2 fun σ2 H2 => tb { D' with nx := Nx, ct := Nx, bk := D'.nx } σ2 H2)
    (hd : ∀ s σ H, KM s → SI s σ H → D'.nx σ H) :
    ∃ W : Nat → Nat → L2.St → Hp → Prop, (∃ m, W 0 m σ H1) ∧ ∀ i m σ H, W i m σ H →
      ((Ite K a).stop i H ∧ D'.nx σ H) ∨ ((Ite K a).go i H ∧ ∃ Nx : L2.St → Hp → Prop, (∀ σ' H', Nx σ' H' → ∃ m', m' < m ∧ W (i + 1) m' σ' H') ∧ ∀ x H', (Ite K a).yld i H x H' → g x σ H' fun σ2 H2 => tb { D' with nx := Nx, ct := Nx, bk := D'.nx } σ2 H2) := by
  have hl : items.length = xs.length := by
    have := repL_len hx
    rwa [List.length_map] at this
  have rl : (rangeI 0 (items.length : Int)).length = items.length := by rw [rangeI_len]; omega
  have zl : ((rangeI 0 (items.length : Int)).zip items).length = xs.length := by rw [List.length_zip, rl, hl, Nat.min_self]
  refine for_it (walk_enum (K := K) (a := a) (xs := xs)) (D := D') (fun i σ H => ∃ s, SI s σ H ∧ forC body (((rangeI 0 (items.length : Int)).zip items).drop i) s KM) ⟨s0, h0, hM⟩ (fun i σ H _ ⟨s, si, _⟩ => .inl (.inl (kp s σ H si a _ an ha))) (fun i u σ H H' hi ⟨s, si, q⟩ y => ?_) (fun σ H ⟨s, si, q⟩ => ?_)
  · obtain ⟨T, x1, x2, rfl, nT, eH, e1, e2⟩ := y
    have hit : items[i]? = some (items[i]'(by omega)) := List.getElem?_eq_getElem (by omega)
    have hz : ((rangeI 0 (items.length : Int)).zip items)[i]? = some ((i : Int), items[i]'(by omega)) := by
      rw [List.getElem?_zip_eq_some]
      exact ⟨by rw [rangeI_get (by omega)]; congr 1; omega, hit⟩
    rw [drop_cons' hz] at q
    obtain ⟨v, hv, rv⟩ := repL_get (repL_keep (kp s σ H si) hx) (j := i) (d := e (items[i]'(by omega))) (by rw [List.getElem?_map, hit]; rfl)
    have e2 : xs[i]? = some x2 := e2
    rw [e2] at hv
    have ev : x2 = v := Option.some.inj hv
    subst ev
    have ev1 : V.int (i : Nat) = x1 := Option.some.inj e1
    subst ev1
    have ex : Ext H H' := by rw [eH]; exact Ext.new nT
    exact hs ((i : Int), items[i]'(by omega)) (.ref T) s _ σ H H' si ex (rep_pair (tr s σ H si) nT eH rep_v rv) q _ fun s' σ' H'' hk si2 => ⟨s', si2, hk⟩
  · rw [List.drop_of_length_le (by omega)] at q
    exact hd s σ H q si
end
end Rx
namespace Rx
open PySem PySem.Spec PyProof.Rows L2
/-! dicts with any keys of one kind -/
section
variable {α κ : Type} [DecidableEq κ]
def putD (m : List (κ × α)) (k : κ) (y : α) : List (κ × α) := if (m.any fun q => decide (q.1 = k)) = true then m.map (fun q => if q.1 = k then (q.1, y) else q) else m ++ [(k, y)]
def getD (m : List (κ × α)) (k : κ) : Option α := (m.find? fun q => decide (q.1 = k)).map (·.2)
def hasD (m : List (κ × α)) (k : κ) : Bool := m.any fun q => decide (q.1 = k)
theorem zip_fst_any {k : κ} : ∀ {m : List (κ × α)} {vs : List V}, m.length = vs.length → (((m.map (·.1)).zip vs).any fun kv => decide (kv.1 = k)) = m.any fun q => decide (q.1 = k)
  | [], [], _ => rfl
  | q :: m, v :: vs, h => by
    rw [List.map_cons, List.zip_cons_cons, List.any_cons, List.any_cons, zip_fst_any (by simpa using h)]
  | [], _ :: _, h => by simp at h
  | _ :: _, [], h => by simp at h
theorem putK_map {k : κ} {y : α} {v : V} : ∀ {m : List (κ × α)} {vs : List V}, m.length = vs.length → ((m.map (·.1)).zip vs).map (fun kv => if kv.1 = k then (kv.1, v) else kv) = ((m.map (fun q => if q.1 = k then (q.1, y) else q)).map (·.1)).zip ((m.zip vs).map fun z => if z.1.1 = k then v else z.2)
  | [], [], _ => rfl
  | q :: m, w :: vs, h => by
    have ih := putK_map (k := k) (y := y) (v := v) (m := m) (vs := vs) (by simpa using h)
    rw [List.map_cons, List.zip_cons_cons, List.map_cons, ih, List.map_cons, List.map_cons, List.zip_cons_cons, List.map_cons, List.zip_cons_cons]
    by_cases e : q.1 = k
    · simp [e]
    · simp [e]
  | [], _ :: _, h => by simp at h
  | _ :: _, [], h => by simp at h
end
section
variable {α : Type} {K : PySem.W.Frag} {ms ps : List Addr} {H0 H : Hp} {L : Addr} {x : V} {e : α → D}
theorem repL_mapD {ms : List Addr} {H : Hp} {y : α} {v : V} {k : Key} (rv : rep ms H (e y) v) : ∀ {m : List (Key × α)} {vs : List V}, repL ms H (m.map fun q => e q.2) vs → repL ms H ((m.map (fun q => if q.1 = k then (q.1, y) else q)).map fun q => e q.2) ((m.zip vs).map fun z => if z.1.1 = k then v else z.2)
  | [], vs, h => by
    have := repL_empty h
    subst this
    exact repL_nil
  | q :: m, vs, h => by
    obtain ⟨u, us, rfl, h1, h2⟩ := repL_uncons h
    have ih := repL_mapD (y := y) (v := v) (k := k) rv h2
    by_cases c : q.1 = k
    · simp only [List.map_cons, List.zip_cons_cons, if_pos c]
      exact repL_cons rv ih
    · simp only [List.map_cons, List.zip_cons_cons, if_neg c]
      exact repL_cons h1 ih
/-- d[k] = v, the key new or not -/
theorem mo_putA {m : List (Key × α)} {k : Key} {y : α} {v : V} {Q : Hp → Prop} (mo : MutO ms ps H0 H L (.dct (m.map (·.1)) (m.map fun q => e q.2))) (rv : rep ms H (e y) v) (hk : m.length < 16777216)
    (q : ∀ vs, ((putD m k y).map (·.1)).length = vs.length → repL ms H ((putD m k y).map fun q => e q.2) vs → Q (upd H L (.dK (((putD m k y).map (·.1)).zip vs)))) : rSetD (.ref L) (kV k) v H Q := by
  obtain ⟨vs, h1, h2, h3⟩ := mo.val
  have hl : m.length = vs.length := by rw [← h2, List.length_map]
  refine ⟨L, _, rfl, DPut.k h1 ?_, ?_⟩
  · rw [List.length_zip, ← h2, sizeLine_eq, Nat.min_self, List.length_map]
    exact hk
  · unfold putK
    rw [zip_fst_any hl]
    unfold putD at q
    by_cases c : (m.any fun q => decide (q.1 = k)) = true
    · rw [if_pos c, putK_map (y := y) hl]
      rw [if_pos c] at q
      exact q _ (by simp [hl]) (repL_mapD rv h3)
    · rw [if_neg c]
      rw [if_neg c] at q
      have z : (m.map (·.1)).zip vs ++ [(k, v)] = ((m ++ [(k, y)]).map (·.1)).zip (vs ++ [v]) := by
        rw [List.map_append, List.zip_append h2]
        rfl
      rw [z]
      refine q _ (by simp [hl]) ?_
      rw [List.map_append]
      exact repL_app h3 (repL_one rv)
theorem valV_getD {ms : List Addr} {H : Hp} {k : Key} {y : α} : ∀ {m : List (Key × α)} {vs : List V}, repL ms H (m.map fun q => e q.2) vs → getD m k = some y → ∃ v, valV ((m.map (·.1)).zip vs) k = some v ∧ rep ms H (e y) v
  | [], _, _, h => by simp [getD] at h
  | q :: m, vs, r, h => by
    obtain ⟨u, us, rfl, h1, h2⟩ := repL_uncons r
    by_cases c : q.1 = k
    · have : q.2 = y := by simpa [getD, c] using h
      subst this
      exact ⟨u, valV_pos (p := (q.1, u)) c, h1⟩
    · have h' : getD m k = some y := by
        unfold getD at h ⊢
        rw [List.find?_cons_of_neg (by simpa using c)] at h
        exact h
      obtain ⟨v, hv, rv⟩ := valV_getD h2 h'
      exact ⟨v, by rw [List.map_cons, List.zip_cons_cons, valV_neg (p := (q.1, u)) c]; exact hv, rv⟩
theorem rep_dgetA {m : List (Key × α)} {k : Key} {y : α} {Q : VK} (h : rep ms H (.dct (m.map (·.1)) (m.map fun q => e q.2)) x) (hy : getD m k = some y) (q : ∀ v, rep ms H (e y) v → Q v H) :
    ∃ a v, x = .ref a ∧ DGet H a (kV k) (some v) ∧ Q v H := by
  simp only [rep] at h
  obtain ⟨p, vs, rfl, _, hp, hl, hr⟩ := h
  obtain ⟨v, hv, rv⟩ := valV_getD hr hy
  refine ⟨p, v, rfl, ?_, q v rv⟩
  have := DGet.k (k := k) hp
  rw [hv] at this
  exact this
theorem mo_dgetA {m : List (Key × α)} {k : Key} {y : α} {Q : VK} (mo : MutO ms ps H0 H L (.dct (m.map (·.1)) (m.map fun q => e q.2))) (hy : getD m k = some y) (q : ∀ v, rep ms H (e y) v → Q v H) :
    ∃ a v, V.ref L = .ref a ∧ DGet H a (kV k) (some v) ∧ Q v H := by
  obtain ⟨vs, hp, hl, hr⟩ := mo.val
  obtain ⟨v, hv, rv⟩ := valV_getD hr hy
  refine ⟨L, v, rfl, ?_, q v rv⟩
  have := DGet.k (k := k) hp
  rw [hv] at this
  exact this
end
section
variable {K : PySem.W.Frag} {ms : List Addr} {H : Hp} {x : V}
/-- an item of a list whose items are of several kinds -/
theorem rep_ixH {ds : List D} {d : D} {i : Int} {σ : L2.St} {Q : VK} (j : Nat) (h : rep ms H (.lst ds) x) (hi : i = (j : Int)) (hd : ds[j]? = some d) (q : ∀ v, rep ms H d v → Q v H) : tC (V.int i) σ H fun y H2 => rIxL K x y H2 Q := by
  simp only [rep] at h
  obtain ⟨p, vs, rfl, _, hp, hr⟩ := h
  obtain ⟨v, hv, rv⟩ := repL_get hr hd
  subst hi
  exact ⟨p, vs, _, v, rfl, rfl, .inl (.inl hp), atI_nat hv, q v rv⟩
end
/-! xs.index(x): numbers -/
theorem idxOf_le_of {w : Int} : ∀ {xs : List Int} {m : Nat}, xs[m]? = some w → xs.idxOf w ≤ m
  | [], _, h => by simp at h
  | x :: xs, 0, h => by
    have : x = w := Option.some.inj h
    subst this
    rw [List.idxOf_cons_self]
    exact Nat.le_refl 0
  | x :: xs, m + 1, h => by
    have ih := idxOf_le_of (xs := xs) (m := m) (by simpa using h)
    rw [List.idxOf_cons]
    cases x == w
    · show List.idxOf w xs + 1 ≤ m + 1
      omega
    · show 0 ≤ m + 1
      omega
def rIndexI (K : PySem.W.Frag) : V → List V → Hp → VK → Prop := rIndex K
theorem mt_indexK {X : Cx} {K : PySem.W.Frag} (hK : X.K = K) : MtR X "list.index" (rIndexI K) := by
  subst hK
  exact mt_index
theorem rep_indexI {K : PySem.W.Frag} {ms : List Addr} {H : Hp} {x : V} {xs : List Int} {n : Int} {Q : VK} (h : rep ms H (.lst (xs.map fun y => .v (.int y))) x) (hm : n ∈ xs) (q : Q (.int (xs.idxOf n : Int)) H) : rIndexI K x [.int n] H Q := by
  simp only [rep] at h
  obtain ⟨p, vs, rfl, _, hp, hr⟩ := h
  have ev : vs = xs.map V.int := by
    have := repL_flat (xs := xs.map V.int) (vs := vs) (ms := ms) (H := H)
    rw [List.map_map] at this
    exact this.mp hr
  subst ev
  have hl : xs.idxOf n < xs.length := List.idxOf_lt_length_iff.mpr hm
  have eqv : ∀ a b : Int, eqV (.int a) (.int b) = decide (a = b) := fun a b => by
    by_cases c : a = b
    · subst c
      rw [decide_eq_true rfl]
      show (a == a) = true
      exact beq_self_eq_true a
    · rw [decide_eq_false c]
      show (a == b) = false
      exact beq_eq_false_iff_ne.mpr c
  refine ⟨p, _, _, xs.idxOf n, .int n, rfl, rfl, .inl (.inl hp), rfl, ?_, ?_, ?_, ?_, q⟩
  · rw [List.all_eq_true]
    intro z hz
    obtain ⟨w, _, rfl⟩ := List.mem_map.mp hz
    rfl
  · rw [List.getElem?_map, List.getElem?_eq_getElem hl, List.getElem_idxOf hl]
    rfl
  · rw [eqv, decide_eq_true rfl]
  · intro m z' hm' hz
    rw [List.getElem?_map] at hz
    obtain ⟨w, hw, rfl⟩ := Option.map_eq_some_iff.mp hz
    rw [eqv]
    refine decide_eq_false fun c => ?_
    subst c
    have := idxOf_le_of hw
    omega
theorem rep_indexIC {K : PySem.W.Frag} {ms : List Addr} {H : Hp} {x : V} {xs : List Int} {n : Int} {σ : L2.St} {Q : VK} (h : rep ms H (.lst (xs.map fun y => .v (.int y))) x) (hm : n ∈ xs) (q : Q (.int (xs.idxOf n : Int)) H) : tCons (tC (V.int n)) tNil σ H fun ys H2 => rIndexI K x ys H2 Q := rep_indexI (K := K) (Q := Q) h hm q
end Rx
namespace Rx
open PySem PySem.Spec PyProof.Rows L2
theorem units65 {k : Nat} {A : Around} (r : Room k A) : A.units + 65 < cLine := by
  have := r.un
  omega
def tyN : D → String
  | .v (.bl _) => "bool"
  | .v (.int _) => "int"
  | .v (.str _) => "str"
  | .v _ => "NoneType"
  | .lst _ => "list"
  | .tup _ => "tuple"
  | .dct _ _ => "dict"
  | .dcT _ _ => "dict"
  | .ins _ _ _ => "object"
def tyOk : D → Bool
  | .v .non => true
  | .v (.bl _) => true
  | .v (.int _) => true
  | .v (.str _) => true
  | .v _ => false
  | .ins _ _ _ => false
  | _ => true
section
variable {K : PySem.W.Frag} {ms ps : List Addr} {H0 H : Hp} {d : D} {u x : V}
theorem rep_TyN (h : rep ms H d u) (n : tyOk d = true) {T : String} (e : tyN d = T) : TyX K H u (.type T) := by
  subst e
  cases d with
  | v x =>
    obtain rfl := of_v h
    cases u <;> simp only [tyOk] at n
    · exact .base .non
    · exact .base (.bl _)
    · exact .base (.int _)
    · exact .base (.str _)
    all_goals cases n
  | lst ds =>
    simp only [rep] at h
    obtain ⟨p, vs, rfl, _, hp, _⟩ := h
    exact .base (.lst hp)
  | tup ds =>
    simp only [rep] at h
    obtain ⟨p, vs, rfl, _, hp, _⟩ := h
    exact .base (.tup hp)
  | dct ks ds =>
    simp only [rep] at h
    obtain ⟨p, vs, rfl, _, hp, _⟩ := h
    exact .base (.dK hp)
  | dcT ks ds =>
    simp only [rep] at h
    obtain ⟨p, vs, rfl, _, hp, _⟩ := h
    exact .base (.dT hp)
  | ins _ _ _ => cases n
theorem call_isiTK {X : Cx} (hK : X.K = K) : CallR X (.builtin "isinstance") (rIsiT K) := by
  subst hK
  exact call_isiT
theorem rep_isi1 {a b : String} {r : Bool} {P : Bool → Prop} (h : rep ms H d u) (n : tyOk d = true) (e : tyN d = a) (k : kitB a b = some r) (q : P r) :
    ∃ (x' c : V) (t u' : Value) (b' : Bool), [u, .ty b] = [x', c] ∧ ClsV c u' ∧ TyX K H x' t ∧ PySem.W.kitOne K t u' = some b' ∧ P b' :=
  ⟨u, .ty b, .type a, .type b, r, rfl, .ty b, rep_TyN h n e, kit_ty k, q⟩
theorem rep_isi2 {a b c : String} {r1 r2 : Bool} {tp : Addr} {P : Bool → Prop} (h : rep ms H d u) (n : tyOk d = true) (e : tyN d = a) (ht : H tp = some (.tup [.ty b, .ty c])) (k1 : kitB a b = some r1) (k2 : kitB a c = some r2) (q : P (r1 || r2)) :
    ∃ (x : V) (tp' : Addr) (cs : List V) (t : Value) (us : List Value) (b' : Bool), [u, .ref tp] = [x, .ref tp'] ∧ H tp' = some (.tup cs) ∧ Paired ClsV cs us ∧ TyX K H x t ∧ PySem.W.kitAny K t us = some b' ∧ P b' := by
  refine ⟨u, tp, [.ty b, .ty c], .type a, [.type b, .type c], r1 || r2, rfl, ht, .cons (.ty b) (.cons (.ty c) .nil), rep_TyN h n e, ?_, q⟩
  refine kitAny_cons (kit_ty k1) (fun e1 => ?_) (fun e1 => by rw [e1]; rfl)
  refine kitAny_cons (kit_ty k2) (fun e2 => ?_) (fun e2 => by rw [e2, Bool.or_true])
  rw [e1, e2]
  rfl
/-- t[:j], not the whole -/
theorem sl_tupK {X : Cx} (hK : X.K = K) : SlR X (rSlT K) := by
  subst hK
  exact sl_tup
theorem repL_takeD : ∀ (j : Nat) {ds : List D} {vs : List V}, repL ms H ds vs → repL ms H (ds.take j) (vs.take j)
  | 0, _, _, _ => repL_nil
  | j + 1, [], vs, h => by
    have := repL_empty h
    subst this
    exact repL_nil
  | j + 1, d :: ds, vs, h => by
    obtain ⟨u, us, rfl, h1, h2⟩ := repL_uncons h
    exact repL_cons h1 (repL_takeD j h2)
theorem rep_slT {ds : List D} {Q : VK} (j : Nat) (h : rep ms H (.tup ds) x) (hj : j < ds.length) (k : ∀ vs, repL ms H (ds.take j) vs → ∀ p, H p = none → Q (.ref p) (upd H p (.tup vs))) : rSlT K x none (some (j : Int)) H Q := by
  simp only [rep] at h
  obtain ⟨p, vs, rfl, _, hp, hr⟩ := h
  have hl := repL_len hr
  have e1 : HT.sIx vs.length vs.length (some (j : Int)) = j := by
    rw [HT.sIx_nat]
    omega
  refine ⟨p, vs, rfl, .inl (.inl hp), fun z => ?_, fun q hq => ?_⟩
  · rw [e1] at z
    omega
  · have e : cutV vs none (some (j : Int)) = vs.take j := by
      unfold cutV
      rw [e1, HT.sIx_none, List.drop_zero, Nat.sub_zero]
    rw [e]
    exact k _ (repL_takeD j hr) q hq
theorem rep_lenT {ds : List D} {n : Nat} {P : Nat → Prop} (h : rep ms H (.tup ds) x) (hn : ds.length = n) (q : P n) : ∃ (y : V) (m : Nat), [x] = [y] ∧ LenV K y H m ∧ P m := by
  simp only [rep] at h
  obtain ⟨p, vs, rfl, _, hp, hr⟩ := h
  exact ⟨_, vs.length, rfl, .inr ⟨vs, .inl (.inl hp), rfl⟩, by rw [← repL_len hr, hn]; exact q⟩
/-! x in a list of data -/
theorem op_inDK {X : Cx} (hK : X.K = K) (hu : X.A.units + 65 < cLine) : OpR X (compareOp .In) (rInD K) := by
  subst hK
  exact op_inD hu
theorem op_ninDK {X : Cx} (hK : X.K = K) (hu : X.A.units + 65 < cLine) : OpR X (compareOp .NotIn) (rNotInD K) := by
  subst hK
  exact op_notInD hu
def inDv (d : D) (es : List D) : Bool := (pyL es).any fun z => PyData.eqv z (pyOf d)
theorem rep_inD {es : List D} {y : V} {Q : VK} (h1 : rep ms H d x) (h2 : rep ms H (.lst es) y) (p1 : plainD d = true) (p2 : plainD (.lst es) = true) (s1 : SeqAt.shaped (pyOf d) = true) (s2 : SeqAt.shaped (pyOf (.lst es)) = true) (q : Q (.bl (inDv d es)) H) : rInD K x y H Q :=
  ⟨pyOf d, pyL es, dp_of d x p1 h1, by have := dp_of (K := K) (.lst es) y p2 h2; simpa only [pyOf] using this, s1, by simpa only [pyOf] using s2, q⟩
theorem rep_ninD {es : List D} {y : V} {Q : VK} (h1 : rep ms H d x) (h2 : rep ms H (.lst es) y) (p1 : plainD d = true) (p2 : plainD (.lst es) = true) (s1 : SeqAt.shaped (pyOf d) = true) (s2 : SeqAt.shaped (pyOf (.lst es)) = true) (q : Q (.bl (!inDv d es)) H) : rNotInD K x y H Q :=
  ⟨pyOf d, pyL es, dp_of d x p1 h1, by have := dp_of (K := K) (.lst es) y p2 h2; simpa only [pyOf] using this, s1, by simpa only [pyOf] using s2, q⟩
end
/-! dicts whose keys are tuples -/
section
variable {α : Type} {K : PySem.W.Frag} {ms ps : List Addr} {H0 H : Hp} {L : Addr} {x kx : V} {e : α → D}
theorem mo_nilT (w : Wd ms ps [] H0 H) (nl : H L = none) : MutO (L :: ms) ps H0 (upd H L (.dT [])) L (.dcT (([] : List (List Key × α)).map (·.1)) (([] : List (List Key × α)).map fun q => e q.2)) where
  im := List.mem_cons_self
  hp := fun z => w.tr L (w.pm L z) nl
  h0 := by
    cases h : H0 L with
    | none => rfl
    | some o => exact absurd nl (w.grow L (by rw [h]; exact fun z => nomatch z))
  val := ⟨[], upd_same, rfl, repL_nil⟩
theorem key_tup {ks : List Key} {ds : List D} (h : rep ms H (.tup ds) kx) (hd : ds = ks.map fun k => D.v (kV k)) : ∃ b, kx = .ref b ∧ H b = some (.tup (ks.map kV)) := by
  subst hd
  simp only [rep] at h
  obtain ⟨p, vs, rfl, _, hp, hr⟩ := h
  have : vs = ks.map kV := by
    have q := repL_flat (xs := ks.map kV) (vs := vs) (ms := ms) (H := H)
    rw [List.map_map] at q
    exact q.mp hr
  subst this
  exact ⟨p, rfl, hp⟩
theorem valV_hasT {m : List (List Key × α)} {vs : List V} (h : repL ms H (m.map fun q => e q.2) vs) (k : List Key) : (valV ((m.map (·.1)).zip vs) k).isSome = hasD m k := by
  have hl := repL_len h
  rw [List.length_map] at hl
  rw [← valV_any, zip_fst_any hl]
  rfl
/-- k in d -/
theorem mo_hasT {m : List (List Key × α)} {ks : List Key} {ds : List D} {P : Option V → Prop} (mo : MutO ms ps H0 H L (.dcT (m.map (·.1)) (m.map fun q => e q.2))) (hk : rep ms H (.tup ds) kx) (hd : ds = ks.map fun k => D.v (kV k)) (q : ∀ o : Option V, o.isSome = hasD m ks → P o) :
    ∃ (a : Addr) (o : Option V), V.ref L = .ref a ∧ DGet H a kx o ∧ P o := by
  obtain ⟨vs, hp, hl, hr⟩ := mo.val
  obtain ⟨b, rfl, hb⟩ := key_tup hk hd
  exact ⟨L, _, rfl, DGet.t hp hb, q _ (valV_hasT hr ks)⟩
theorem repL_mapT {y : α} {v : V} {k : List Key} (rv : rep ms H (e y) v) : ∀ {m : List (List Key × α)} {vs : List V}, repL ms H (m.map fun q => e q.2) vs → repL ms H ((m.map (fun q => if q.1 = k then (q.1, y) else q)).map fun q => e q.2) ((m.zip vs).map fun z => if z.1.1 = k then v else z.2)
  | [], vs, h => by
    have := repL_empty h
    subst this
    exact repL_nil
  | q :: m, vs, h => by
    obtain ⟨u, us, rfl, h1, h2⟩ := repL_uncons h
    have ih := repL_mapT (y := y) (v := v) (k := k) rv h2
    by_cases c : q.1 = k
    · simp only [List.map_cons, List.zip_cons_cons, if_pos c]
      exact repL_cons rv ih
    · simp only [List.map_cons, List.zip_cons_cons, if_neg c]
      exact repL_cons h1 ih
theorem mo_putT {m : List (List Key × α)} {ks : List Key} {ds : List D} {y : α} {v : V} {Q : Hp → Prop} (mo : MutO ms ps H0 H L (.dcT (m.map (·.1)) (m.map fun q => e q.2))) (hk : rep ms H (.tup ds) kx) (hd : ds = ks.map fun k => D.v (kV k)) (rv : rep ms H (e y) v) (hs : m.length < 16777216)
    (q : ∀ vs, ((putD m ks y).map (·.1)).length = vs.length → repL ms H ((putD m ks y).map fun q => e q.2) vs → Q (upd H L (.dT (((putD m ks y).map (·.1)).zip vs)))) : rSetD (.ref L) kx v H Q := by
  obtain ⟨vs, h1, h2, h3⟩ := mo.val
  obtain ⟨b, rfl, hb⟩ := key_tup hk hd
  have hl : m.length = vs.length := by rw [← h2, List.length_map]
  refine ⟨L, _, rfl, DPut.t h1 hb ?_, ?_⟩
  · rw [List.length_zip, ← h2, sizeLine_eq, Nat.min_self, List.length_map]
    exact hs
  · unfold putK
    rw [zip_fst_any hl]
    unfold putD at q
    by_cases c : (m.any fun q => decide (q.1 = ks)) = true
    · rw [if_pos c, putK_map (y := y) hl]
      rw [if_pos c] at q
      exact q _ (by simp [hl]) (repL_mapT rv h3)
    · rw [if_neg c]
      rw [if_neg c] at q
      have z : (m.map (·.1)).zip vs ++ [(ks, v)] = ((m ++ [(ks, y)]).map (·.1)).zip (vs ++ [v]) := by
        rw [List.map_append, List.zip_append h2]
        rfl
      rw [z]
      refine q _ (by simp [hl]) ?_
      rw [List.map_append]
      exact repL_app h3 (repL_one rv)
theorem mo_setT {ks : List (List Key)} {vs : List V} {ds : List D} {d : D} (m : MutO ms ps H0 H L d) (hl : ks.length = vs.length) (r : repL ms H ds vs) : MutO ms ps H0 (upd H L (.dT (ks.zip vs))) L (.dcT ks ds) :=
  ⟨m.im, m.hp, m.h0, vs, upd_same, hl, repL_put m.im r⟩
end
/-! sorted(xs), ints; tuple(xs) -/
section
variable {K : PySem.W.Frag} {ms ps : List Addr} {H0 H : Hp} {x : V}
theorem cr_sortedIK {X : Cx} (hK : X.K = K) : CallR X (.builtin "sorted") (rSortedI K) := by
  subst hK
  exact cr_sortedI
theorem rep_sortI {xs : List Int} {P : List Int → Addr → Prop} (h : rep ms H (.lst (xs.map fun y => .v (.int y))) x) (q : ∀ ys : List Int, ys.Perm xs → ys.Pairwise (· ≤ ·) → ∀ p, H p = none → P ys p) :
    ∃ (a : Addr) (ns : List Int), [x] = [V.ref a] ∧ SqL K H a (ns.map V.int) ∧ ∀ (ns' : List Int) (p : Addr), ns'.Perm ns → ns'.Pairwise (· ≤ ·) → H p = none → P ns' p := by
  simp only [rep] at h
  obtain ⟨p, vs, rfl, _, hp, hr⟩ := h
  have ev : vs = xs.map V.int := by
    have := repL_flat (xs := xs.map V.int) (vs := vs) (ms := ms) (H := H)
    rw [List.map_map] at this
    exact this.mp hr
  subst ev
  exact ⟨p, xs, rfl, .inl (.inl hp), fun ys q1 a b c => q ys a b q1 c⟩
theorem call_tuple_ofK {X : Cx} (hK : X.K = K) : CallR X (.type "tuple") (fun xs H Q => ∃ p ys, xs = [.ref p] ∧ ((SqL K H p ys ∧ ∀ l, H l = none → Q (.ref l) (upd H l (.tup ys))) ∨ (SqT K H p ys ∧ Q (.ref p) H))) := by
  subst hK
  exact call_tuple_of
theorem rep_tupOf {ds : List D} {P : List V → Addr → Prop} {R : Addr → Prop} (h : rep ms H (.lst ds) x) (q : ∀ ys, repL ms H ds ys → ∀ l, H l = none → P ys l) : ∃ p ys, [x] = [V.ref p] ∧ ((SqL K H p ys ∧ ∀ l, H l = none → P ys l) ∨ (SqT K H p ys ∧ R p)) := by
  simp only [rep] at h
  obtain ⟨p, vs, rfl, _, hp, hr⟩ := h
  exact ⟨p, vs, rfl, .inl ⟨.inl (.inl hp), q vs hr⟩⟩
end
end Rx
namespace Rx
open PySem PySem.Spec PyProof.Rows L2
section
variable {prog : Program} {w : World} {A : Around} {E : Value → Shared → Prop} {s : Shared}
/-- a triple that stands in the heap -/
def Trip (h : Heap) (v : Value) (k : Int × Int × Str) : Prop := ∃ (a : Addr) (o : Obj) (t1 t2 t3 : Tok) (n : Nat), v = Value.ref a ∧ h.get? a = some o ∧ o.cls = .type "tuple" ∧ o.data = .seq #[.int k.1 t1, .int k.2.1 t2, .str k.2.2 t3] n
def lxT (k l : Int × Int × Str) : Bool := SrtO.lexB (k.1, k.2.1) (l.1, l.2.1)
theorem lxT_swo (k : Value → Int × Int × Str) : SrtO.Swo fun v u => lxT (k v) (k u) := SrtO.swo_lex fun v => ((k v).1, (k v).2.1)
theorem Trip.moved {h h' : Heap} {v : Value} {k : Int × Int × Str} (t : Trip h v k) (kp : ∀ b o, h.get? b = some o → o.cls = .type "tuple" → h'.get? b = some o) : Trip h' v k := by
  obtain ⟨a, o, t1, t2, t3, n, e, ho, hc, hd⟩ := t
  exact ⟨a, o, t1, t2, t3, n, e, kp a o ho hc, hc, hd⟩
theorem trip_lt {vs : List Value} {k : Value → Int × Int × Str} (hp : ∀ v ∈ vs, Trip s.heap v (k v)) (hu : ∀ v ∈ vs, ∀ u ∈ vs, (k v).1 = (k u).1 → (k v).2.1 = (k u).2.1 → (k v).2.2 = (k u).2.2) :
    SrtO.Cmp prog w A s (tuples' true) (fun p => p.1 ∈ vs) (SrtO.lt2 fun v u => lxT (k v) (k u)) := by
  intro p q m1 m2
  have uq := hu _ m1 _ m2
  obtain ⟨a1, o1, x1, y1, z1, n1, e1, g1, c1, d1⟩ := hp _ m1
  obtain ⟨a2, o2, x2, y2, z2, n2, e2, g2, c2, d2⟩ := hp _ m2
  show wpAny (model prog w) A (keyLt' (tuples' true) p.1 q.1) (fun b s2 => s2 = s ∧ b = lxT (k p.1) (k q.1)) (fun _ _ => False) s
  unfold lxT SrtO.lexB
  generalize k p.1 = kp at *
  generalize k q.1 = kq at *
  obtain ⟨i, j, c⟩ := kp
  obtain ⟨i2, j2, c2'⟩ := kq
  simp only at uq d1 d2 ⊢
  rw [e1, e2]
  refine PySem.W.kat_lt g1 d1 g2 d2 ?_
  show PySem.W.KatLex prog w A true (decide (3 < 3)) _ [(Value.int i x1, Value.int i2 x2), (Value.int j y1, Value.int j2 y2), (Value.str c z1, Value.str c2' z2)] 0 s
  refine PySem.W.kat_cons (SeqAt.EqAt.int_int i x1 i2 x2 prog w _ _ (PySem.W.kat_go (fun f1 => ?_) fun f1 => ?_))
  · obtain rfl : i = i2 := by simpa using f1
    refine PySem.W.kat_yes (PySem.W.kat_cons (SeqAt.EqAt.int_int j y1 j2 y2 prog w _ _ (PySem.W.kat_go (fun f2 => ?_) fun f2 => ?_)))
    · obtain rfl : j = j2 := by simpa using f2
      obtain rfl : c = c2' := uq rfl rfl
      refine PySem.W.kat_yes (PySem.W.kat_cons (SeqAt.EqAt.str_str c z1 c z2 prog w _ _ (PySem.W.kat_go (fun _ => ?_) fun f3 => ?_)))
      · refine PySem.W.kat_yes (PySem.W.kat_nil ⟨rfl, ?_⟩)
        rw [if_pos rfl]
        exact (decide_eq_false (Int.lt_irrefl j)).symm
      · exact absurd f3 (by simp)
    · refine PySem.W.kat_no (PySem.W.kat_one _ _ (PyProof.Rows.lt_int ?_))
      exact ⟨rfl, (if_pos rfl).symm⟩
  · have ne : ¬ i = i2 := by simpa using f1
    exact PySem.W.kat_no (oneLt_int ⟨rfl, (if_neg ne).symm⟩)
end
section
variable {prog : Program} {w : World} {A : Around} {E : Value → Shared → Prop} {s : Shared}
theorem trip_sorted {l : Addr} {vs : List Value} {k : Value → Int × Int × Str} {Q : Value → Shared → Prop} (hl : s.heap.IsList l vs.toArray) (hz : vs.length ≤ sizeLine) (hp : ∀ v ∈ vs, Trip s.heap v (k v))
    (hu : ∀ v ∈ vs, ∀ u ∈ vs, (k v).1 = (k u).1 → (k v).2.1 = (k u).2.1 → (k v).2.2 = (k u).2.2)
    (fin : ∀ (h2 : Heap) (d : Addr) (zs : List Value), SrtO.Srtd (fun v u => lxT (k v) (k u)) zs → SrtO.Stb (fun v u => lxT (k v) (k u)) zs vs → (∀ b o, s.heap.get? b = some o → h2.get? b = some o) → s.heap.objs.size ≤ d → (∃ n, h2.get? d = some (seqObj "list" zs.toArray n)) → Q (.ref d) { s with heap := h2 }) :
    wpAny (model prog w) A (call (.builtin "sorted") [.ref l]) Q E s := by
  refine SrtO.sorted_ord (lxT_swo k) hl hz (fun two g b hb keepb => ?_) fun zs z1 z2 => fin _ _ zs z1 z2 (fun b o e => sortedAll_old e) (Nat.le_succ _) (sortedAll_at s.heap vs zs.toArray)
  intro g2 keep2
  have nb : ∀ o, g.get? b = some o → o.cls ≠ .type "tuple" := fun o e c => by
    rw [hb] at e
    cases e
    exact absurd (Value.type.inj c) (by decide)
  have tp : ∀ v ∈ vs, Trip g2 v (k v) := fun v hv => (hp v hv).moved fun c o e ct => keep2 c o (fun z => by subst z; exact nb o (keepb _ o e).2 ct) (keepb c o e).2
  have tups : ∀ us : List Value, (∀ v ∈ us, Trip g2 v (k v)) → ∃ fs : List Value, PySem.W.KatTups g2 us fs ∧ fs.length = us.length ∧ ∀ f ∈ fs, ∃ i t, f = Value.int i t := by
    intro us
    induction us with
    | nil => exact fun _ => ⟨[], .nil, rfl, fun f h => absurd h List.not_mem_nil⟩
    | cons v us ih =>
      intro hv
      obtain ⟨fs, f1, f2, f3⟩ := ih fun x hx => hv x (List.mem_cons_of_mem _ hx)
      obtain ⟨a, o, t1, t2, t3, n, e, ho, hc, hd⟩ := hv v List.mem_cons_self
      subst e
      refine ⟨.int (k (.ref a)).1 t1 :: fs, .cons ho hc hd rfl f1, by rw [List.length_cons, List.length_cons, f2], fun f hf => ?_⟩
      rcases List.mem_cons.mp hf with rfl | hf
      · exact ⟨_, _, rfl⟩
      · exact f3 f hf
  obtain ⟨fs, f1, f2, f3⟩ := tups vs tp
  refine ⟨tuples' true, fun Q' E' hq => ?_, trip_lt (s := { s with heap := g2 }) tp hu⟩
  refine PySem.W.kat_kind (s := { s with heap := g2 }) (T := .type "int") f1 (by omega) (fun f hf => ?_) (by rfl) ?_
  · obtain ⟨i, t, rfl⟩ := f3 f hf
    exact PySem.W.Looks.now
  · rw [show (Value.type "int" != Value.type "tuple") = true by first | decide +kernel | rfl]
    exact hq
end
/-- sorted(xs), xs triples that their first two parts tell apart -/
def rSortTr (K : PySem.W.Frag) : List V → Hp → VK → Prop := fun vs H Q => ∃ (a : Addr) (xs : List V) (k : V → Int × Int × Str), vs = [V.ref a] ∧ SqL K H a xs ∧ (∀ x ∈ xs, ∃ t, x = V.ref t ∧ H t = some (.tup [.int (k x).1, .int (k x).2.1, .str (k x).2.2])) ∧
  (∀ x ∈ xs, ∀ y ∈ xs, (k x).1 = (k y).1 → (k x).2.1 = (k y).2.1 → (k x).2.2 = (k y).2.2) ∧ ∀ zs p, zs.Perm xs → zs.Pairwise (fun x y => lxT (k y) (k x) = false) → H p = none → Q (.ref p) (upd H p (.lst zs))
theorem cr_sortTr {X : Cx} {K : PySem.W.Frag} (hK : X.K = K) : CallR X (.builtin "sorted") (rSortTr K) := by
  subst hK
  intro pins s σ H args us Q I rr hyp
  obtain ⟨a, xs, k, rfl, hs, ht, hu, q⟩ := hyp
  obtain ⟨its, rv, isl, small⟩ := I.list hs
  obtain ⟨u0, rfl, r0⟩ := vals1 rr
  obtain rfl : u0 = Value.ref a := r0
  obtain ⟨exs, refs⟩ := refs_back rv fun x hx => by
    obtain ⟨t, e, _⟩ := ht x hx
    exact ⟨t, e⟩
  have inx : ∀ v ∈ its, backV v ∈ xs := fun v hv => by
    rw [exs]
    exact List.mem_map.mpr ⟨v, hv, rfl⟩
  refine trip_sorted (k := fun v => k (backV v)) isl.isList (by rw [← rv.length]; exact small) (fun v hv => ?_) (fun v hv u hu' => hu _ (inx v hv) _ (inx u hu')) fun h2 d zs z1 z2 kp hd hn => ?_
  · obtain ⟨t, rfl⟩ := refs v hv
    obtain ⟨t2, e2, at2⟩ := ht _ (inx _ hv)
    cases e2
    obtain ⟨_, parts, rp, o, ho, hc, n, hd⟩ := I.hok _ _ at2
    cases rp with
    | cons r1 rp =>
      obtain ⟨w2, w3, rfl, r2, r3⟩ := vals2 rp
      obtain ⟨k1, rfl⟩ := r1
      obtain ⟨k2, rfl⟩ := r2
      obtain ⟨k3, rfl⟩ := r3
      exact ⟨t, o, k1, k2, k3, n, rfl, ho, hc, hd⟩
  · have zr : ∀ v ∈ zs, ∃ b, v = Value.ref b := fun v hv => refs v (z2.perm.mem_iff.mp hv)
    obtain ⟨n, hn⟩ := hn
    have pm : (zs.map backV).Perm xs := by
      rw [exs]
      exact z2.perm.map backV
    refine ⟨.ref d, upd H d (.lst (zs.map backV)), I.laid (t' := s.toks) kp hd ⟨?_, zs, n, vals_back zr, hn⟩, rfl, q _ d pm ?_ (I.hok.fresh hd)⟩
    · rw [pm.length_eq]
      exact small
    · exact List.pairwise_map.mpr z1
section
variable {K : PySem.W.Frag} {ms : List Addr} {H : Hp} {x : V}
abbrev encTr (y : Int × Int × Str) : D := D.tup [D.v (V.int y.1), D.v (V.int y.2.1), D.v (V.str y.2.2)]
def keyAt (H : Hp) : V → Int × Int × Str
  | .ref t => match H t with
    | some (.tup [.int i, .int j, .str c]) => (i, j, c)
    | _ => (0, 0, Str.empty)
  | _ => (0, 0, Str.empty)
theorem rep_tr {y : Int × Int × Str} {v : V} (h : rep ms H (encTr y) v) : keyAt H v = y ∧ ∃ t, v = .ref t ∧ H t = some (.tup [.int y.1, .int y.2.1, .str y.2.2]) := by
  simp only [rep] at h
  obtain ⟨p, vs, rfl, _, hp, hr⟩ := h
  obtain ⟨u1, r1, rfl, h1, hr⟩ := repL_uncons hr
  obtain ⟨u2, r2, rfl, h2, hr⟩ := repL_uncons hr
  obtain ⟨u3, r3, rfl, h3, hr⟩ := repL_uncons hr
  obtain rfl := repL_empty hr
  obtain rfl := of_v h1
  obtain rfl := of_v h2
  obtain rfl := of_v h3
  refine ⟨?_, p, rfl, hp⟩
  unfold keyAt
  simp only [hp]
theorem repL_keys : ∀ {xs : List (Int × Int × Str)} {vs : List V}, repL ms H (xs.map encTr) vs → vs.map (keyAt H) = xs ∧ ∀ v ∈ vs, rep ms H (encTr (keyAt H v)) v
  | [], vs, h => by
    obtain rfl := repL_empty h
    exact ⟨rfl, fun v hv => absurd hv List.not_mem_nil⟩
  | y :: xs, vs, h => by
    obtain ⟨u, us, rfl, h1, h2⟩ := repL_uncons h
    obtain ⟨e, f⟩ := repL_keys h2
    have k1 := (rep_tr h1).1
    refine ⟨by rw [List.map_cons, e, k1], fun v hv => ?_⟩
    rcases List.mem_cons.mp hv with rfl | hv
    · rw [k1]
      exact h1
    · exact f v hv
theorem repL_of_keys : ∀ {vs : List V}, (∀ v ∈ vs, rep ms H (encTr (keyAt H v)) v) → repL ms H ((vs.map (keyAt H)).map encTr) vs
  | [], _ => repL_nil
  | v :: vs, h => repL_cons (h v List.mem_cons_self) (repL_of_keys fun u hu => h u (List.mem_cons_of_mem _ hu))
theorem rep_sortTr {xs : List (Int × Int × Str)} {P : List V → Addr → Prop} (h : rep ms H (.lst (xs.map encTr)) x) (uq : ∀ a ∈ xs, ∀ b ∈ xs, a.1 = b.1 → a.2.1 = b.2.1 → a.2.2 = b.2.2)
    (q : ∀ (ys : List (Int × Int × Str)) (zs : List V), ys.Perm xs → ys.Pairwise (fun a b => lxT b a = false) → repL ms H (ys.map encTr) zs → ∀ p, H p = none → P zs p) :
    ∃ (a : Addr) (vs : List V) (k : V → Int × Int × Str), [x] = [V.ref a] ∧ SqL K H a vs ∧ (∀ x ∈ vs, ∃ t, x = V.ref t ∧ H t = some (.tup [.int (k x).1, .int (k x).2.1, .str (k x).2.2])) ∧
      (∀ x ∈ vs, ∀ y ∈ vs, (k x).1 = (k y).1 → (k x).2.1 = (k y).2.1 → (k x).2.2 = (k y).2.2) ∧ ∀ (zs : List V) (p : Addr), zs.Perm vs → zs.Pairwise (fun x y => lxT (k y) (k x) = false) → H p = none → P zs p := by
  simp only [rep] at h
  obtain ⟨p, vs, rfl, _, hp, hr⟩ := h
  obtain ⟨e, f⟩ := repL_keys hr
  have mem : ∀ v ∈ vs, keyAt H v ∈ xs := fun v hv => by
    rw [← e]
    exact List.mem_map.mpr ⟨v, hv, rfl⟩
  refine ⟨p, vs, keyAt H, rfl, .inl (.inl hp), fun v hv => (rep_tr (f v hv)).2, fun v hv u hu => uq _ (mem v hv) _ (mem u hu), fun zs l pm srt nl => ?_⟩
  refine q (zs.map (keyAt H)) zs ?_ ?_ (repL_of_keys fun v hv => f v (pm.mem_iff.mp hv)) l nl
  · rw [← e]
    exact pm.map _
  · exact List.pairwise_map.mpr srt
end
/-! comprehensions over a list of one's own, which stays -/
section
variable {α β : Type} {K : PySem.W.Frag} {H1 : Hp} {g : TG} {tt : TT} {te : TE} {vl : List Nat} {σ : L2.St} {Qd : Hp → Prop} {L : Addr}
theorem mo_item {ms ps : List Addr} {H0 H : Hp} {a : Addr} {items : List α} {e : α → D} (m : MutO ms ps H0 H a (.lst (items.map e))) : ∃ vs, H a = some (.lst vs) ∧ vs.length = items.length ∧ ∀ (i : Nat) (it : α), items[i]? = some it → ∃ v, vs[i]? = some v ∧ rep ms H (e it) v := by
  obtain ⟨vs, h1, h2⟩ := m.val
  have hl := repL_len h2
  rw [List.length_map] at hl
  exact ⟨vs, h1, hl.symm, fun i it hi => repL_get h2 (by rw [List.getElem?_map, hi]; rfl)⟩
theorem mo_iter {ms ps : List Addr} {H0 H : Hp} {a : Addr} {ds : List D} {P : Addr → Prop} (m : MutO ms ps H0 H a (.lst ds)) (k : P a) : ∃ b, V.ref a = .ref b ∧ (∃ xs, SqL K H b xs) ∧ P b := by
  obtain ⟨vs, h1, _⟩ := m.val
  exact ⟨a, rfl, ⟨vs, .inl (.inl h1)⟩, k⟩
theorem lc_mutG {items : List α} {e : α → D} {ms ps : List Addr} {H0 : Hp} {a : Addr} {body : α → (β → Prop) → Prop} {KM : List β → Prop} (SI : Nat → List β → Hp → Prop)
    (mo : ∀ n ys H, SI n ys H → MutO (L :: ms) ps H0 H a (.lst (items.map e))) (hM : items.length < 100000 ∧ mapC body items [] KM) (h0 : SI 0 [] (upd H1 L (.lst [])))
    (hs : ∀ (x : α) (u : V) (n : Nat) (ys : List β) (k : β → Prop) (H : Hp), n < 100000 → SI n ys H → rep (L :: ms) H (e x) u → body x k → ∀ Nx : Hp → Prop, (∀ y H', k y → SI (n + 1) (ys ++ [y]) H' → Nx H') → Turn g tt te vl σ L u H Nx)
    (hd : ∀ n ys H, KM ys → SI n ys H → Qd H) :
    ∃ W : Nat → Nat → Hp → Prop, (∃ m, W 0 m (upd H1 L (.lst []))) ∧ ∀ i m H, W i m H →
      ((Itl K a).stop i H ∧ Qd H) ∨ ((Itl K a).go i H ∧ ∃ Nx : Hp → Prop, (∀ H', Nx H' → ∃ m', m' < m ∧ W (i + 1) m' H') ∧ ∀ x H', (Itl K a).yld i H x H' → g x (wipe σ vl) H' fun σ2 H2 => wipe σ2 vl = wipe σ vl ∧ tt σ2 H2 fun b H3 =>
        if b = true then te σ2 H3 fun y H4 => ∃ acc, H4 L = some (.lst acc) ∧ acc.length < sizeLine ∧ Nx (upd H4 L (.lst (acc ++ [y]))) else Nx H3) := by
  obtain ⟨hn, hM⟩ := hM
  refine ⟨fun i m H => m = items.length - i ∧ i ≤ items.length ∧ ∃ ys, SI i ys H ∧ mapC body (items.drop i) ys KM, ⟨_, rfl, Nat.zero_le _, [], h0, hM⟩, ?_⟩
  rintro i m H ⟨rfl, le, ys, T, q⟩
  obtain ⟨vs, ha, hl, hi⟩ := mo_item (mo i ys H T)
  by_cases lt : i < items.length
  · have hit : items[i]? = some (items[i]'lt) := List.getElem?_eq_getElem lt
    obtain ⟨v, hv, rv⟩ := hi i _ hit
    refine .inr ⟨⟨vs, v, .inl (.inl ha), hv⟩, fun H' => i + 1 ≤ items.length ∧ ∃ ys, SI (i + 1) ys H' ∧ mapC body (items.drop (i + 1)) ys KM, fun H' p' => ⟨_, by omega, rfl, p'⟩, fun x H' y => ?_⟩
    obtain ⟨e1, y⟩ := y
    subst e1
    have hx := y vs (.inl (.inl ha))
    rw [hv] at hx
    obtain rfl : v = x := Option.some.inj hx
    rw [drop_cons' hit] at q
    exact hs _ v i ys _ H' (by omega) T rv q _ fun y2 H2 k2 T2 => ⟨lt, _, T2, k2⟩
  · refine .inl ⟨⟨vs, .inl (.inl ha), by omega⟩, ?_⟩
    rw [List.drop_of_length_le (by omega)] at q
    exact hd _ ys H q T
theorem lf_mutG {items : List α} {e : α → D} {ms ps : List Addr} {H0 : Hp} {a : Addr} {body : α → (Option β → Prop) → Prop} {KM : List β → Prop} (SI : Nat → List β → Hp → Prop)
    (mo : ∀ n ys H, SI n ys H → MutO (L :: ms) ps H0 H a (.lst (items.map e))) (hM : items.length < 100000 ∧ filC body items [] KM) (h0 : SI 0 [] (upd H1 L (.lst [])))
    (hs : ∀ (x : α) (u : V) (n : Nat) (ys : List β) (k : Option β → Prop) (H : Hp), n < 100000 → SI n ys H → rep (L :: ms) H (e x) u → body x k → ∀ Nx : Hp → Prop, (∀ y H', k (some y) → SI (n + 1) (ys ++ [y]) H' → Nx H') → (∀ H', k none → SI (n + 1) ys H' → Nx H') → Turn g tt te vl σ L u H Nx)
    (hd : ∀ n ys H, KM ys → SI n ys H → Qd H) :
    ∃ W : Nat → Nat → Hp → Prop, (∃ m, W 0 m (upd H1 L (.lst []))) ∧ ∀ i m H, W i m H →
      ((Itl K a).stop i H ∧ Qd H) ∨ ((Itl K a).go i H ∧ ∃ Nx : Hp → Prop, (∀ H', Nx H' → ∃ m', m' < m ∧ W (i + 1) m' H') ∧ ∀ x H', (Itl K a).yld i H x H' → g x (wipe σ vl) H' fun σ2 H2 => wipe σ2 vl = wipe σ vl ∧ tt σ2 H2 fun b H3 =>
        if b = true then te σ2 H3 fun y H4 => ∃ acc, H4 L = some (.lst acc) ∧ acc.length < sizeLine ∧ Nx (upd H4 L (.lst (acc ++ [y]))) else Nx H3) := by
  obtain ⟨hn, hM⟩ := hM
  refine ⟨fun i m H => m = items.length - i ∧ i ≤ items.length ∧ ∃ ys, SI i ys H ∧ filC body (items.drop i) ys KM, ⟨_, rfl, Nat.zero_le _, [], h0, hM⟩, ?_⟩
  rintro i m H ⟨rfl, le, ys, T, q⟩
  obtain ⟨vs, ha, hl, hi⟩ := mo_item (mo i ys H T)
  by_cases lt : i < items.length
  · have hit : items[i]? = some (items[i]'lt) := List.getElem?_eq_getElem lt
    obtain ⟨v, hv, rv⟩ := hi i _ hit
    refine .inr ⟨⟨vs, v, .inl (.inl ha), hv⟩, fun H' => i + 1 ≤ items.length ∧ ∃ ys, SI (i + 1) ys H' ∧ filC body (items.drop (i + 1)) ys KM, fun H' p' => ⟨_, by omega, rfl, p'⟩, fun x H' y => ?_⟩
    obtain ⟨e1, y⟩ := y
    subst e1
    have hx := y vs (.inl (.inl ha))
    rw [hv] at hx
    obtain rfl : v = x := Option.some.inj hx
    rw [drop_cons' hit] at q
    exact hs _ v i ys _ H' (by omega) T rv q _ (fun y2 H2 k2 T2 => ⟨lt, _, T2, k2⟩) fun H2 k2 T2 => ⟨lt, _, T2, k2⟩
  · refine .inl ⟨⟨vs, .inl (.inl ha), by omega⟩, ?_⟩
    rw [List.drop_of_length_le (by omega)] at q
    exact hd _ ys H q T
end
end Rx
namespace Rx
open PySem PySem.Spec PyProof.Rows L2
section
variable {K : PySem.W.Frag} {ms ps : List Addr} {H0 H : Hp} {L : Addr} {u : V}
theorem mo_insU {α : Type} {e : α → D} {xs : List α} {i : Int} {P : Addr → List V → Int → V → Prop} (m : MutO ms ps H0 H L (.lst (xs.map e))) (hl : xs.length < 16777216 ∧ 0 ≤ i ∧ i < 2 ^ 63) (k : ∀ vs, repL ms H (xs.map e) vs → P L vs i u) :
    ∃ (l : Addr) (zs : List V) (j : Int) (y : V), V.ref L = .ref l ∧ [V.int i, u] = [.int j, y] ∧ H l = some (.lst zs) ∧ zs.length < sizeLine ∧ 0 ≤ j ∧ j < 2 ^ 63 ∧ P l zs j y := by
  obtain ⟨vs, h1, h2⟩ := m.val
  refine ⟨L, vs, i, u, rfl, rfl, h1, ?_, hl.2.1, hl.2.2, k vs h2⟩
  rw [← repL_len h2, sizeLine_eq, List.length_map]
  exact hl.1
theorem repL_ins {α : Type} {e : α → D} {xs : List α} {y : α} {vs : List V} (i : Nat) (r : repL ms H (xs.map e) vs) (h : rep ms H (e y) u) : repL ms H ((xs.take i ++ [y] ++ xs.drop i).map e) (vs.take i ++ [u] ++ vs.drop i) := by
  rw [List.map_append, List.map_append, List.map_take, List.map_drop]
  exact repL_app (repL_app (repL_take _ r) (repL_one h)) (repL_drop _ r)
end
end Rx
/-! data in f-strings; repr and str of own things where no text is under way -/
namespace Rx
open PySem PySem.Spec PyProof.Rows L2
section
variable {X : Cx}
def tFmtD (K : PySem.W.Frag) (te : TE) : TE := fun σ H Q => te σ H fun x H1 => ∃ (a : Addr) (d : PyData), x = .ref a ∧ Dp K H1 (.ref a) d ∧ d.showable = true ∧ d.hasDict = false ∧ d.depth ≤ 60 ∧ d.shown.length ≤ sizeLine ∧ Q (.str d.shown) H1
theorem pe_fmtD {e : PySem.Expr} {te : TE} {pos : Pos} {k : Nat} {K : PySem.W.Frag} (hK : X.K = K) (gu : X.A.guards = some []) (hr : Room k X.A) (he : PE X e te) : PE X (.FormattedValue e (-1) none pos) (tFmtD K te) := by
  subst hK
  refine ⟨fun pins s σ H Q I h => ?_⟩
  refine wpAny_FormattedValue_plain (thn (he.run pins s σ H _ I h) fun v s1 hv => ?_)
  obtain ⟨x, H1, I1, r1, a, d, rfl, dp, sh, nd, dep, len, q⟩ := hv
  cases r1
  obtain ⟨as, rd⟩ := Dp.reads I1 d _ _ dp rfl
  have un := hr.un
  refine formatField_of_reads (h₀ := s1.heap) rd sh (fun z => by rw [nd] at z; cases z) gu (by omega) (fun _ _ h => h) (fun h' u tk keep => ?_) len
  exact ⟨.str d.shown, H1, I1.kept keep, ⟨u, rfl⟩, q⟩
theorem rep_fmtD {K : PySem.W.Frag} {ms : List Addr} {H : Hp} {d : D} {x : V} {P : PyData → Prop} (h : rep ms H d x) (hx : ∃ a, x = .ref a) (g : plainD d = true ∧ (pyOf d).showable = true ∧ (pyOf d).hasDict = false ∧ (pyOf d).depth ≤ 60 ∧ (pyOf d).shown.length ≤ sizeLine) (q : P (pyOf d)) :
    ∃ (a : Addr) (d : PyData), x = .ref a ∧ Dp K H (.ref a) d ∧ d.showable = true ∧ d.hasDict = false ∧ d.depth ≤ 60 ∧ d.shown.length ≤ sizeLine ∧ P d := by
  obtain ⟨a, rfl⟩ := hx
  exact ⟨a, _, rfl, dp_of (K := K) d _ g.1 h, g.2.1, g.2.2.1, g.2.2.2.1, g.2.2.2.2, q⟩
theorem rep_refL {ms : List Addr} {H : Hp} {ds : List D} {x : V} (h : rep ms H (.lst ds) x) : ∃ a, x = .ref a := by
  simp only [rep] at h
  obtain ⟨p, vs, e, _⟩ := h
  exact ⟨p, e⟩
theorem rep_refT {ms : List Addr} {H : Hp} {ds : List D} {x : V} (h : rep ms H (.tup ds) x) : ∃ a, x = .ref a := by
  simp only [rep] at h
  obtain ⟨p, vs, e, _⟩ := h
  exact ⟨p, e⟩
variable {n : Nat} {C f : Addr} {fd : FuncData} {ps : List Str} {sp : Sp}
theorem ownTextG_run (F : FnG X.prog X.w X.K X.mg X.base n f fd ps sp) {A : Around} (hg : A.guards = some []) (hr : Room n A) (hb : Binds X.K fd ps []) {pins : List (Addr × Obj)} {σ : L2.St} {H : Hp} {s : Shared} {a : Addr} {Q : VK} (I : Inv X pins σ H s)
    (en : Env0 X.prog X.w X.K X.mg X.base A X.stack s H) (h : sp [.ref a] H (fun v H' => ∃ z : Str, v = .str z ∧ Q v H') E0) : wpAny (model X.prog X.w) A (call (.ref f) [.ref a]) (PySem.W.StrBack (EP X pins σ Q)) X.xe s := by
  have hl := F.len _ _ _ _ h
  have bt := hb s [.ref a] I.kIn (by rw [List.append_nil]; exact hl)
  rw [List.append_nil] at bt
  refine wpAny_call (codeAny_mono (F.run A hg hr X.stack s H ⟨[.ref a], []⟩ [.ref a] [.ref a] _ E0 en bt (.cons rfl .nil) h) fun out s' hq => ?_)
  rcases out with err | fl
  · exact pass0 pins σ H s err s' I hq
  · rcases fl with _ | _ | _ | u
    · exact hq.elim
    · exact hq.elim
    · exact hq.elim
    · obtain ⟨v, H', I', rv, z, ez, q⟩ := I.after hq
      subst ez
      obtain ⟨t, rfl⟩ := rv
      exact ⟨.str z, H', I', ⟨t, rfl⟩, q⟩
theorem call_reprOwnG (F : FnG X.prog X.w X.K X.mg X.base n f fd ps sp) (gu : X.A.guards = some []) (hr : Room (n + 1) X.A) (o : OwnText X.K C "__repr__" f) (hb : Binds X.K fd ps []) : CallR X (.builtin "repr") (rOwnText C sp E0) := by
  intro pins s σ H xs us Q I r h
  obtain ⟨x, a, dx, fs, rfl, rfl, ha, hsp⟩ := h
  obtain ⟨u, rfl, ru⟩ := r.one
  cases ru
  obtain ⟨mA, J, _⟩ := ins_get I.hok ha
  obtain ⟨od, J, _⟩ := J.look
  obtain ⟨m, hF⟩ := I.fr
  exact PySem.W.repr_K hr.in1.units0 hF I.ok.mod.kin J o.hs o.hf (ownTextG_run (A := X.A.in1) F (show X.A.in1.guards = some [] from gu) hr.in1 hb I I.env0.in1 hsp)
theorem call_strOwnG (F : FnG X.prog X.w X.K X.mg X.base n f fd ps sp) (gu : X.A.guards = some []) (hr : Room (n + 2) X.A) (o : OwnText X.K C "__str__" f) (hb : Binds X.K fd ps []) : CallR X (.type "str") (rOwnText C sp E0) := by
  intro pins s σ H xs us Q I r h
  obtain ⟨x, a, dx, fs, rfl, rfl, ha, hsp⟩ := h
  obtain ⟨u, rfl, ru⟩ := r.one
  cases ru
  obtain ⟨mA, J, _⟩ := ins_get I.hok ha
  obtain ⟨od, J, _⟩ := J.look
  exact PySem.W.kso_call hr.in1.in1.units0 I.kIn J o.hs o.hf (ownTextG_run (A := X.A.in1.in1) F (show X.A.in1.in1.guards = some [] from gu) hr.in1.in1 hb I I.env0.in1.in1 hsp)
end
end Rx
namespace PySem
open Sem (wp)
open AutoSeq1 (wpAny_loadPart')
theorem meets_enum_tup (t : Addr) (items : Array Value) :
    Meets (Builtin.«enumerate.__new__» ⟨[.type "enumerate", .ref t], []⟩) (fun _ R s => s.heap.IsTuple t items ∧
      R (.ok (.ret (.ref (s.heap.push { cls := .type "tuple_iterator", data := .fields #[.ref t, .int 0 0] }).objs.size)))
        { s with heap := (s.heap.push { cls := .type "tuple_iterator", data := .fields #[.ref t, .int 0 0] }).push { cls := .type "enumerate", data := .fields #[.none, .bool false, .ref s.heap.objs.size, rawInt 0, .none, .none] } }) :=
  .of_wp fun prog w A R s h => by
    obtain ⟨hp, g, d, tk, os⟩ := s; obtain ⟨h1, h⟩ := h
    have hsub := sub_enumerate
    have q1 : ∀ {A' : Around} {E : Value → Shared → Prop} {Q : Value → Shared → Prop}, Q (.ref hp.objs.size) ⟨hp.push { cls := .type "tuple_iterator", data := .fields #[.ref t, .int 0 0] }, g, d, tk, os⟩ → wpAny (model prog w) A' (pyIter (.ref t)) Q E ⟨hp, g, d, tk, os⟩ :=
      fun q => (begins_tuple t items).iter prog w _ _ ⟨hp, g, d, tk, os⟩ _ h1 q
    wp_walk using q1
    refine wpAny_stack_any fun st => wpAny_pure ?_
    split
    · rename_i c _ _ _ _ _
      cases (c == Value.type "enumerate")
      · wp_walk using q1
        exact ⟨_, rfl, h⟩
      · wp_walk using q1
        exact ⟨_, rfl, h⟩
    · wp_walk using q1
      exact ⟨_, rfl, h⟩
section
variable {prog : Program} {w : World} {A : Around} {E : Value → Shared → Prop} {s : Shared}
theorem call_enum_tup {t : Addr} {items : Array Value} {Q : Value → Shared → Prop} (hL : s.heap.IsTuple t items)
    (h : ∀ h', IsEnum h' (s.heap.objs.size + 1) s.heap.objs.size 0 .none → h'.IsTupleIter s.heap.objs.size t 0 → h'.objs.size = s.heap.objs.size + 2 →
      (∀ b o, s.heap.get? b = some o → h'.get? b = some o) → Q (.ref (s.heap.objs.size + 1)) { s with heap := h' }) :
    wpAny (model prog w) A (call (.type "enumerate") [.ref t]) Q E s := by
  refine callType_new F.called_enumerate (by decide) (F.typeCall_enumerate_1 _) (F.newCall_enumerate_1 _) (fun obj => F.args_object_init_2 obj _) F.entry_enumerate_new
    (meets_enum_tup t items) ⟨hL, ?_⟩
  have hz : (s.heap.push { cls := .type "tuple_iterator", data := .fields #[.ref t, .int 0 0] }).objs.size = s.heap.objs.size + 1 := Heap.size_push ..
  show _ ∧ _
  rw [hz]
  have he : IsEnum ((s.heap.push { cls := .type "tuple_iterator", data := .fields #[.ref t, .int 0 0] }).push
      { cls := .type "enumerate", data := .fields #[.none, .bool false, .ref s.heap.objs.size, rawInt 0, .none, .none] }) (s.heap.objs.size + 1) s.heap.objs.size 0 .none := by
    have := Heap.get?_push_size (s.heap.push { cls := .type "tuple_iterator", data := .fields #[.ref t, .int 0 0] })
      (o := { cls := .type "enumerate", data := .fields #[.none, .bool false, .ref s.heap.objs.size, rawInt 0, .none, .none] }) rfl
    rw [hz] at this; exact this
  refine ⟨⟨_, he, rfl⟩, h _ he ⟨_, Heap.get?_push_of_some _ (Heap.get?_push_size _ rfl), rfl, rfl⟩ (by rw [Heap.size_push, hz]) fun b o x => Heap.get?_push_of_some _ (Heap.get?_push_of_some _ x)⟩
end
end PySem
namespace Rx
open PySem PySem.Spec PyProof.Rows L2
/-- the tuple at a as it stands at each turn, each item in a new pair -/
def IteT (K : PySem.W.Frag) (a : Addr) : It :=
  ⟨fun i H => ∃ (xs : List V) (x : V), SqT K H a xs ∧ xs[i]? = some x, fun i H v H' => ∃ T x, v = .ref T ∧ H T = none ∧ H' = upd H T (.tup [.int (i : Nat), x]) ∧ ∀ xs, SqT K H a xs → xs[i]? = some x, fun i H => ∃ xs : List V, SqT K H a xs ∧ xs.length ≤ i⟩
theorem turn_enumT {P : Program} {w : World} {K : PySem.W.Frag} {elts : List Expr} {kk : Nat} {tpos : Pos} (a e it : Addr) (hei : e ≠ it) (hai : a ≠ it) :
    L2.Turn P w K (.Tuple elts kk tpos) (IteT K a) [e, it] e (fun i h => (∃ old, IsEnum h e it ((i : Nat) : Int) old) ∧ h.IsTupleIter it a i) where
  mem := by simp
  obj := fun i h st b hb => by
    obtain ⟨⟨old, he⟩, ⟨o, ho, hc, hd⟩⟩ := st
    have e' : b = e ∨ b = it := by simpa using hb
    rcases e' with z | z
    · rw [z]; exact ⟨_, he, fun v q => nomatch q⟩
    · rw [z]; exact ⟨o, ho, fun v q => by rw [hd] at q; cases q⟩
  keep := fun i h h' st k => let ⟨⟨old, he⟩, hi⟩ := st; ⟨⟨old, k e (by simp) _ he⟩, hi.at fun o q => k it (by simp) o q⟩
  item := by
    intro X hP hw hK hc i pins s σ H E I hf st hg
    subst hP hw hK
    obtain ⟨⟨old, he⟩, hit⟩ := st
    obtain ⟨xs, x, hq, hx⟩ := hg
    obtain ⟨its, rv, p, hz⟩ := I.tuple hq
    obtain ⟨u, hu, ru⟩ := rv.get hx
    have hel : e < s.heap.objs.size := Heap.lt_size he
    have hil : it < s.heap.objs.size := by obtain ⟨_, q, _⟩ := hit; exact Heap.lt_size q
    have hea : e ≠ a := fun z => by
      obtain ⟨o, ho, hc', _⟩ := p
      rw [← z, he] at ho
      cases ho
      simp at hc'
    refine wpAny_pyNext_enum_itemD (Draws.tuple (A := X.A.in1) (I.ok.hd hc) it a hai its.toArray) he ⟨hit, p⟩ (by
      have := rv.length
      have := (List.getElem?_eq_some_iff.mp hx).1
      rw [List.size_toArray]
      omega) hei (by simp [hei, hea]) fun y h' tk hP ho hit' hT hsz hk => ?_
    have ey : y = u := by
      have h1 : its[i]? = some y := by simpa using hP
      rw [hu] at h1
      exact (Option.some.inj h1).symm
    subst ey
    refine ⟨_, rfl, wpAny_letOwnedTupleGo_enum (s := { s with heap := h', toks := tk + 1 }) ho fun h'' he' sb => ?_⟩
    have hT2 : h''.get? s.heap.objs.size = some { cls := .type "tuple", data := .seq #[.int i tk, y] } := (sb.2 _ (Nat.ne_of_gt hel)).trans hT
    have new : ObjOk X.prog X.w (upd H s.heap.objs.size (.tup [.int (i : Nat), x])) h'' s.heap.objs.size (.tup [.int (i : Nat), x]) :=
      ⟨by show 2 ≤ sizeLine; decide, [.int i tk, y], .cons ⟨_, rfl⟩ (.cons ru .nil), ⟨_, hT2, rfl, _, rfl⟩⟩
    have I1 : Inv X pins σ (upd H s.heap.objs.size (.tup [.int (i : Nat), x])) { s with heap := h'', toks := tk + 1 } :=
      I.turnedNew (ch := [e, it]) (fun b ob hb q => (sb.2 b (fun z => hb (by simp [z]))).trans (hk b ob (fun z => hb (by simp [z])) (fun z => hb (by simp [z])) q)) hf (Nat.le_refl _) new
    refine ⟨.ref s.heap.objs.size, _, I1, rfl, ⟨_, x, rfl, I.hok.fresh (Nat.le_refl _), rfl, fun ys hy => by rw [I.tuple_inj hy hq]; exact hx⟩, ⟨⟨y, ?_⟩, hit'.1.at fun o q => (sb.2 it (Ne.symm hei)).trans q⟩, fun b hb => ?_⟩
    · have e1 : ((i + 1 : Nat) : Int) = (i : Int) + 1 := by omega
      rw [e1]; exact he'
    · have hb' : b < s.heap.objs.size := by
        have e' : b = e ∨ b = it := by simpa using hb
        rcases e' with z | z
        · rw [z]; exact hel
        · rw [z]; exact hil
      rw [upd_ne (Nat.ne_of_lt hb')]
      exact (hf b hb).1
  done := by
    intro X hP hw hK hc i pins s σ H E I hf st hg
    subst hP hw hK
    obtain ⟨⟨old, he⟩, hit⟩ := st
    obtain ⟨xs, hq, hx⟩ := hg
    obtain ⟨its, rv, p, hz⟩ := I.tuple hq
    obtain ⟨f0, f1, f2, f3, f4, f5⟩ := hf it (by simp)
    have hl := rv.length
    have D : Draws X.prog X.w X.A.in1 it [it, a] i (fun i v => its.toArray[i]? = some v) (fun j h => j = i ∧ h.IsTupleIter it a i ∧ h.IsTuple a its.toArray) := {
      live := fun _ _ st => let ⟨o, ho, _⟩ := st.2.1; ⟨o, ho⟩
      frame := fun _ _ _ st hk => ⟨st.1, st.2.1.at fun o e => hk it (by simp) o e, st.2.2.at fun o e => hk a (by simp) o e⟩
      item := fun j s Q E hj st hQ => absurd hj (by rw [st.1]; exact Nat.lt_irrefl _)
      done := fun s Q E st hE => wpAny_nextOf_tuple_end (I.ok.hd hc) st.2.1 st.2.2 (by simp; omega) hE }
    refine wpAny_pyNext_enum_endD D he ⟨rfl, hit, p⟩ fun h' eb => ?_
    exact ⟨rfl, I.turned (t' := s.toks) (fun b o hb q => eb b o hb q) f0 f1 f3 f4 f5⟩
  self := fun A i s Q E st h => let ⟨⟨_, he⟩, _⟩ := st; wpAny_pyIter_enum he h
def iEnumT (K : PySem.W.Frag) (ta : TA) : TI := fun σ H R => ta σ H fun vs H1 => ∃ a xs, vs = [.ref a] ∧ SqT K H1 a xs ∧ R (IteT K a) H1
theorem pi_enumT {X : Cx} {K : PySem.W.Frag} {e : PySem.Expr} {ta : TA} {p pos tpos : Pos} {elts : List PySem.Expr} {kk : Nat} (hK : X.K = K) (hg : Gl X "enumerate") (hm : X.mg "enumerate" = none) (ha : PA X [e] ta) (hs : starEach [e] X.env = [(false, eval e X.env)] := by rfl) :
    PI X (.Tuple elts kk tpos) (.Call (.Name "enumerate" p) [e] [] pos) (iEnumT K ta) := by
  subst hK
  refine ⟨fun pins s σ H R I h => ?_⟩
  refine Call_ (ld_blt I hg hm boot_enumerate (PyProof.Rows.callWith_type1 (thn (ha.run pos pins s σ H _ I h) fun us s1 ⟨vs, H1, I1, r1, q1⟩ => ?_) hs rfl))
  obtain ⟨a, xs, ex, hq, q⟩ := q1
  subst ex
  cases r1 with
  | cons r rr =>
    cases rr
    cases r
    obtain ⟨its, rv, p', hz⟩ := I1.tuple hq
    have hal : a < s1.heap.objs.size := by
      obtain ⟨o, ho, _⟩ := p'
      exact Heap.lt_size ho
    refine call_enum_tup p' fun h' he hit hsz hk => wpAny_pyIter_enum he ?_
    have I2 : Inv X pins σ H1 { s1 with heap := h' } := I1.kept (t' := s1.toks) hk
    refine ⟨s1.heap.objs.size + 1, [s1.heap.objs.size + 1, s1.heap.objs.size], _, _, H1, rfl, I2, turn_enumT a (s1.heap.objs.size + 1) s1.heap.objs.size (Nat.succ_ne_self _) (Nat.ne_of_lt hal), ⟨⟨.none, he⟩, hit⟩, fun b hb => ?_, q⟩
    have e' : b = s1.heap.objs.size + 1 ∨ b = s1.heap.objs.size := by simpa using hb
    have hle : s1.heap.objs.size ≤ b := by
      rcases e' with z | z
      · rw [z]; exact Nat.le_add_right _ _
      · rw [z]; exact Nat.le_refl _
    exact I1.fpOk hle (I1.hok.fresh hle)
section
variable {K : PySem.W.Frag} {a : Addr} {xs : List V}
theorem walk_enumT : L2.Walk (IteT K a) xs.length (fun H => SqT K H a xs) (YPair (fun i => some (.int (i : Nat))) (fun i => xs[i]?)) := by
  refine ⟨fun i _ hi q => ⟨xs, xs[i], q, by simp [hi]⟩, fun _ q => ⟨xs, q, Nat.le_refl _⟩, fun i H v H' _ q y => ?_⟩
  obtain ⟨T, x, h1, h2, h3, h4⟩ := y
  exact ⟨T, .int (i : Nat), x, h1, h2, h3, rfl, h4 xs q⟩
end
section
variable {α S : Type} {K : PySem.W.Frag} {H1 : Hp} {g : TG} {tb : TS} {D' : Ends} {σ : L2.St}
theorem for_enumGT {items : List α} {e : α → D} {ms : List Addr} {a : Addr} {xs : List V} {body : (Int × α) → S → (S → Prop) → Prop} {KM : S → Prop} (SI : S → L2.St → Hp → Prop) (s0 : S) (an : a ∉ ms) (ha : H1 a = some (.tup xs)) (hx : repL ms H1 (items.map e) xs)
    (kp : ∀ s σ H, SI s σ H → Keep ms H1 H) (tr : ∀ s σ H, SI s σ H → ∀ m ∈ ms, H m ≠ none) (hM : forC body ((rangeI 0 (items.length : Int)).zip items) s0 KM) (h0 : SI s0 σ H1)
    (hs : ∀ (x : Int × α) (u : V) (s : S) (k : S → Prop) (σ : L2.St) (H H2 : Hp), SI s σ H → Ext H H2 → rep ms H2 (.tup [.v (.int x.1), e x.2]) u → body x s k → ∀ Nx : L2.St → Hp → Prop, (∀ s' σ' H', k s' → SI s' σ' H' → Nx σ' H') →
      g u σ H2 fun σ2 H2 => tb { D' with nx := Nx, ct := Nx, bk := D'.nx } σ2 H2)
    (hd : ∀ s σ H, KM s → SI s σ H → D'.nx σ H) :
    ∃ W : Nat → Nat → L2.St → Hp → Prop, (∃ m, W 0 m σ H1) ∧ ∀ i m σ H, W i m σ H →
      ((IteT K a).stop i H ∧ D'.nx σ H) ∨ ((IteT K a).go i H ∧ ∃ Nx : L2.St → Hp → Prop, (∀ σ' H', Nx σ' H' → ∃ m', m' < m ∧ W (i + 1) m' σ' H') ∧ ∀ x H', (IteT K a).yld i H x H' → g x σ H' fun σ2 H2 => tb { D' with nx := Nx, ct := Nx, bk := D'.nx } σ2 H2) := by
  have hl : items.length = xs.length := by
    have := repL_len hx
    rwa [List.length_map] at this
  have rl : (rangeI 0 (items.length : Int)).length = items.length := by rw [rangeI_len]; omega
  have zl : ((rangeI 0 (items.length : Int)).zip items).length = xs.length := by rw [List.length_zip, rl, hl, Nat.min_self]
  refine for_it (walk_enumT (K := K) (a := a) (xs := xs)) (D := D') (fun i σ H => ∃ s, SI s σ H ∧ forC body (((rangeI 0 (items.length : Int)).zip items).drop i) s KM) ⟨s0, h0, hM⟩ (fun i σ H _ ⟨s, si, _⟩ => .inl (.inl (kp s σ H si a _ an ha))) (fun i u σ H H' hi ⟨s, si, q⟩ y => ?_) (fun σ H ⟨s, si, q⟩ => ?_)
  · obtain ⟨T, x1, x2, rfl, nT, eH, e1, e2⟩ := y
    have hit : items[i]? = some (items[i]'(by omega)) := List.getElem?_eq_getElem (by omega)
    have hz : ((rangeI 0 (items.length : Int)).zip items)[i]? = some ((i : Int), items[i]'(by omega)) := by
      rw [List.getElem?_zip_eq_some]
      exact ⟨by rw [rangeI_get (by omega)]; congr 1; omega, hit⟩
    rw [drop_cons' hz] at q
    obtain ⟨v, hv, rv⟩ := repL_get (repL_keep (kp s σ H si) hx) (j := i) (d := e (items[i]'(by omega))) (by rw [List.getElem?_map, hit]; rfl)
    have e2 : xs[i]? = some x2 := e2
    rw [e2] at hv
    have ev : x2 = v := Option.some.inj hv
    subst ev
    have ev1 : V.int (i : Nat) = x1 := Option.some.inj e1
    subst ev1
    have ex : Ext H H' := by rw [eH]; exact Ext.new nT
    exact hs ((i : Int), items[i]'(by omega)) (.ref T) s _ σ H H' si ex (rep_pair (tr s σ H si) nT eH rep_v rv) q _ fun s' σ' H'' hk si2 => ⟨s', si2, hk⟩
  · rw [List.drop_of_length_le (by omega)] at q
    exact hd s σ H q si
end
section
variable {K : PySem.W.Frag} {ms ps : List Addr} {H0 H : Hp} {x : V}
theorem rep_iterET {ds : List D} {P : Addr → Prop} (h : rep ms H (.tup ds) x) (k : ∀ a xs, x = .ref a → a ∉ ms → H a = some (.tup xs) → repL ms H ds xs → P a) : ∃ (a : Addr) (xs : List V), [x] = [.ref a] ∧ SqT K H a xs ∧ P a := by
  simp only [rep] at h
  obtain ⟨p, vs, e, n, hp, hr⟩ := h
  exact ⟨p, vs, by rw [e], .inl (.inl hp), k p vs e n hp hr⟩
end
theorem rep_isNL {α : Type} {e : α → D} {ms : List Addr} {H : Hp} {m : Option α} {u : V} (he : ∀ y, ∃ ds, e y = .lst ds) (h : rep ms H (encO e m) u) : decide (u = .non) = m.isNone := by
  cases m with
  | none =>
    rw [of_v h]
    rfl
  | some y =>
    obtain ⟨ds, ed⟩ := he y
    have h' : rep ms H (e y) u := h
    rw [ed] at h'
    simp only [rep] at h'
    obtain ⟨p, _, e1, _⟩ := h'
    rw [e1]
    rfl
theorem rep_isSomeL {α : Type} {e : α → D} {ms : List Addr} {H : Hp} {m : Option α} {u : V} (he : ∀ y, ∃ ds, e y = .lst ds) (h : rep ms H (encO e m) u) : (!decide (u = .non)) = m.isSome := by
  rw [rep_isNL he h]
  cases m <;> rfl
theorem noMs_mapT {α : Type} {e : α → D} (h : ∀ y, noM (e y) = true) : ∀ xs : List α, noMs (xs.map e) = true
  | [] => rfl
  | x :: xs => by
    rw [List.map_cons]
    simp only [noMs, h x, noMs_mapT h xs, Bool.and_self]
theorem mo_dyn {α : Type} {e : α → D} {xs : List α} {ms ps : List Addr} {H0 H : Hp} {L : Addr} (m : MutO ms ps H0 H L (.lst (xs.map e))) : MutO ms ps H0 H L (.lst ((xs.map e).map fun y_ : D => y_)) := by
  rw [List.map_id']
  exact m
def tFS (ts : List TE) : TE := fun σ H Q => tJs ts Str.empty σ H fun out H1 => Q (.str out) H1
theorem pe_joinedF {X : Cx} {v1 v2 : PySem.Expr} {rest : List PySem.Expr} {ts : List TE} {pos : Pos} (h : PJ X (v1 :: v2 :: rest) ts) : PE X (.JoinedStr (v1 :: v2 :: rest) pos) (tFS ts) := pe_joined h
theorem cr_sumK {X : Cx} {K : PySem.W.Frag} (hK : X.K = K) (hc : X.calm = true) : CallR X (.builtin "sum") (rSum K) := by
  subst hK
  exact cr_sum hc
theorem rep_sumL {ms : List Addr} {H : Hp} {K : PySem.W.Frag} {ns : List Int} {x : V} {P : List Int → Prop} (h : rep ms H (.lst (ns.map (fun y_ : Int => D.v (V.int y_)))) x) (q : P ns) : ∃ (a : Addr) (ns : List Int), [x] = [V.ref a] ∧ SqL K H a (ns.map V.int) ∧ P ns := by
  simp only [rep] at h
  obtain ⟨p, vs, e, _, hp, hr⟩ := h
  have ev := repL_ints hr
  subst ev e
  exact ⟨p, ns, rfl, .inl (.inl hp), q⟩
end Rx
namespace Wm
open PySem PySem.Spec PyProof.Rows L2

abbrev L (z : Str) : List Nat := z.cps.toList
theorem len_L (z : Str) : z.length = (L z).length := by
  show z.cps.size = z.cps.toList.length
  simp
theorem L_mk (l : List Nat) : L ⟨l.toArray⟩ = l := by simp [L]
theorem mk_L (z : Str) : (⟨(L z).toArray⟩ : Str) = z := by
  cases z
  simp [L]
theorem L_ext {a b : Str} (h : L a = L b) : a = b := ext_toList h
theorem L_app (a b : Str) : L (a ++ b) = L a ++ L b := by
  show (a.cps ++ b.cps).toList = _
  simp [L]
theorem L_empty : L ("" : Str) = [] := by decide +kernel
theorem L_h : L ("h" : Str) = [104] := by decide +kernel
theorem L_a : L ("a" : Str) = [97] := by decide +kernel
theorem L_one (c : Nat) : L ⟨#[c]⟩ = [c] := by simp [L]
theorem h_mk : ("h" : Str) = ⟨#[104]⟩ := by decide +kernel
theorem a_mk : ("a" : Str) = ⟨#[97]⟩ := by decide +kernel
theorem eqS {a b : Str} : decide (V.str a = V.str b) = decide (L a = L b) := by
  by_cases h : a = b
  · subst h
    simp
  · rw [decide_eq_false (fun z => h (V.str.inj z)), decide_eq_false (fun z => h (L_ext z))]
theorem eqI {a b : Int} : decide (V.int a = V.int b) = decide (a = b) := by
  by_cases h : a = b
  · subst h
    simp
  · rw [decide_eq_false (fun z => h (V.int.inj z)), decide_eq_false h]

/-- how many signs c -/
def cn (c : Nat) (l : List Nat) : Int := ((l.count c : Nat) : Int)
theorem cn_nil (c : Nat) : cn c [] = 0 := rfl
theorem cn_app (c : Nat) (a b : List Nat) : cn c (a ++ b) = cn c a + cn c b := by
  unfold cn
  rw [List.count_append]
  omega
theorem cn_cons (c x : Nat) (l : List Nat) : cn c (x :: l) = (if x = c then 1 else 0) + cn c l := by
  unfold cn
  rw [List.count_cons]
  by_cases h : x = c
  · simp [h]
    omega
  · simp [h]
theorem cn_pos (c : Nat) (l : List Nat) : 0 ≤ cn c l := by
  unfold cn
  omega
theorem cn_le (c : Nat) (l : List Nat) : cn c l ≤ l.length := by
  unfold cn
  have := List.count_le_length (a := c) (l := l)
  omega
theorem cnt_cn (c : Nat) : ∀ l : List Nat, cnt c l = cn c l
  | [] => by rw [cn_nil]; rfl
  | x :: l => by rw [cn_cons, cnt_cons, cnt_cn c l]
theorem count_h (x : Str) : Txt.count x ("h" : Str) = cn 104 (L x) := by rw [h_mk, count_cnt, cnt_cn]
theorem count_a (x : Str) : Txt.count x ("a" : Str) = cn 97 (L x) := by rw [a_mk, count_cnt, cnt_cn]
theorem marks_all : ∀ l : List Nat, (∀ c ∈ l, c = 104 ∨ c = 97) → cn 104 l + cn 97 l = l.length
  | [], _ => rfl
  | x :: l, h => by
    have ih := marks_all l fun c hc => h c (List.mem_cons_of_mem _ hc)
    rw [cn_cons, cn_cons, List.length_cons]
    rcases h x List.mem_cons_self with e | e <;> subst e <;> simp <;> omega

/-- z[:k], 0 ≤ k -/
theorem cut_take (z : Str) {k : Int} (h : 0 ≤ k) : L (cutS z none (some k)) = (L z).take k.toNat := by
  unfold cutS
  rw [L_mk, HT.sIx_none, List.drop_zero, Nat.sub_zero]
  show List.take (if k < 0 then _ else min k.toNat z.length) z.cps.toList = _
  rw [if_neg (by omega)]
  rw [len_L]
  exact (List.take_eq_take_min).symm
theorem join_L (ys : List Str) : L (Txt.join ("" : Str) ys) = (ys.map L).flatten := by
  rw [TL.join_eq]
  show TL.tl (Str.join _ _) = _
  rw [TL.tl_join]
  show TL.joinL (L ("" : Str)) _ = _
  rw [L_empty]
  show _ = (ys.map TL.tl).flatten
  generalize ys.map TL.tl = ls
  induction ls with
  | nil => rfl
  | cons p ls ih =>
    cases ls with
    | nil => simp [TL.joinL]
    | cons q r =>
      show p ++ ([] ++ TL.joinL [] (q :: r)) = _
      rw [ih]
      simp

/-! ### the middle, said again and again -/
def cyc (m : List Nat) (k : Nat) : List Nat := (List.range k).map fun j => m.getD (j % m.length) 0
theorem cyc_len (m : List Nat) (k : Nat) : (cyc m k).length = k := by simp [cyc]
theorem cyc_get (m : List Nat) {k j : Nat} (h : j < k) : (cyc m k)[j]? = some (m.getD (j % m.length) 0) := by
  simp [cyc, List.getElem?_map, List.getElem?_range h]
theorem cyc_get' {m : List Nat} (hm : 0 < m.length) {k j : Nat} (h : j < k) : (cyc m k)[j]? = m[j % m.length]? := by
  rw [cyc_get m h]
  have := Nat.mod_lt j hm
  rw [List.getD_eq_getElem?_getD, List.getElem?_eq_getElem this]
  rfl
theorem cyc_take (m : List Nat) {k j : Nat} (h : j ≤ k) : (cyc m k).take j = cyc m j := by
  unfold cyc
  rw [← List.map_take, List.take_range, Nat.min_eq_left h]
theorem cyc_full {m : List Nat} : cyc m m.length = m := by
  apply List.ext_getElem?
  intro j
  by_cases h : j < m.length
  · rw [cyc_get' (by omega) h, Nat.mod_eq_of_lt h]
  · rw [List.getElem?_eq_none (by rw [cyc_len]; omega), List.getElem?_eq_none (by omega)]
theorem cyc_add {m : List Nat} (hm : 0 < m.length) (k : Nat) : cyc m (m.length + k) = m ++ cyc m k := by
  apply List.ext_getElem?
  intro j
  by_cases h : j < m.length
  · rw [cyc_get' hm (by omega), List.getElem?_append_left h, Nat.mod_eq_of_lt h]
  · rw [List.getElem?_append_right (by omega)]
    by_cases h2 : j < m.length + k
    · rw [cyc_get' hm h2, cyc_get' hm (by omega), Nat.mod_eq_sub_mod (by omega)]
    · rw [List.getElem?_eq_none (by rw [cyc_len]; omega), List.getElem?_eq_none (by rw [cyc_len]; omega)]
/-- how many c the first k of them have -/
def cyn (c : Nat) (m : List Nat) (k : Nat) : Int := ((k / m.length : Nat) : Int) * cn c m + cn c (m.take (k % m.length))
theorem cyn_eq (c : Nat) {m : List Nat} (hm : 0 < m.length) : ∀ k : Nat, cn c (cyc m k) = cyn c m k := by
  intro k
  induction k using Nat.strongRecOn with
  | ind k ih =>
    by_cases h : k < m.length
    · unfold cyn
      rw [Nat.div_eq_of_lt h, Nat.mod_eq_of_lt h]
      have e : cyc m k = m.take k := by
        have := cyc_take m (Nat.le_of_lt h)
        rw [cyc_full] at this
        exact this.symm
      rw [e]
      show _ = ((0 : Nat) : Int) * _ + _
      omega
    · obtain ⟨j, rfl⟩ : ∃ j, k = m.length + j := ⟨k - m.length, by omega⟩
      rw [cyc_add hm, cn_app, ih j (by omega)]
      unfold cyn
      rw [Nat.add_mod_left, Nat.add_div_left _ hm]
      rw [show (((j / m.length + 1 : Nat) : Int)) = ((j / m.length : Nat) : Int) + 1 by omega, Int.add_mul]
      omega
theorem cyn_add (c : Nat) {m : List Nat} (hm : 0 < m.length) (k : Nat) : cyn c m (k + m.length) = cyn c m k + cn c m := by
  rw [← cyn_eq c hm, ← cyn_eq c hm, Nat.add_comm, cyc_add hm, cn_app]
  omega
theorem cyn_mul (c : Nat) {m : List Nat} (hm : 0 < m.length) (k : Nat) : cyn c m (k * m.length) = (k : Int) * cn c m := by
  unfold cyn
  rw [Nat.mul_div_cancel _ hm, Nat.mul_mod_left, List.take_zero, cn_nil]
  omega

/-! ### rows -/
def row (h m t : List Nat) (n : Nat) : List Nat := h ++ cyc m (n - h.length - t.length) ++ t
section
variable {h m t : List Nat} {n : Nat}
theorem row_len (hn : h.length + t.length ≤ n) : (row h m t n).length = n := by
  unfold row
  rw [List.length_append, List.length_append, cyc_len]
  omega
theorem row_head {j : Nat} (hj : j < h.length) : (row h m t n)[j]? = h[j]? := by
  unfold row
  rw [List.append_assoc, List.getElem?_append_left hj]
theorem row_mid {j : Nat} (hm : 0 < m.length) (hn : h.length + t.length ≤ n) (h1 : h.length ≤ j) (h2 : j < n - t.length) : (row h m t n)[j]? = m[(j - h.length) % m.length]? := by
  unfold row
  rw [List.append_assoc, List.getElem?_append_right h1, List.getElem?_append_left (by rw [cyc_len]; omega), cyc_get' hm (by omega)]
theorem row_tail {j : Nat} (hn : h.length + t.length ≤ n) (h1 : n - t.length ≤ j) : (row h m t n)[j]? = t[j - (n - t.length)]? := by
  unfold row
  rw [List.getElem?_append_right (by rw [List.length_append, cyc_len]; omega)]
  congr 1
  rw [List.length_append, cyc_len]
  omega
/-- the homes of the first i places -/
def hom (c : Nat) (h m t : List Nat) (n i : Nat) : Int := cn c (h.take i) + cyn c m (min i (n - t.length) - h.length) + cn c (t.take (i - (n - t.length)))
theorem hom_eq (c : Nat) (hm : 0 < m.length) (hn : h.length + t.length ≤ n) (i : Nat) (hi : i ≤ n) : cn c ((row h m t n).take i) = hom c h m t n i := by
  unfold row hom
  rw [List.take_append, List.take_append, cn_app, cn_app, List.length_append, cyc_len]
  congr 2
  · rw [← cyn_eq c hm]
    by_cases h1 : i - h.length ≤ n - h.length - t.length
    · rw [cyc_take m h1]
      congr 2
      omega
    · rw [List.take_of_length_le (by rw [cyc_len]; omega)]
      congr 2
      omega
  · congr 1
    omega
theorem cn_succ (c : Nat) {l : List Nat} {i x : Nat} (hx : l[i]? = some x) : cn c (l.take (i + 1)) = cn c (l.take i) + (if x = c then 1 else 0) := by
  rw [List.take_add_one, hx, cn_app]
  show _ + cn c [x] = _
  rw [cn_cons, cn_nil]
  omega
end

theorem cyc_end {m : List Nat} (hm : 0 < m.length) (k : Nat) : cyc m (k * m.length) ++ m = cyc m ((k + 1) * m.length) := by
  apply List.ext_getElem?
  intro j
  by_cases h : j < k * m.length
  · rw [List.getElem?_append_left (by rw [cyc_len]; exact h), cyc_get' hm h, cyc_get' hm (by rw [Nat.succ_mul]; omega)]
  · rw [List.getElem?_append_right (by rw [cyc_len]; omega), cyc_len]
    by_cases h2 : j < (k + 1) * m.length
    · rw [cyc_get' hm h2]
      rw [Nat.succ_mul] at h2
      obtain ⟨i, rfl⟩ : ∃ i, j = i + k * m.length := ⟨j - k * m.length, by omega⟩
      rw [Nat.add_mul_mod_self_right, Nat.mod_eq_of_lt (by omega)]
      congr 1
      omega
    · rw [List.getElem?_eq_none (by rw [Nat.succ_mul] at h2; omega), List.getElem?_eq_none (by rw [cyc_len]; omega)]

/-! ### loops of mirrors -/
section
open Rx
variable {α β S : Type}
theorem mapC_ok {body : α → (β → Prop) → Prop} {k : List β → Prop} (g : α → β) : ∀ {xs : List α} {acc : List β}, (∀ x ∈ xs, ∀ k' : β → Prop, k' (g x) → body x k') → k (acc ++ xs.map g) → mapC body xs acc k
  | [], acc, _, q => by
    rw [List.map_nil, List.append_nil] at q
    exact q
  | x :: xs, acc, h, q => h x List.mem_cons_self _ (mapC_ok g (fun y hy => h y (List.mem_cons_of_mem _ hy)) (by rw [List.append_assoc]; exact q))
theorem mapC_any {body : α → (β → Prop) → Prop} {k : List β → Prop} (P : β → Prop) : ∀ {xs : List α} {acc : List β}, (∀ x ∈ xs, ∀ k' : β → Prop, (∀ y, P y → k' y) → body x k') → (∀ ys : List β, ys.length = xs.length → (∀ y ∈ ys, P y) → k (acc ++ ys)) → mapC body xs acc k
  | [], acc, _, q => by
    have := q [] rfl (fun _ h => absurd h List.not_mem_nil)
    rw [List.append_nil] at this
    exact this
  | x :: xs, acc, h, q => h x List.mem_cons_self _ fun y hy => mapC_any P (fun z hz => h z (List.mem_cons_of_mem _ hz)) fun ys hl hp => by
    rw [List.append_assoc]
    exact q (y :: ys) (congrArg Nat.succ hl) fun z hz => by
      rcases List.mem_cons.mp hz with e | hz
      · rw [e]
        exact hy
      · exact hp z hz
theorem filC_ok {body : α → (Option β → Prop) → Prop} {k : List β → Prop} (g : α → Option β) : ∀ {xs : List α} {acc : List β}, (∀ x ∈ xs, ∀ k' : Option β → Prop, k' (g x) → body x k') → k (acc ++ xs.filterMap g) → filC body xs acc k
  | [], acc, _, q => by
    rw [List.filterMap_nil, List.append_nil] at q
    exact q
  | x :: xs, acc, h, q => h x List.mem_cons_self _ (by
    show match g x with | some y => filC body xs (acc ++ [y]) k | none => filC body xs acc k
    cases e : g x with
    | none => exact filC_ok g (fun y hy => h y (List.mem_cons_of_mem _ hy)) (by rw [List.filterMap_cons_none e] at q; exact q)
    | some y => exact filC_ok g (fun y hy => h y (List.mem_cons_of_mem _ hy)) (by rw [List.filterMap_cons_some e] at q; rw [List.append_assoc]; exact q))
theorem forC_ok {body : α → S → (S → Prop) → Prop} {k : S → Prop} (I : S → Prop) : ∀ {xs : List α} {s0 : S}, (∀ x ∈ xs, ∀ (s : S) (k' : S → Prop), I s → (∀ s', I s' → k' s') → body x s k') → I s0 → (∀ s, I s → k s) → forC body xs s0 k
  | [], s0, _, i, q => q s0 i
  | x :: xs, s0, h, i, q => h x List.mem_cons_self s0 _ i fun s' i' => forC_ok I (fun y hy => h y (List.mem_cons_of_mem _ hy)) i' q
theorem whileC_ok {body : S → (S → Prop) → (S → Prop) → Prop} {k : S → Prop} (I : S → Prop) (μ : S → Nat) (h : ∀ (s : S) (k1 : S → Prop), I s → (∀ s', I s' → μ s' < μ s → k1 s') → body s k1 k) {s0 : S} (i : I s0) : ∃ n, whileC body n s0 k := by
  have go : ∀ (n : Nat) (s : S), μ s < n → I s → whileC body n s k := by
    intro n
    induction n with
    | zero => intro s hs; omega
    | succ n ih => intro s hs is; exact h s _ is fun s' is' hl => ih s' (by omega) is'
  exact ⟨_, go _ s0 (Nat.lt_succ_self _) i⟩
theorem rangeI_mem {lo hi x : Int} (h : x ∈ rangeI lo hi) : lo ≤ x ∧ x < hi := by
  unfold rangeI at h
  obtain ⟨i, hi', e⟩ := List.mem_map.mp h
  have := List.mem_range.mp hi'
  omega
end
end Wm
namespace Lw
open PySem PySem.Spec PyProof.Rows L2 Rx
abbrev St := L2.St
def topS (i : Nat) : Stmt := PySem.Challenge.pw_ringrows_k68_whole_homes_of_pairs.main.body.getD i (.Pass ⟨0, 0, 0, 0⟩)
abbrev s_is_marks : Stmt := (topS 19)
abbrev s_check_part : Stmt := (topS 51)
abbrev s_draw : Stmt := (topS 55)
abbrev s_pick : Stmt := (topS 56)
abbrev s_marks : Stmt := (topS 57)
abbrev s_sheet : Stmt := (topS 58)
abbrev s_season : Stmt := (topS 65)
abbrev s_is_integer : Stmt := (topS 16)
abbrev s_Rule_init : Stmt := (inClass (topS 45) 0)
abbrev s_made : Stmt := (topS 59)
abbrev s_fewest : Stmt := (topS 60)
abbrev s_line : Stmt := (topS 61)
abbrev s_days : Stmt := (topS 66)
abbrev s_host : Stmt := (topS 63)
abbrev s_contrary : Stmt := (topS 62)
abbrev s_sign : Stmt := (topS 64)
abbrev s_Word_least : Stmt := (inClass (topS 50) 4)
abbrev s_Rule_least_size : Stmt := (inClass (topS 45) 5)
abbrev s_is_size : Stmt := (topS 21)
abbrev s_check_size : Stmt := (topS 22)
abbrev s_is_list : Stmt := (topS 18)
abbrev s_is_count : Stmt := (topS 17)
abbrev s_is_leg : Stmt := (topS 41)
abbrev s_check_legs : Stmt := (topS 40)
abbrev s_check_team : Stmt := (topS 23)
abbrev s_check_pair : Stmt := (topS 24)
abbrev s_Rule_step : Stmt := (inClass (topS 45) 1)
abbrev s_rounds_at : Stmt := (topS 35)
abbrev s_rounds_of : Stmt := (topS 29)
abbrev s_check_day : Stmt := (topS 25)
abbrev s_check : Stmt := (topS 31)
abbrev s_Rule_stander : Stmt := (inClass (topS 45) 3)
abbrev s_stander_mark : Stmt := (topS 30)
abbrev s_seat : Stmt := (topS 32)
abbrev s_contrary_marks : Stmt := (topS 20)
abbrev s_Rule_word : Stmt := (inClass (topS 45) 2)
abbrev s_check_places : Stmt := (topS 52)
abbrev s_Word_mark : Stmt := (inClass (topS 50) 6)
abbrev s_Rule_turned : Stmt := (inClass (topS 45) 4)
abbrev s_turned_if : Stmt := (topS 34)
abbrev s_mark_at : Stmt := (topS 33)
abbrev s_mark_of : Stmt := (topS 28)
abbrev s_pair_homes : Stmt := (topS 39)
abbrev s_small_right : Stmt := (topS 72)
abbrev s_days_of : Stmt := (topS 69)
abbrev s_mark : Stmt := (topS 67)
abbrev s_far_sign : Stmt := (topS 68)
abbrev s_homes : Stmt := (topS 70)
abbrev s_pair_right : Stmt := (topS 71)
abbrev s_right : Stmt := (topS 73)
abbrev s_pot : Stmt := (topS 54)
abbrev s_law : Stmt := (topS 74)
abbrev s_Word_init : Stmt := (inClass (topS 50) 0)
theorem sc_is_marks : FnScope ["value"] ["value"] (defScope s_is_marks) := ⟨rfl, rfl, rfl, by decide +kernel, rfl, by decide +kernel, by decide +kernel⟩
theorem sc_check_part : FnScope ["marks"] ["marks"] (defScope s_check_part) := ⟨rfl, rfl, rfl, by decide +kernel, rfl, by decide +kernel, by decide +kernel⟩
theorem sc_draw : FnScope ["_law_pot_here", "_law_many", "_law_digit"] ["_law_pot_here", "_law_many"] (defScope s_draw) := ⟨rfl, rfl, rfl, by decide +kernel, rfl, by decide +kernel, by decide +kernel⟩
theorem sc_pick : FnScope ["_law_pot_here", "_law_some"] ["_law_pot_here", "_law_some"] (defScope s_pick) := ⟨rfl, rfl, rfl, by decide +kernel, rfl, by decide +kernel, by decide +kernel⟩
theorem sc_marks : FnScope ["_law_pot_here", "_law_sizes", "_law_turn"] ["_law_pot_here", "_law_sizes"] (defScope s_marks) := ⟨rfl, rfl, rfl, by decide +kernel, rfl, by decide +kernel, by decide +kernel⟩
theorem sc_sheet : FnScope ["_law_pot_here", "_law_pace", "_law_parts"] ["_law_pot_here"] (defScope s_sheet) := ⟨rfl, rfl, rfl, by decide +kernel, rfl, by decide +kernel, by decide +kernel⟩
theorem sc_season : FnScope ["_law_pot_here", "_law_found", "_law_turn"] ["_law_pot_here"] (defScope s_season) := ⟨rfl, rfl, rfl, by decide +kernel, rfl, by decide +kernel, by decide +kernel⟩
theorem sc_is_integer : FnScope ["value"] ["value"] (defScope s_is_integer) := ⟨rfl, rfl, rfl, by decide +kernel, rfl, by decide +kernel, by decide +kernel⟩
theorem sc_Rule_init : FnScope ["self", "step", "word", "stander", "turned"] ["self", "step", "word", "stander", "turned"] (defScope s_Rule_init) := ⟨rfl, rfl, rfl, by decide +kernel, rfl, by decide +kernel, by decide +kernel⟩
theorem sc_made : FnScope ["_law_sheet_here", "_law_pace", "_law_parts", "_law_host_here", "_law_is_bent"] ["_law_sheet_here"] (defScope s_made) := ⟨rfl, rfl, rfl, by decide +kernel, rfl, by decide +kernel, by decide +kernel⟩
theorem sc_fewest : FnScope ["_law_sheet_here"] ["_law_sheet_here"] (defScope s_fewest) := ⟨rfl, rfl, rfl, by decide +kernel, rfl, by decide +kernel, by decide +kernel⟩
theorem sc_line : FnScope ["_law_parts", "_law_places", "_law_many"] ["_law_parts", "_law_places"] (defScope s_line) := ⟨rfl, rfl, rfl, by decide +kernel, rfl, by decide +kernel, by decide +kernel⟩
theorem sc_days : FnScope ["_law_leg", "_law_ring", "_law_turn"] ["_law_leg", "_law_ring"] (defScope s_days) := ⟨rfl, rfl, rfl, by decide +kernel, rfl, by decide +kernel, by decide +kernel⟩
theorem sc_host : FnScope ["_law_host_here", "_law_day_now"] ["_law_host_here", "_law_day_now"] (defScope s_host) := ⟨rfl, rfl, rfl, by decide +kernel, rfl, by decide +kernel, by decide +kernel⟩
theorem sc_contrary : FnScope ["_law_sign_here"] ["_law_sign_here"] (defScope s_contrary) := ⟨rfl, rfl, rfl, by decide +kernel, rfl, by decide +kernel, by decide +kernel⟩
theorem sc_sign : FnScope ["_law_sheet_here", "_law_line_here", "_law_ring", "_law_who", "_law_day_now", "_law_pace", "_law_parts", "_law_host_here", "_law_is_bent", "_law_at", "_law_is_far", "_law_sign_here"] ["_law_sheet_here", "_law_line_here", "_law_ring", "_law_who", "_law_day_now"] (defScope s_sign) := ⟨rfl, rfl, rfl, by decide +kernel, rfl, by decide +kernel, by decide +kernel⟩
theorem sc_Word_least : FnScope ["self"] ["self"] (defScope s_Word_least) := ⟨rfl, rfl, rfl, by decide +kernel, rfl, by decide +kernel, by decide +kernel⟩
theorem sc_Rule_least_size : FnScope ["self"] ["self"] (defScope s_Rule_least_size) := ⟨rfl, rfl, rfl, by decide +kernel, rfl, by decide +kernel, by decide +kernel⟩
theorem sc_is_size : FnScope ["rule", "value"] ["rule", "value"] (defScope s_is_size) := ⟨rfl, rfl, rfl, by decide +kernel, rfl, by decide +kernel, by decide +kernel⟩
theorem sc_check_size : FnScope ["rule", "size"] ["rule", "size"] (defScope s_check_size) := ⟨rfl, rfl, rfl, by decide +kernel, rfl, by decide +kernel, by decide +kernel⟩
theorem sc_is_list : FnScope ["value"] ["value"] (defScope s_is_list) := ⟨rfl, rfl, rfl, by decide +kernel, rfl, by decide +kernel, by decide +kernel⟩
theorem sc_is_count : FnScope ["value"] ["value"] (defScope s_is_count) := ⟨rfl, rfl, rfl, by decide +kernel, rfl, by decide +kernel, by decide +kernel⟩
theorem sc_is_leg : FnScope ["value", "begin", "way", "exchanged"] ["value"] (defScope s_is_leg) := ⟨rfl, rfl, rfl, by decide +kernel, rfl, by decide +kernel, by decide +kernel⟩
theorem sc_check_legs : FnScope ["legs", "position", "leg"] ["legs"] (defScope s_check_legs) := ⟨rfl, rfl, rfl, by decide +kernel, rfl, by decide +kernel, by decide +kernel⟩
theorem sc_check_team : FnScope ["team", "teams"] ["team", "teams"] (defScope s_check_team) := ⟨rfl, rfl, rfl, by decide +kernel, rfl, by decide +kernel, by decide +kernel⟩
theorem sc_check_pair : FnScope ["one", "other", "teams"] ["one", "other", "teams"] (defScope s_check_pair) := ⟨rfl, rfl, rfl, by decide +kernel, rfl, by decide +kernel, by decide +kernel⟩
theorem sc_Rule_step : FnScope ["self"] ["self"] (defScope s_Rule_step) := ⟨rfl, rfl, rfl, by decide +kernel, rfl, by decide +kernel, by decide +kernel⟩
theorem sc_rounds_at : FnScope ["step", "places", "ring", "steps", "rest", "goals", "lap", "goal"] ["step", "places", "ring"] (defScope s_rounds_at) := ⟨rfl, rfl, rfl, by decide +kernel, rfl, by decide +kernel, by decide +kernel⟩
theorem sc_rounds_of : FnScope ["rule", "size", "one", "other"] ["rule", "size", "one", "other"] (defScope s_rounds_of) := ⟨rfl, rfl, rfl, by decide +kernel, rfl, by decide +kernel, by decide +kernel⟩
theorem sc_check_day : FnScope ["day", "rounds"] ["day", "rounds"] (defScope s_check_day) := ⟨rfl, rfl, rfl, by decide +kernel, rfl, by decide +kernel, by decide +kernel⟩
theorem sc_check : FnScope ["rule", "size", "team", "day"] ["rule", "size", "team", "day"] (defScope s_check) := ⟨rfl, rfl, rfl, by decide +kernel, rfl, by decide +kernel, by decide +kernel⟩
theorem sc_Rule_stander : FnScope ["self"] ["self"] (defScope s_Rule_stander) := ⟨rfl, rfl, rfl, by decide +kernel, rfl, by decide +kernel, by decide +kernel⟩
theorem sc_stander_mark : FnScope ["rule", "day"] ["rule", "day"] (defScope s_stander_mark) := ⟨rfl, rfl, rfl, by decide +kernel, rfl, by decide +kernel, by decide +kernel⟩
theorem sc_seat : FnScope ["rule", "size", "team", "day", "place"] ["rule", "size", "team", "day"] (defScope s_seat) := ⟨rfl, rfl, rfl, by decide +kernel, rfl, by decide +kernel, by decide +kernel⟩
theorem sc_contrary_marks : FnScope ["marks", "mark"] ["marks"] (defScope s_contrary_marks) := ⟨rfl, rfl, rfl, by decide +kernel, rfl, by decide +kernel, by decide +kernel⟩
theorem sc_Rule_word : FnScope ["self"] ["self"] (defScope s_Rule_word) := ⟨rfl, rfl, rfl, by decide +kernel, rfl, by decide +kernel, by decide +kernel⟩
theorem sc_check_places : FnScope ["word", "places"] ["word", "places"] (defScope s_check_places) := ⟨rfl, rfl, rfl, by decide +kernel, rfl, by decide +kernel, by decide +kernel⟩
theorem sc_Word_mark : FnScope ["self", "places", "place", "ahead"] ["self", "places", "place"] (defScope s_Word_mark) := ⟨rfl, rfl, rfl, by decide +kernel, rfl, by decide +kernel, by decide +kernel⟩
theorem sc_Rule_turned : FnScope ["self"] ["self"] (defScope s_Rule_turned) := ⟨rfl, rfl, rfl, by decide +kernel, rfl, by decide +kernel, by decide +kernel⟩
theorem sc_turned_if : FnScope ["rule", "day", "marks"] ["rule", "day", "marks"] (defScope s_turned_if) := ⟨rfl, rfl, rfl, by decide +kernel, rfl, by decide +kernel, by decide +kernel⟩
theorem sc_mark_at : FnScope ["rule", "size", "at", "day", "mark"] ["rule", "size", "at", "day"] (defScope s_mark_at) := ⟨rfl, rfl, rfl, by decide +kernel, rfl, by decide +kernel, by decide +kernel⟩
theorem sc_mark_of : FnScope ["rule", "size", "team", "day"] ["rule", "size", "team", "day"] (defScope s_mark_of) := ⟨rfl, rfl, rfl, by decide +kernel, rfl, by decide +kernel, by decide +kernel⟩
theorem sc_pair_homes : FnScope ["rule", "size", "legs", "one", "other", "marks", "day", "leg"] ["rule", "size", "legs", "one", "other"] (defScope s_pair_homes) := ⟨rfl, rfl, rfl, by decide +kernel, rfl, by decide +kernel, by decide +kernel⟩
theorem sc_small_right : FnScope ["_law_sheet_here", "_law_plan", "_law_ring", "_law_legs_now", "_law_line_here", "_law_who", "_law_mate", "_law_due", "_law_leg", "_law_day_now", "_law_seats", "_law_do_meet", "_law_sign_here", "_law_other_team", "_law_team_no"] ["_law_sheet_here", "_law_plan", "_law_ring", "_law_legs_now"] (defScope s_small_right) := ⟨rfl, rfl, rfl, by decide +kernel, rfl, by decide +kernel, by decide +kernel⟩
theorem sc_days_of : FnScope ["_law_sheet_here", "_law_ring", "_law_who", "_law_mate", "_law_by", "_law_due", "_law_found", "_law_turns"] ["_law_sheet_here", "_law_ring", "_law_who", "_law_mate"] (defScope s_days_of) := ⟨rfl, rfl, rfl, by decide +kernel, rfl, by decide +kernel, by decide +kernel⟩
theorem sc_mark : FnScope ["_law_parts", "_law_places", "_law_place"] ["_law_parts", "_law_places", "_law_place"] (defScope s_mark) := ⟨rfl, rfl, rfl, by decide +kernel, rfl, by decide +kernel, by decide +kernel⟩
theorem sc_far_sign : FnScope ["_law_sheet_here", "_law_ring", "_law_who", "_law_day_now", "_law_pace", "_law_parts", "_law_host_here", "_law_is_bent", "_law_at", "_law_is_far", "_law_sign_here"] ["_law_sheet_here", "_law_ring", "_law_who", "_law_day_now"] (defScope s_far_sign) := ⟨rfl, rfl, rfl, by decide +kernel, rfl, by decide +kernel, by decide +kernel⟩
theorem sc_homes : FnScope ["_law_sheet_here", "_law_ring", "_law_legs_now", "_law_days_here", "_law_who", "_law_signs", "_law_many", "_law_day_now", "_law_sign_here", "_law_leg"] ["_law_sheet_here", "_law_ring", "_law_legs_now", "_law_days_here", "_law_who"] (defScope s_homes) := ⟨rfl, rfl, rfl, by decide +kernel, rfl, by decide +kernel, by decide +kernel⟩
theorem sc_pair_right : FnScope ["_law_sheet_here", "_law_plan", "_law_ring", "_law_legs_now", "_law_who", "_law_mate", "_law_days_here", "_law_due", "_law_other_due", "_law_others", "_law_begin", "_law_way", "_law_is_other"] ["_law_sheet_here", "_law_plan", "_law_ring", "_law_legs_now", "_law_who", "_law_mate"] (defScope s_pair_right) := ⟨rfl, rfl, rfl, by decide +kernel, rfl, by decide +kernel, by decide +kernel⟩
theorem sc_right : FnScope ["_law_pot_here", "_law_sheet_here", "_law_legs_now", "_law_plan", "_law_least", "_law_great", "_law_ring", "_law_turn", "_law_whole", "_law_who", "_law_mate"] ["_law_pot_here"] (defScope s_right) := ⟨rfl, rfl, rfl, by decide +kernel, rfl, by decide +kernel, by decide +kernel⟩
theorem sc_pot : FnScope ["_law_script", "_law_k", "_law_cell"] ["_law_script", "_law_k"] (defScope s_pot) := ⟨rfl, rfl, rfl, by decide +kernel, rfl, by decide +kernel, by decide +kernel⟩
theorem sc_law : FnScope ["_law_script", "_law_k"] ["_law_script"] (defScope s_law) := ⟨rfl, rfl, rfl, by decide +kernel, rfl, by decide +kernel, by decide +kernel⟩
theorem sc_Word_init : FnScope ["self", "head", "middle", "tail"] ["self", "head", "middle", "tail"] (defScope s_Word_init) := ⟨rfl, rfl, rfl, by decide +kernel, rfl, by decide +kernel, by decide +kernel⟩
def wd_CONTRARIES : List (Str × Str) := [("h", "a"), ("a", "h")]
def wd_CONTRARY_STANDERS : List (Str × Str) := [("home", "away"), ("away", "home"), ("even", "odd"), ("odd", "even")]
def wd_STANDER_MARKS : List (Str × Str) := [("home", "hh"), ("away", "aa"), ("even", "ha"), ("odd", "ah")]
structure Ad where
  a_is_marks : Addr
  d_is_marks : FuncData
  a_check_part : Addr
  d_check_part : FuncData
  a_draw : Addr
  d_draw : FuncData
  a_pick : Addr
  d_pick : FuncData
  a_marks : Addr
  d_marks : FuncData
  a_sheet : Addr
  d_sheet : FuncData
  a_season : Addr
  d_season : FuncData
  a_is_integer : Addr
  d_is_integer : FuncData
  a_Rule_init : Addr
  d_Rule_init : FuncData
  a_made : Addr
  d_made : FuncData
  a_fewest : Addr
  d_fewest : FuncData
  a_line : Addr
  d_line : FuncData
  a_days : Addr
  d_days : FuncData
  a_host : Addr
  d_host : FuncData
  a_contrary : Addr
  d_contrary : FuncData
  a_sign : Addr
  d_sign : FuncData
  a_Word_least : Addr
  d_Word_least : FuncData
  a_Rule_least_size : Addr
  d_Rule_least_size : FuncData
  a_is_size : Addr
  d_is_size : FuncData
  a_check_size : Addr
  d_check_size : FuncData
  a_is_list : Addr
  d_is_list : FuncData
  a_is_count : Addr
  d_is_count : FuncData
  a_is_leg : Addr
  d_is_leg : FuncData
  a_check_legs : Addr
  d_check_legs : FuncData
  a_check_team : Addr
  d_check_team : FuncData
  a_check_pair : Addr
  d_check_pair : FuncData
  a_Rule_step : Addr
  d_Rule_step : FuncData
  a_rounds_at : Addr
  d_rounds_at : FuncData
  a_rounds_of : Addr
  d_rounds_of : FuncData
  a_check_day : Addr
  d_check_day : FuncData
  a_check : Addr
  d_check : FuncData
  a_Rule_stander : Addr
  d_Rule_stander : FuncData
  a_stander_mark : Addr
  d_stander_mark : FuncData
  a_seat : Addr
  d_seat : FuncData
  a_contrary_marks : Addr
  d_contrary_marks : FuncData
  a_Rule_word : Addr
  d_Rule_word : FuncData
  a_check_places : Addr
  d_check_places : FuncData
  a_Word_mark : Addr
  d_Word_mark : FuncData
  a_Rule_turned : Addr
  d_Rule_turned : FuncData
  a_turned_if : Addr
  d_turned_if : FuncData
  a_mark_at : Addr
  d_mark_at : FuncData
  a_mark_of : Addr
  d_mark_of : FuncData
  a_pair_homes : Addr
  d_pair_homes : FuncData
  a_small_right : Addr
  d_small_right : FuncData
  a_days_of : Addr
  d_days_of : FuncData
  a_mark : Addr
  d_mark : FuncData
  a_far_sign : Addr
  d_far_sign : FuncData
  a_homes : Addr
  d_homes : FuncData
  a_pair_right : Addr
  d_pair_right : FuncData
  a_right : Addr
  d_right : FuncData
  a_pot : Addr
  d_pot : FuncData
  a_law : Addr
  d_law : FuncData
  a_Word_init : Addr
  d_Word_init : FuncData
  c_Word : Addr
  c_Rule : Addr
  pa_Rule_least_size : Addr
  pa_Rule_stander : Addr
  pa_Rule_step : Addr
  pa_Rule_turned : Addr
  pa_Rule_word : Addr
  pa_Word_least : Addr
  wd_CONTRARIES : Addr
  wd_CONTRARY_STANDERS : Addr
  wd_STANDER_MARKS : Addr
structure Txt (w : World) (K : PySem.W.Frag) (mg : Str → Option Value) (A : Ad) : Prop where
  F_is_marks : Fun K "is_marks" "is_marks" s_is_marks A.a_is_marks A.d_is_marks
  b_is_marks : Binds K A.d_is_marks ["value"] []
  g_is_marks : mg "is_marks" = some (.ref A.a_is_marks)
  F_check_part : Fun K "_check_part" "_check_part" s_check_part A.a_check_part A.d_check_part
  b_check_part : Binds K A.d_check_part ["marks"] []
  g_check_part : mg "_check_part" = some (.ref A.a_check_part)
  F_draw : Fun K "_law_draw" "_law_draw" s_draw A.a_draw A.d_draw
  b_draw : Binds K A.d_draw ["_law_pot_here", "_law_many"] []
  g_draw : mg "_law_draw" = some (.ref A.a_draw)
  F_pick : Fun K "_law_pick" "_law_pick" s_pick A.a_pick A.d_pick
  b_pick : Binds K A.d_pick ["_law_pot_here", "_law_some"] []
  g_pick : mg "_law_pick" = some (.ref A.a_pick)
  F_marks : Fun K "_law_marks" "_law_marks" s_marks A.a_marks A.d_marks
  b_marks : Binds K A.d_marks ["_law_pot_here", "_law_sizes"] []
  g_marks : mg "_law_marks" = some (.ref A.a_marks)
  F_sheet : Fun K "_law_sheet" "_law_sheet" s_sheet A.a_sheet A.d_sheet
  b_sheet : Binds K A.d_sheet ["_law_pot_here"] []
  g_sheet : mg "_law_sheet" = some (.ref A.a_sheet)
  F_season : Fun K "_law_season" "_law_season" s_season A.a_season A.d_season
  b_season : Binds K A.d_season ["_law_pot_here"] []
  g_season : mg "_law_season" = some (.ref A.a_season)
  F_is_integer : Fun K "is_integer" "is_integer" s_is_integer A.a_is_integer A.d_is_integer
  b_is_integer : Binds K A.d_is_integer ["value"] []
  g_is_integer : mg "is_integer" = some (.ref A.a_is_integer)
  F_Rule_init : FunD K "__init__" "Rule.__init__" (defArgs s_Rule_init) (defBody s_Rule_init) (defScope s_Rule_init) [V.bl false] [] A.a_Rule_init A.d_Rule_init
  b_Rule_init : Binds K A.d_Rule_init ["self", "step", "word", "stander", "turned"] []
  F_made : Fun K "_law_made" "_law_made" s_made A.a_made A.d_made
  b_made : Binds K A.d_made ["_law_sheet_here"] []
  g_made : mg "_law_made" = some (.ref A.a_made)
  F_fewest : Fun K "_law_fewest" "_law_fewest" s_fewest A.a_fewest A.d_fewest
  b_fewest : Binds K A.d_fewest ["_law_sheet_here"] []
  g_fewest : mg "_law_fewest" = some (.ref A.a_fewest)
  F_line : Fun K "_law_line" "_law_line" s_line A.a_line A.d_line
  b_line : Binds K A.d_line ["_law_parts", "_law_places"] []
  g_line : mg "_law_line" = some (.ref A.a_line)
  F_days : Fun K "_law_days" "_law_days" s_days A.a_days A.d_days
  b_days : Binds K A.d_days ["_law_leg", "_law_ring"] []
  g_days : mg "_law_days" = some (.ref A.a_days)
  F_host : Fun K "_law_host" "_law_host" s_host A.a_host A.d_host
  b_host : Binds K A.d_host ["_law_host_here", "_law_day_now"] []
  g_host : mg "_law_host" = some (.ref A.a_host)
  F_contrary : Fun K "_law_contrary" "_law_contrary" s_contrary A.a_contrary A.d_contrary
  b_contrary : Binds K A.d_contrary ["_law_sign_here"] []
  g_contrary : mg "_law_contrary" = some (.ref A.a_contrary)
  F_sign : Fun K "_law_sign" "_law_sign" s_sign A.a_sign A.d_sign
  b_sign : Binds K A.d_sign ["_law_sheet_here", "_law_line_here", "_law_ring", "_law_who", "_law_day_now"] []
  g_sign : mg "_law_sign" = some (.ref A.a_sign)
  F_Word_least : Fun K "least" "Word.least" s_Word_least A.a_Word_least A.d_Word_least
  b_Word_least : Binds K A.d_Word_least ["self"] []
  p_Word_least : PropOf K A.c_Word "least" A.pa_Word_least A.a_Word_least
  F_Rule_least_size : Fun K "least_size" "Rule.least_size" s_Rule_least_size A.a_Rule_least_size A.d_Rule_least_size
  b_Rule_least_size : Binds K A.d_Rule_least_size ["self"] []
  p_Rule_least_size : PropOf K A.c_Rule "least_size" A.pa_Rule_least_size A.a_Rule_least_size
  F_is_size : Fun K "is_size" "is_size" s_is_size A.a_is_size A.d_is_size
  b_is_size : Binds K A.d_is_size ["rule", "value"] []
  g_is_size : mg "is_size" = some (.ref A.a_is_size)
  F_check_size : Fun K "check_size" "check_size" s_check_size A.a_check_size A.d_check_size
  b_check_size : Binds K A.d_check_size ["rule", "size"] []
  g_check_size : mg "check_size" = some (.ref A.a_check_size)
  F_is_list : Fun K "is_list" "is_list" s_is_list A.a_is_list A.d_is_list
  b_is_list : Binds K A.d_is_list ["value"] []
  g_is_list : mg "is_list" = some (.ref A.a_is_list)
  F_is_count : Fun K "is_count" "is_count" s_is_count A.a_is_count A.d_is_count
  b_is_count : Binds K A.d_is_count ["value"] []
  g_is_count : mg "is_count" = some (.ref A.a_is_count)
  F_is_leg : Fun K "_is_leg" "_is_leg" s_is_leg A.a_is_leg A.d_is_leg
  b_is_leg : Binds K A.d_is_leg ["value"] []
  g_is_leg : mg "_is_leg" = some (.ref A.a_is_leg)
  F_check_legs : Fun K "_check_legs" "_check_legs" s_check_legs A.a_check_legs A.d_check_legs
  b_check_legs : Binds K A.d_check_legs ["legs"] []
  g_check_legs : mg "_check_legs" = some (.ref A.a_check_legs)
  F_check_team : Fun K "check_team" "check_team" s_check_team A.a_check_team A.d_check_team
  b_check_team : Binds K A.d_check_team ["team", "teams"] []
  g_check_team : mg "check_team" = some (.ref A.a_check_team)
  F_check_pair : Fun K "check_pair" "check_pair" s_check_pair A.a_check_pair A.d_check_pair
  b_check_pair : Binds K A.d_check_pair ["one", "other", "teams"] []
  g_check_pair : mg "check_pair" = some (.ref A.a_check_pair)
  F_Rule_step : Fun K "step" "Rule.step" s_Rule_step A.a_Rule_step A.d_Rule_step
  b_Rule_step : Binds K A.d_Rule_step ["self"] []
  p_Rule_step : PropOf K A.c_Rule "step" A.pa_Rule_step A.a_Rule_step
  F_rounds_at : Fun K "_rounds_at" "_rounds_at" s_rounds_at A.a_rounds_at A.d_rounds_at
  b_rounds_at : Binds K A.d_rounds_at ["step", "places", "ring"] []
  g_rounds_at : mg "_rounds_at" = some (.ref A.a_rounds_at)
  F_rounds_of : Fun K "rounds_of" "rounds_of" s_rounds_of A.a_rounds_of A.d_rounds_of
  b_rounds_of : Binds K A.d_rounds_of ["rule", "size", "one", "other"] []
  g_rounds_of : mg "rounds_of" = some (.ref A.a_rounds_of)
  F_check_day : Fun K "check_day" "check_day" s_check_day A.a_check_day A.d_check_day
  b_check_day : Binds K A.d_check_day ["day", "rounds"] []
  g_check_day : mg "check_day" = some (.ref A.a_check_day)
  F_check : Fun K "_check" "_check" s_check A.a_check A.d_check
  b_check : Binds K A.d_check ["rule", "size", "team", "day"] []
  g_check : mg "_check" = some (.ref A.a_check)
  F_Rule_stander : Fun K "stander" "Rule.stander" s_Rule_stander A.a_Rule_stander A.d_Rule_stander
  b_Rule_stander : Binds K A.d_Rule_stander ["self"] []
  p_Rule_stander : PropOf K A.c_Rule "stander" A.pa_Rule_stander A.a_Rule_stander
  F_stander_mark : Fun K "stander_mark" "stander_mark" s_stander_mark A.a_stander_mark A.d_stander_mark
  b_stander_mark : Binds K A.d_stander_mark ["rule", "day"] []
  g_stander_mark : mg "stander_mark" = some (.ref A.a_stander_mark)
  F_seat : Fun K "_seat" "_seat" s_seat A.a_seat A.d_seat
  b_seat : Binds K A.d_seat ["rule", "size", "team", "day"] []
  g_seat : mg "_seat" = some (.ref A.a_seat)
  F_contrary_marks : Fun K "contrary_marks" "contrary_marks" s_contrary_marks A.a_contrary_marks A.d_contrary_marks
  b_contrary_marks : Binds K A.d_contrary_marks ["marks"] []
  g_contrary_marks : mg "contrary_marks" = some (.ref A.a_contrary_marks)
  F_Rule_word : Fun K "word" "Rule.word" s_Rule_word A.a_Rule_word A.d_Rule_word
  b_Rule_word : Binds K A.d_Rule_word ["self"] []
  p_Rule_word : PropOf K A.c_Rule "word" A.pa_Rule_word A.a_Rule_word
  F_check_places : Fun K "_check_places" "_check_places" s_check_places A.a_check_places A.d_check_places
  b_check_places : Binds K A.d_check_places ["word", "places"] []
  g_check_places : mg "_check_places" = some (.ref A.a_check_places)
  F_Word_mark : Fun K "mark" "Word.mark" s_Word_mark A.a_Word_mark A.d_Word_mark
  b_Word_mark : Binds K A.d_Word_mark ["self", "places", "place"] []
  m_Word_mark : Meth K A.c_Word "mark" A.a_Word_mark
  F_Rule_turned : Fun K "turned" "Rule.turned" s_Rule_turned A.a_Rule_turned A.d_Rule_turned
  b_Rule_turned : Binds K A.d_Rule_turned ["self"] []
  p_Rule_turned : PropOf K A.c_Rule "turned" A.pa_Rule_turned A.a_Rule_turned
  F_turned_if : Fun K "_turned_if" "_turned_if" s_turned_if A.a_turned_if A.d_turned_if
  b_turned_if : Binds K A.d_turned_if ["rule", "day", "marks"] []
  g_turned_if : mg "_turned_if" = some (.ref A.a_turned_if)
  F_mark_at : Fun K "_mark_at" "_mark_at" s_mark_at A.a_mark_at A.d_mark_at
  b_mark_at : Binds K A.d_mark_at ["rule", "size", "at", "day"] []
  g_mark_at : mg "_mark_at" = some (.ref A.a_mark_at)
  F_mark_of : Fun K "mark_of" "mark_of" s_mark_of A.a_mark_of A.d_mark_of
  b_mark_of : Binds K A.d_mark_of ["rule", "size", "team", "day"] []
  g_mark_of : mg "mark_of" = some (.ref A.a_mark_of)
  F_pair_homes : Fun K "pair_homes" "pair_homes" s_pair_homes A.a_pair_homes A.d_pair_homes
  b_pair_homes : Binds K A.d_pair_homes ["rule", "size", "legs", "one", "other"] []
  g_pair_homes : mg "pair_homes" = some (.ref A.a_pair_homes)
  F_small_right : Fun K "_law_small_right" "_law_small_right" s_small_right A.a_small_right A.d_small_right
  b_small_right : Binds K A.d_small_right ["_law_sheet_here", "_law_plan", "_law_ring", "_law_legs_now"] []
  g_small_right : mg "_law_small_right" = some (.ref A.a_small_right)
  F_days_of : Fun K "_law_days_of" "_law_days_of" s_days_of A.a_days_of A.d_days_of
  b_days_of : Binds K A.d_days_of ["_law_sheet_here", "_law_ring", "_law_who", "_law_mate"] []
  g_days_of : mg "_law_days_of" = some (.ref A.a_days_of)
  F_mark : Fun K "_law_mark" "_law_mark" s_mark A.a_mark A.d_mark
  b_mark : Binds K A.d_mark ["_law_parts", "_law_places", "_law_place"] []
  g_mark : mg "_law_mark" = some (.ref A.a_mark)
  F_far_sign : Fun K "_law_far_sign" "_law_far_sign" s_far_sign A.a_far_sign A.d_far_sign
  b_far_sign : Binds K A.d_far_sign ["_law_sheet_here", "_law_ring", "_law_who", "_law_day_now"] []
  g_far_sign : mg "_law_far_sign" = some (.ref A.a_far_sign)
  F_homes : Fun K "_law_homes" "_law_homes" s_homes A.a_homes A.d_homes
  b_homes : Binds K A.d_homes ["_law_sheet_here", "_law_ring", "_law_legs_now", "_law_days_here", "_law_who"] []
  g_homes : mg "_law_homes" = some (.ref A.a_homes)
  F_pair_right : Fun K "_law_pair_right" "_law_pair_right" s_pair_right A.a_pair_right A.d_pair_right
  b_pair_right : Binds K A.d_pair_right ["_law_sheet_here", "_law_plan", "_law_ring", "_law_legs_now", "_law_who", "_law_mate"] []
  g_pair_right : mg "_law_pair_right" = some (.ref A.a_pair_right)
  F_right : Fun K "_law_right" "_law_right" s_right A.a_right A.d_right
  b_right : Binds K A.d_right ["_law_pot_here"] []
  g_right : mg "_law_right" = some (.ref A.a_right)
  F_pot : Fun K "_law_pot" "_law_pot" s_pot A.a_pot A.d_pot
  b_pot : Binds K A.d_pot ["_law_script", "_law_k"] []
  g_pot : mg "_law_pot" = some (.ref A.a_pot)
  F_law : Fun K "law" "law" s_law A.a_law A.d_law
  b_law : Binds K A.d_law ["_law_script"] []
  g_law : mg "law" = some (.ref A.a_law)
  F_Word_init : Fun K "__init__" "Word.__init__" s_Word_init A.a_Word_init A.d_Word_init
  b_Word_init : Binds K A.d_Word_init ["self", "head", "middle", "tail"] []
  cl_Word : Cls K A.c_Word
  g_Word : mg "Word" = some (.ref A.c_Word)
  mk_Word : Mk K A.c_Word A.a_Word_init
  na_Word__head : NoAttr K A.c_Word "_head"
  na_Word__middle : NoAttr K A.c_Word "_middle"
  na_Word__tail : NoAttr K A.c_Word "_tail"
  cl_Rule : Cls K A.c_Rule
  g_Rule : mg "Rule" = some (.ref A.c_Rule)
  mk_Rule : Mk K A.c_Rule A.a_Rule_init
  na_Rule__step : NoAttr K A.c_Rule "_step"
  na_Rule__word : NoAttr K A.c_Rule "_word"
  na_Rule__stander : NoAttr K A.c_Rule "_stander"
  na_Rule__turned : NoAttr K A.c_Rule "_turned"
  g_CONTRARIES : mg "CONTRARIES" = some (.ref A.wd_CONTRARIES)
  kd_CONTRARIES : ∀ z c : Str, wd_CONTRARIES.lookup z = some c → KDct K w A.wd_CONTRARIES z (.str c)
  g_CONTRARY_STANDERS : mg "CONTRARY_STANDERS" = some (.ref A.wd_CONTRARY_STANDERS)
  kd_CONTRARY_STANDERS : ∀ z c : Str, wd_CONTRARY_STANDERS.lookup z = some c → KDct K w A.wd_CONTRARY_STANDERS z (.str c)
  g_STANDER_MARKS : mg "STANDER_MARKS" = some (.ref A.wd_STANDER_MARKS)
  kd_STANDER_MARKS : ∀ z c : Str, wd_STANDER_MARKS.lookup z = some c → KDct K w A.wd_STANDER_MARKS z (.str c)
  lo_CONTRARY_STANDERS : (A.wd_CONTRARY_STANDERS == sysModules) = false
  z_abs : mg "abs" = none
  z_all : mg "all" = none
  z_bool : mg "bool" = none
  z_divmod : mg "divmod" = none
  z_enumerate : mg "enumerate" = none
  z_int : mg "int" = none
  z_isinstance : mg "isinstance" = none
  z_len : mg "len" = none
  z_list : mg "list" = none
  z_max : mg "max" = none
  z_min : mg "min" = none
  z_range : mg "range" = none
  z_repr : mg "repr" = none
  z_sorted : mg "sorted" = none
  z_str : mg "str" = none
  z_sum : mg "sum" = none
  z_tuple : mg "tuple" = none
  c_MOST_BEGIN : ∃ u, mg "MOST_BEGIN" = some u ∧ RelV (.int 3) u
  c_MOST_LEGS : ∃ u, mg "MOST_LEGS" = some u ∧ RelV (.int 4) u
  c_MOST_MARKS : ∃ u, mg "MOST_MARKS" = some u ∧ RelV (.int 4) u
  c_MOST_STEP : ∃ u, mg "MOST_STEP" = some u ∧ RelV (.int 7) u
  k_pair_homes_other_one_legs_size_rule : KBn K A.d_pair_homes ["rule", "size", "legs", "one", "other"] 0 ["other", "one", "legs", "size", "rule"] (fun us ws => us ++ [ws.getD 4 .none, ws.getD 3 .none, ws.getD 2 .none, ws.getD 1 .none, ws.getD 0 .none]) (fun us ws => us ++ [ws.getD 4 .non, ws.getD 3 .non, ws.getD 2 .non, ws.getD 1 .non, ws.getD 0 .non])
abbrev ns_Word : List Str := ["_head", "_middle", "_tail"]
theorem nd_Word : ns_Word.Nodup := by decide +kernel
abbrev eWord (A : Ad) (x : (Str × Str × Str)) : D := .ins A.c_Word ns_Word [(D.v (V.str x.1)), (D.v (V.str x.2.1)), (D.v (V.str x.2.2))]
abbrev ns_Rule : List Str := ["_step", "_word", "_stander", "_turned"]
theorem nd_Rule : ns_Rule.Nodup := by decide +kernel
abbrev eRule (A : Ad) (x : (Int × (Str × Str × Str) × Str × Bool)) : D := .ins A.c_Rule ns_Rule [(D.v (V.int x.1)), (eWord A x.2.1), (D.v (V.str x.2.2.1)), (D.v (V.bl x.2.2.2))]
def M_is_marks (x_value : Str) (KM : Bool → Prop) : Prop :=
  (x_value.length ≤ sizeLine ∧ (KM (decide (V.int ((Txt.count x_value ("h" : Str) : Int) + (Txt.count x_value ("a" : Str) : Int)) = V.int (x_value.length : Int)))))
def sp_is_marks (A : Ad) : Sp := fun vs H Q _ => ∃ (ms : List Addr) (x_value : Str) (KM : Bool → Prop), vs = [V.str x_value] ∧ Wd ms [] [] H H ∧ M_is_marks x_value KM ∧ ∀ (r : Bool) (u : V) (H1 : Hp), KM r → Ret [] H H1 → rep ms H1 (D.v (V.bl r)) u → Q u H1
set_option maxHeartbeats 16000000 in
theorem ok_is_marks {P : Program} {w : World} {K : PySem.W.Frag} {mg : Str → Option Value} {base : Heap} {A : Ad} (T : Txt w K mg A) : FnOk P w K mg base CX0 1 A.a_is_marks A.d_is_marks ["value"] (sp_is_marks A) := by
  refine T.F_is_marks.ok sc_is_marks (fun vs H Q E h => ?_) (fun cdv A_ outer s_ H_0 vs Q E hr h => ?_)
  · obtain ⟨ms, x_value, KM, rfl, _⟩ := h
    rfl
  · obtain ⟨ms, x_value, KM, rfl, hW, hM, hQ⟩ := h
    unfold M_is_marks at hM
    refine ⟨_, (pss_one (ps_ret (pe_and (pe_callB (call_isiK (K := K) rfl) (by rfl) T.z_isinstance (by decide +kernel) (pa_cons (pv 0) (pa_cons (pe_bltn (v := .ty "str") (by rfl) T.z_str (by decide +kernel) rfl) pa_nil))) (pe_one (pe_cmpR op_eq (pe_op op_add (pe_m1 PySem.F.slot_str_count PySem.F.type_str_count mt_count (pv 0) pe_str) (pe_m1 PySem.F.slot_str_count PySem.F.type_str_count mt_count (pv 0) pe_str)) (pe_callB call_len_str (by rfl) T.z_len PySem.boot_len (pa_cons (pv 0) pa_nil)) (nomark _)))))), ?_⟩
    refine ⟨_, rfl, ?_⟩
    refine ⟨_, _, _, _, true, rfl, .ty _, .base (.str _), kit_ty (by decide +kernel), ?_⟩
    refine ⟨_, rfl, ?_⟩
    refine iteT ?_
    refine ⟨_, rfl, ?_⟩
    refine ⟨⟨_, rfl⟩, ?_⟩
    refine ⟨_, _, rfl, rfl, ?_⟩
    refine ⟨_, rfl, ?_⟩
    refine ⟨⟨_, rfl⟩, ?_⟩
    refine ⟨_, _, rfl, rfl, ?_⟩
    refine ⟨_, _, rfl, rfl, ?_⟩
    refine ⟨_, rfl, ?_⟩
    obtain ⟨g1, hM⟩ := hM
    refine ⟨_, rfl, g1, ?_⟩
    refine ⟨rfl, ?_⟩
    exact hQ (decide (V.int ((Txt.count x_value ("h" : Str) : Int) + (Txt.count x_value ("a" : Str) : Int)) = V.int (x_value.length : Int))) _ _ hM hW.out rep_v
def M_check_part (x_marks : Str) (KM : Unit → Prop) : Prop :=
  (M_is_marks x_marks fun r1 => (if (!r1) = true then False else (x_marks.length ≤ sizeLine ∧ (if (decide ((4 : Int) < (x_marks.length : Int))) = true then False else (KM ())))))
def sp_check_part (A : Ad) : Sp := fun vs H Q _ => ∃ (ms : List Addr) (x_marks : Str) (KM : Unit → Prop), vs = [V.str x_marks] ∧ Wd ms [] [] H H ∧ M_check_part x_marks KM ∧ ∀ (r : Unit) (u : V) (H1 : Hp), KM r → Ret [] H H1 → rep ms H1 (D.v V.non) u → Q u H1
set_option maxHeartbeats 16000000 in
theorem ok_check_part {P : Program} {w : World} {K : PySem.W.Frag} {mg : Str → Option Value} {base : Heap} {A : Ad} (T : Txt w K mg A) : FnOk P w K mg base CX0 2 A.a_check_part A.d_check_part ["marks"] (sp_check_part A) := by
  refine T.F_check_part.ok sc_check_part (fun vs H Q E h => ?_) (fun cdv A_ outer s_ H_0 vs Q E hr h => ?_)
  · obtain ⟨ms, x_marks, KM, rfl, _⟩ := h
    rfl
  · obtain ⟨ms, x_marks, KM, rfl, hW, hM, hQ⟩ := h
    unfold M_check_part at hM
    refine ⟨_, (pss_one (ps_if (PW.pt (pw_or (pt_not (pt_val (pe_call (ok_is_marks T) (hr.mono (by decide)) (by rfl) T.g_is_marks T.F_is_marks.kp T.b_is_marks .nil pass0 (pa_cons (pv 0) pa_nil)))) (pw_or1 (pt_cmpR op_gt (pe_callB call_len_str (by rfl) T.z_len PySem.boot_len (pa_cons (pv 0) pa_nil)) (C8.pe_gc (by rfl) T.c_MOST_MARKS) (nomark _))))) (pss_one ps_never) pss_nil)), ?_⟩
    refine ⟨_, rfl, ?_⟩
    refine ⟨ms, x_marks, _, rfl, hW.enter0, hM, fun r1 u4 H5 hM e3 h2 => ?_⟩
    replace hW := hW.ret0 e3
    obtain rfl := of_v h2
    refine ⟨_, rfl, ?_⟩
    refine ite3 hM (fun hM => ?_) (fun hM => ?_)
    · skip
      refine iteT ?_
      exact hM
    · skip
      refine ⟨_, rfl, ?_⟩
      obtain ⟨g6, hM⟩ := hM
      refine ⟨_, rfl, g6, ?_⟩
      refine ⟨_, _, rfl, rfl, ?_⟩
      refine ⟨_, rfl, ?_⟩
      refine ite3 hM (fun hM => ?_) (fun hM => ?_)
      · skip
        exact hM
      · skip
        exact hQ () _ _ hM hW.out rep_v
/-! ### a word is made -/
def M_Word_init (h m t : Str) : Prop := M_check_part h fun _ => M_check_part m fun _ => if decide (V.str m = V.str ("" : Str)) = true then False else M_check_part t fun _ => True
def sp_Word_init (A : Ad) : Sp := fun vs H Q _ => ∃ (p dx : Addr) (h m t : Str), vs = [.ref p, .str h, .str m, .str t] ∧ H p = some (.ins A.c_Word dx []) ∧ M_Word_init h m t ∧
  ∀ H1 : Hp, (∀ a o, a ≠ p → H a = some o → H1 a = some o) → H1 p = some (.ins A.c_Word dx (ns_Word.zip [.str h, .str m, .str t])) → (∀ a, H a ≠ none → H1 a ≠ none) → Q .non H1
theorem put3 {a b c : Str} {x y z : V} (h1 : ¬ a = b) (h2 : ¬ a = c) (h3 : ¬ b = c) : putF c z (putF b y (putF a x [])) = [(a, x), (b, y), (c, z)] := by
  simp [putF, h1, h2, h3]
theorem ok_Word_init {P : Program} {w : World} {K : PySem.W.Frag} {mg : Str → Option Value} {base : Heap} {A : Ad} (T : Txt w K mg A) : FnOk P w K mg base CX0 3 A.a_Word_init A.d_Word_init ["self", "head", "middle", "tail"] (sp_Word_init A) := by
  refine T.F_Word_init.ok sc_Word_init (fun vs H Q E h => ?_) (fun cdv A_ outer s_ H_0 vs Q E hr h => ?_)
  · obtain ⟨p, dx, hd, md, tl, rfl, _⟩ := h
    rfl
  · obtain ⟨p, dx, hd, md, tl, rfl, hp, hM, hQ⟩ := h
    have wd : ∀ H : Hp, Wd [] [] [] H H := fun H => ⟨fun _ _ _ h => h, fun _ h => h, fun _ h => absurd h List.not_mem_nil, fun _ h => absurd h List.not_mem_nil, fun _ h => absurd h List.not_mem_nil, fun _ h => absurd h List.not_mem_nil⟩
    refine ⟨_, pss_cons (ps_expr (pe_call (ok_check_part T) (hr.mono (by decide)) (by rfl) T.g_check_part T.F_check_part.kp T.b_check_part .nil pass0 (pa_cons (pv 1) pa_nil)))
      (pss_cons (ps_expr (pe_call (ok_check_part T) (hr.mono (by decide)) (by rfl) T.g_check_part T.F_check_part.kp T.b_check_part .nil pass0 (pa_cons (pv 2) pa_nil)))
      (pss_cons (ps_if (pt_cmpR op_eq (pv 2) pe_str (nomark _)) (pss_one ps_never) pss_nil)
      (pss_cons (ps_expr (pe_call (ok_check_part T) (hr.mono (by decide)) (by rfl) T.g_check_part T.F_check_part.kp T.b_check_part .nil pass0 (pa_cons (pv 3) pa_nil)))
      (pss_cons (ps_fld (pv 0) (pv 1) rfl) (pss_cons (ps_fld (pv 0) (pv 2) rfl) (pss_one (ps_fld (pv 0) (pv 3) rfl))))))), ?_⟩
    refine ⟨_, rfl, [], hd, _, rfl, wd _, hM, fun r1 u1 H1 hM e1 _ => ?_⟩
    refine ⟨_, rfl, [], md, _, rfl, wd _, hM, fun r2 u2 H2 hM e2 _ => ?_⟩
    refine ⟨_, rfl, rfl, _, rfl, ?_⟩
    refine ite3 hM (fun hM => hM) (fun hM => ?_)
    refine ⟨_, rfl, [], tl, _, rfl, wd _, hM, fun r3 u3 H3 hM e3 _ => ?_⟩
    have hp3 : H3 p = some (.ins A.c_Word dx []) := e3.keep (e2.keep (e1.keep hp))
    refine ⟨_, rfl, _, rfl, p, A.c_Word, dx, _, rfl, hp3, T.cl_Word, T.na_Word__head, (by decide), ?_⟩
    refine ⟨_, rfl, _, rfl, p, A.c_Word, dx, _, rfl, upd_same, T.cl_Word, T.na_Word__middle, (by show 1 < 1000; decide), ?_⟩
    refine ⟨_, rfl, _, rfl, p, A.c_Word, dx, _, rfl, upd_same, T.cl_Word, T.na_Word__tail, ?_, ?_⟩
    · show (putF "_middle" _ (putF "_head" _ [])).length < 1000
      exact Nat.lt_of_le_of_lt (length_putF _ _ _) (Nat.lt_of_le_of_lt (Nat.add_le_add_right (length_putF _ _ _) 1) (by decide))
    · refine hQ _ (fun a o n h => ?_) ?_ (fun a h => ?_)
      · rw [upd_ne n, upd_ne n, upd_ne n]
        exact e3.keep (e2.keep (e1.keep h))
      · rw [upd_same]
        exact congrArg (fun l => some (HO.ins A.c_Word dx l)) (put3 (by decide +kernel) (by decide +kernel) (by decide +kernel))
      · by_cases e : a = p
        · rw [e, upd_same]
          exact fun z => nomatch z
        · rw [upd_ne e, upd_ne e, upd_ne e]
          exact e3.grow a (e2.grow a (e1.grow a h))
theorem make_Word {ms ps : List Addr} {cs : List (Addr × List V)} {H0 H : Hp} {A : Ad} {h m t : Str} {R : Prop} {Q : Addr → Hp → Prop} {E : XK} (hW : Wd ms ps cs H0 H) (hM : M_Word_init h m t ∧ R)
    (k : ∀ (x : Addr) (H1 : Hp), R → Rx.Ext H H1 → rep ms H1 (eWord A (h, m, t)) (.ref x) → Q x H1) :
    ∀ x dx, H x = none → H dx = none → dx ≠ x → sp_Word_init A (.ref x :: ([.str h, .str m, .str t] ++ [])) (upd (upd H dx (.own x)) x (.ins A.c_Word dx [])) (fun v H2 => v = .non ∧ Q x H2) E := by
  intro x dx nx ndx ne
  refine ⟨x, dx, h, m, t, rfl, upd_same, hM.1, fun H1 h1 h2 h3 => ⟨rfl, k x H1 hM.2 ⟨fun a o _ ha => ?_, fun _ z => absurd z List.not_mem_nil, fun a ha => ?_⟩ ?_⟩⟩
  · have n1 : a ≠ x := ne_of_none ha nx
    exact h1 a o n1 (by rw [upd_ne n1, upd_ne (ne_of_none ha ndx)]; exact ha)
  · refine h3 a ?_
    by_cases e : a = x
    · rw [e, upd_same]
      exact fun z => nomatch z
    · rw [upd_ne e]
      by_cases e2 : a = dx
      · rw [e2, upd_same]
        exact fun z => nomatch z
      · rw [upd_ne e2]
        exact ha
  · simp only [rep]
    exact ⟨x, dx, _, rfl, fun z => hW.tr x z nx, h2, rfl, repL_cons rep_v (repL_cons rep_v (repL_cons rep_v repL_nil))⟩

/-! ### draws: any number below the size -/
def M_draw (x_size : Int) (KM : Int → Prop) : Prop := (0 < x_size ∧ Nat.log2 x_size.natAbs < 9000) ∧ ∀ d : Int, 0 ≤ d → d < x_size → KM d
def sp_draw (A : Ad) : Sp := fun vs H Q _ => ∃ (ms : List Addr) (ap : Addr) (x_size : Int) (KM : Int → Prop), vs = [.ref ap, V.int x_size] ∧ Wd ms [ap] [] H H ∧ M_draw x_size KM ∧ ∀ (r : Int) (u : V) (H1 : Hp), KM r → Ret [ap] H H1 → rep ms H1 (D.v (V.int r)) u → Q u H1
theorem ret_pot1 {H : Hp} {ap : Addr} {o : HO} {i j : Int} (ha : H ap = some o) (hj : j.natAbs < 4294967296) : Ret [ap] H (upd H ap (.lst [.int i, .int j])) := by
  refine ⟨fun a u n h => ?_, fun a h => ?_, fun a h => ?_⟩
  · rw [upd_ne (fun z => n (by rw [z]; exact List.mem_singleton.mpr rfl))]
    exact h
  · rw [List.mem_singleton.mp h]
    exact ⟨i, j, upd_same, hj⟩
  · by_cases e : a = ap
    · rw [e, upd_same]
      exact fun z => nomatch z
    · rw [upd_ne e]
      exact h
theorem ret_pot2 {H : Hp} {ap p : Addr} {o u : HO} {i j : Int} (ha : H ap = some o) (np : H p = none) (hj : j.natAbs < 4294967296) : Ret [ap] H (upd (upd H p u) ap (.lst [.int i, .int j])) := by
  have e := Rx.Ext.new (o := u) np
  have h2 := ret_pot1 (i := i) (j := j) (e.keep ha) hj
  exact ⟨fun a w n h => h2.kp a w n (e.keep h), h2.pot, fun a h => h2.grow a (e.grow a h)⟩
theorem ok_draw {P : Program} {w : World} {K : PySem.W.Frag} {mg : Str → Option Value} {base : Heap} {A : Ad} (T : Txt w K mg A) : FnOk P w K mg base CX0 1 A.a_draw A.d_draw ["_law_pot_here", "_law_many"] (sp_draw A) := by
  refine T.F_draw.ok sc_draw (fun vs H Q E h => ?_) (fun cdv A_ outer s_ H_0 vs Q E hr h => ?_)
  · obtain ⟨ms, ap, x_size, KM, rfl, _⟩ := h
    rfl
  · obtain ⟨ms, ap, n, KM, rfl, hW, ⟨⟨n0, n1⟩, hM⟩, hQ⟩ := h
    obtain ⟨i, j, hp, hj⟩ := hW.pot ap (List.mem_singleton.mpr rfl)
    refine ⟨_, pss_cons (ps_if (pt_cmpR op_gt (pe_ix ix_list (pv 0) pe_int (fun _ _ => rfl)) pe_int (nomark _))
        (pss_cons (ps_asg (pe_callB call_divmodW (by rfl) T.z_divmod (by decide +kernel) (pa_cons (pe_ix ix_list (pv 0) pe_int (fun _ _ => rfl)) (pa_cons (pv 1) pa_nil)))
            (pg_tup rfl (pgs_cons (pg_sub (pv 0) pe_int set_list) (pgs_cons (pg_name (i := 2) sc_draw.nd rfl (.inl rfl)) pgs_nil)))) (pss_one (ps_ret (pv 2)))) pss_nil)
      (pss_cons (ps_asg (pe_op op_mod (pe_callTy call_int1 (by rfl) T.z_int (by decide +kernel) (pa_cons (pe_op op_add (pe_op op_mul (pe_ix ix_list (pv 0) pe_int (fun _ _ => rfl)) pe_int) pe_int) pa_nil)) pe_int) (pg_sub (pv 0) pe_int set_list))
      (pss_one (ps_ret (pe_op op_mod (pe_callTy call_int1 (by rfl) T.z_int (by decide +kernel) (pa_cons (pe_op op_fdiv (pe_op op_mod (pe_callTy call_int1 (by rfl) T.z_int (by decide +kernel)
          (pa_cons (pe_op op_mul (pe_ix ix_list (pv 0) pe_int (fun _ _ => rfl)) (pe_ix ix_list (pv 0) pe_int (fun _ _ => rfl))) pa_nil)) pe_int) pe_int) pa_nil)) (pv 1))))), ?_⟩
    refine ⟨_, rfl, ap, _, 0, .int i, rfl, rfl, .inl (.inl hp), rfl, _, _, rfl, rfl, _, rfl, ?_⟩
    refine ite2 (fun c => ?_) (fun c => ?_)
    · refine ⟨_, rfl, ap, _, 0, .int i, rfl, rfl, .inl (.inl hp), rfl, _, rfl, _, _, rfl, ⟨n0, PyProof.noPylong_of_log2 n1⟩, fun p np => ?_⟩
      have npa : ap ≠ p := ne_of_none hp np
      refine ⟨p, _, rfl, .inl (.inl upd_same), rfl, _, _, rfl, _, rfl, ap, _, 0, 0, rfl, rfl, (by rw [upd_ne npa]; exact hp), rfl, _, _, rfl, rfl, _, rfl, ?_⟩
      exact hQ (i % n) _ _ (hM _ (Int.emod_nonneg _ (by omega)) (Int.emod_lt_of_pos _ n0)) (ret_pot2 hp np hj) rep_v
    · refine ⟨_, rfl, ap, _, 1, .int j, rfl, rfl, .inl (.inl hp), rfl, _, _, rfl, rfl, .inr ⟨by decide, by decide⟩, _, _, rfl, rfl, .inl ⟨_, rfl, _, _, rfl, rfl, (by show (0 : Int) < 2147483587; decide), ?_⟩⟩
      refine ⟨_, rfl, ap, _, 1, 1, rfl, rfl, hp, rfl, ?_⟩
      refine ⟨_, rfl, ap, _, 1, _, rfl, rfl, .inl (.inl upd_same), rfl, _, rfl, ap, _, 1, _, rfl, rfl, .inl (.inl upd_same), rfl, _, _, rfl, rfl, .inl ⟨?_, ?_⟩, .inl ⟨_, rfl, _, _, rfl, rfl, (by show (0 : Int) < 2147483549; decide), _, _, rfl, rfl, ⟨by decide, by decide⟩, .inl ⟨_, rfl, _, rfl, _, _, rfl, rfl, n0, ?_⟩⟩⟩
      · omega
      · omega
      · refine hQ _ _ _ (hM _ (Int.emod_nonneg _ (by omega)) (Int.emod_lt_of_pos _ n0)) (ret_pot1 (i := i) hp ?_) rep_v
        omega

def M_pick (x_some : (List Int)) (KM : Int → Prop) : Prop :=
  (M_draw (x_some.length : Int) fun r1 => (0 ≤ r1 ∧ ∃ g7 : Int.toNat r1 < x_some.length, ∀ x9, x9 = x_some[Int.toNat r1]'g7 → (KM x9)))
def sp_pick (A : Ad) : Sp := fun vs H Q _ => ∃ (ms : List Addr) (ap : Addr) (v_some : V) (x_some : (List Int)) (KM : Int → Prop), vs = [.ref ap, v_some] ∧ Wd ms [ap] [] H H ∧ rep ms H (D.lst (x_some.map (fun y_ : Int => (D.v (V.int y_))))) v_some ∧ M_pick x_some KM ∧ ∀ (r : Int) (u : V) (H1 : Hp), KM r → Ret [ap] H H1 → rep ms H1 (D.v (V.int r)) u → Q u H1
set_option maxHeartbeats 16000000 in
theorem ok_pick {P : Program} {w : World} {K : PySem.W.Frag} {mg : Str → Option Value} {base : Heap} {A : Ad} (T : Txt w K mg A) : FnOk P w K mg base CX0 2 A.a_pick A.d_pick ["_law_pot_here", "_law_some"] (sp_pick A) := by
  refine T.F_pick.ok sc_pick (fun vs H Q E h => ?_) (fun cdv A_ outer s_ H_0 vs Q E hr h => ?_)
  · obtain ⟨ms, ap, v_some, x_some, KM, rfl, _⟩ := h
    rfl
  · obtain ⟨ms, ap, v_some, x_some, KM, rfl, hW, h_some, hM, hQ⟩ := h
    unfold M_pick at hM
    refine ⟨_, (pss_one (ps_ret (pe_ix (ix_listK (K := K) rfl) (pv 1) (pe_call (ok_draw T) (hr.mono (by decide)) (by rfl) T.g_draw T.F_draw.kp T.b_draw .nil pass0 (pa_cons (pv 0) (pa_cons (pe_callB (call_lenK (K := K) rfl) (by rfl) T.z_len PySem.boot_len (pa_cons (pv 1) pa_nil)) pa_nil))) (fun _ _ => rfl)))), ?_⟩
    refine ⟨_, rfl, ?_⟩
    refine ⟨_, rfl, ?_⟩
    refine ⟨_, rfl, ?_⟩
    apply rep_lenL (e := (fun y_ : Int => (D.v (V.int y_)))) (xs := x_some) h_some
    refine ⟨ms, ap, (x_some.length : Int), _, rfl, hW.enterP, hM, fun r1 u4 H5 hM e3 h2 => ?_⟩
    replace h_some := rep_ret hW e3 h_some
    replace hW := hW.retP e3
    obtain rfl := of_v h2
    obtain ⟨g6, g7, hM⟩ := hM
    apply rep_ixL (e := (fun y_ : Int => (D.v (V.int y_)))) (xs := x_some) h_some g6 g7
    intro u10 h8
    obtain ⟨x9, x9e⟩ : ∃ x_, x_ = x_some[Int.toNat r1]'g7 := ⟨_, rfl⟩
    rw [← x9e] at h8
    replace hM := hM x9 x9e
    obtain rfl := of_v h8
    exact hQ x9 _ _ hM hW.out rep_v
def M_pick_ps (x_some : Str) (KM : Str → Prop) : Prop :=
  (x_some.length ≤ sizeLine ∧ (M_draw (x_some.length : Int) fun r2 => (x_some.length ≤ sizeLine ∧ ∃ c8, atI x_some.cps.toList r2 = some c8 ∧ (KM (Str.mk #[c8])))))
def sp_pick_ps (A : Ad) : Sp := fun vs H Q _ => ∃ (ms : List Addr) (ap : Addr) (x_some : Str) (KM : Str → Prop), vs = [.ref ap, V.str x_some] ∧ Wd ms [ap] [] H H ∧ M_pick_ps x_some KM ∧ ∀ (r : Str) (u : V) (H1 : Hp), KM r → Ret [ap] H H1 → rep ms H1 (D.v (V.str r)) u → Q u H1
set_option maxHeartbeats 16000000 in
theorem ok_pick_ps {P : Program} {w : World} {K : PySem.W.Frag} {mg : Str → Option Value} {base : Heap} {A : Ad} (T : Txt w K mg A) : FnOk P w K mg base CX0 2 A.a_pick A.d_pick ["_law_pot_here", "_law_some"] (sp_pick_ps A) := by
  refine T.F_pick.ok sc_pick (fun vs H Q E h => ?_) (fun cdv A_ outer s_ H_0 vs Q E hr h => ?_)
  · obtain ⟨ms, ap, x_some, KM, rfl, _⟩ := h
    rfl
  · obtain ⟨ms, ap, x_some, KM, rfl, hW, hM, hQ⟩ := h
    unfold M_pick_ps at hM
    refine ⟨_, (pss_one (ps_ret (pe_ix ix_str (pv 1) (pe_call (ok_draw T) (hr.mono (by decide)) (by rfl) T.g_draw T.F_draw.kp T.b_draw .nil pass0 (pa_cons (pv 0) (pa_cons (pe_callB call_len_str (by rfl) T.z_len PySem.boot_len (pa_cons (pv 1) pa_nil)) pa_nil))) (fun _ _ => rfl)))), ?_⟩
    refine ⟨_, rfl, ?_⟩
    refine ⟨_, rfl, ?_⟩
    refine ⟨_, rfl, ?_⟩
    obtain ⟨g1, hM⟩ := hM
    refine ⟨_, rfl, g1, ?_⟩
    refine ⟨ms, ap, (x_some.length : Int), _, rfl, hW.enterP, hM, fun r2 u5 H6 hM e4 h3 => ?_⟩
    replace hW := hW.retP e4
    obtain rfl := of_v h3
    obtain ⟨g7, hM⟩ := hM
    obtain ⟨c8, c8h, hM⟩ := hM
    refine ⟨_, _, _, rfl, rfl, g7, c8h, ?_⟩
    exact hQ (Str.mk #[c8]) _ _ hM hW.out rep_v
def M_marks (x_sizes : (List Int)) (KM : Str → Prop) : Prop :=
  (M_pick x_sizes fun r1 => ((rangeI (0 : Int) r1).length < 100000 ∧ mapC (fun (x17 : Int) (k10 : Str → Prop) => (M_pick_ps ("ha" : Str) fun r23 => (k10 r23))) (rangeI (0 : Int) r1) [] fun ys33 => ((ys33.map (·.length)).sum + ys33.length * ("" : Str).length ≤ 16777216 ∧ (KM (Txt.join ("" : Str) ys33)))))
def sp_marks (A : Ad) : Sp := fun vs H Q _ => ∃ (ms : List Addr) (ap : Addr) (v_sizes : V) (x_sizes : (List Int)) (KM : Str → Prop), vs = [.ref ap, v_sizes] ∧ Wd ms [ap] [] H H ∧ rep ms H (D.lst (x_sizes.map (fun y_ : Int => (D.v (V.int y_))))) v_sizes ∧ M_marks x_sizes KM ∧ ∀ (r : Str) (u : V) (H1 : Hp), KM r → Ret [ap] H H1 → rep ms H1 (D.v (V.str r)) u → Q u H1
set_option maxHeartbeats 16000000 in
theorem ok_marks {P : Program} {w : World} {K : PySem.W.Frag} {mg : Str → Option Value} {base : Heap} {A : Ad} (T : Txt w K mg A) : FnOk P w K mg base CX0 3 A.a_marks A.d_marks ["_law_pot_here", "_law_sizes"] (sp_marks A) := by
  refine T.F_marks.ok sc_marks (fun vs H Q E h => ?_) (fun cdv A_ outer s_ H_0 vs Q E hr h => ?_)
  · obtain ⟨ms, ap, v_sizes, x_sizes, KM, rfl, _⟩ := h
    rfl
  · obtain ⟨ms, ap, v_sizes, x_sizes, KM, rfl, hW, h_sizes, hM, hQ⟩ := h
    unfold M_marks at hM
    refine ⟨_, (pss_one (ps_ret (pe_join pe_str (pe_lc (own := [("_law_turn", 2)]) (g := gName 2) rfl sc_marks.nd (pi_rangeW1 (by rfl) T.z_range (pa_cons (pe_call (ok_pick T) (hr.mono (by decide)) (by rfl) T.g_pick T.F_pick.kp T.b_pick .nil pass0 (pa_cons (pv 0) (pa_cons (pv 1) pa_nil))) pa_nil)) (blkOk_by (N := ["_law_pot_here", "_law_sizes", "_law_turn"]) (sc := defScope s_marks) (by decide +kernel)) (fun _ _ _ _ _ => pg_name (i := 2) sc_marks.nd rfl (by first | exact Or.inl rfl | exact Or.inr rfl)) (fun _ _ _ _ _ => pts_nil) (fun _ _ _ _ _ => (pe_call (ok_pick_ps T) (hr.mono (by decide)) (by rfl) T.g_pick T.F_pick.kp T.b_pick .nil pass0 (pa_cons (pv 0) (pa_cons pe_str pa_nil)))))))), ?_⟩
    refine ⟨⟨_, rfl⟩, ?_⟩
    refine ⟨_, rfl, ?_⟩
    refine ⟨_, rfl, ?_⟩
    refine ⟨ms, ap, _, x_sizes, _, rfl, hW.enterP, h_sizes, hM, fun r1 u4 H5 hM e3 h2 => ?_⟩
    replace h_sizes := rep_ret hW e3 h_sizes
    replace hW := hW.retP e3
    obtain rfl := of_v h2
    refine ⟨_, rfl, ?_⟩
    refine fun L6 nl7 => ?_
    have nm21 := nm_new hW nl7
    refine lc_rangeG (L := L6) (fun n_ ys_ h_ => Wd (L6 :: ms) [ap] [] H_0 h_ ∧ Keep (L6 :: ms) H5 h_ ∧ MutO (L6 :: ms) [ap] H_0 h_ L6 (D.lst (ys_.map (fun y_ : Str => (D.v (V.str y_))))) ∧ ys_.length ≤ n_) (lo := (0 : Int)) (hi := r1) (N := Int.toNat r1) (by simp) hM ⟨wd_cell hW nl7, keep_cell nl7 Keep.refl, mo_newL (ds := []) hW nl7 repL_nil, Nat.le_refl _⟩ ?_ ?_
    · skip
      rintro x17  n8 ys9 k10 H22 hn ⟨hW, hk11, mu12, ln13⟩ hM Nx16 hN14
      replace h_sizes := rep_keep hk11 (rep_new nl7 h_sizes)
      refine ⟨rfl, ?_⟩
      refine tyes_of ?_
      refine ⟨_, rfl, ?_⟩
      refine ⟨(L6 :: ms), ap, ("ha" : Str), _, rfl, hW.enterP, hM, fun r23 u26 H27 hM e25 h24 => ?_⟩
      replace h_sizes := rep_ret hW e25 h_sizes
      replace hk11 := keep_ret hW e25 hk11
      replace mu12 := mo_ret hW e25 mu12
      replace hW := hW.retP e25
      obtain rfl := of_v h24
      refine mo_end mu12 hn (by rw [List.length_map]; exact ln13) fun vs28 hr29 => ?_
      have mk31 := mo_setL mu12 (repL_snoc (e := (fun y_ : Str => (D.v (V.str y_)))) (xs := ys9) (y := r23) hr29 rep_v)
      replace h_sizes := rep_put (o := .lst (vs28 ++ [V.str r23])) mu12.im h_sizes
      replace hk11 := keep_put (o := .lst (vs28 ++ [V.str r23])) mu12.im hk11
      replace hW := wd_put (o := .lst (vs28 ++ [V.str r23])) hW mu12
      replace mu12 := mk31
      generalize upd H27 L6 (.lst (vs28 ++ [V.str r23])) = H32 at *
      replace mu12 : MutO (L6 :: ms) [ap] H_0 H32 L6 (D.lst ((ys9 ++ [r23]).map (fun y_ : Str => (D.v (V.str y_))))) := mu12
      clear mk31
      exact hN14 r23 _ hM ⟨hW, hk11, mu12, by rw [List.length_append]; exact Nat.add_le_add_right ln13 1⟩
    · skip
      rintro n8 ys33 H34 hM ⟨hW, hk11, mu12, ln13⟩
      replace h_sizes := rep_keep hk11 (rep_new nl7 h_sizes)
      clear hk11 ln13
      have h35 := mo_rep_dr dr_here nm21 mu12
      replace hW := wd_dr dr_here mu12.hp hW
      replace h_sizes := rep_dr dr_here h_sizes
      clear mu12
      obtain ⟨g36, hM⟩ := hM
      apply rep_join (a := ("" : Str)) (ys := ys33) h35 g36
      exact hQ (Txt.join ("" : Str) ys33) _ _ hM hW.out rep_v
def M_pick_pls (x_some : (List Str)) (KM : Str → Prop) : Prop :=
  (M_draw (x_some.length : Int) fun r1 => (0 ≤ r1 ∧ ∃ g7 : Int.toNat r1 < x_some.length, ∀ x9, x9 = x_some[Int.toNat r1]'g7 → (KM x9)))
def sp_pick_pls (A : Ad) : Sp := fun vs H Q _ => ∃ (ms : List Addr) (ap : Addr) (v_some : V) (x_some : (List Str)) (KM : Str → Prop), vs = [.ref ap, v_some] ∧ Wd ms [ap] [] H H ∧ rep ms H (D.lst (x_some.map (fun y_ : Str => (D.v (V.str y_))))) v_some ∧ M_pick_pls x_some KM ∧ ∀ (r : Str) (u : V) (H1 : Hp), KM r → Ret [ap] H H1 → rep ms H1 (D.v (V.str r)) u → Q u H1
set_option maxHeartbeats 16000000 in
theorem ok_pick_pls {P : Program} {w : World} {K : PySem.W.Frag} {mg : Str → Option Value} {base : Heap} {A : Ad} (T : Txt w K mg A) : FnOk P w K mg base CX0 2 A.a_pick A.d_pick ["_law_pot_here", "_law_some"] (sp_pick_pls A) := by
  refine T.F_pick.ok sc_pick (fun vs H Q E h => ?_) (fun cdv A_ outer s_ H_0 vs Q E hr h => ?_)
  · obtain ⟨ms, ap, v_some, x_some, KM, rfl, _⟩ := h
    rfl
  · obtain ⟨ms, ap, v_some, x_some, KM, rfl, hW, h_some, hM, hQ⟩ := h
    unfold M_pick_pls at hM
    refine ⟨_, (pss_one (ps_ret (pe_ix (ix_listK (K := K) rfl) (pv 1) (pe_call (ok_draw T) (hr.mono (by decide)) (by rfl) T.g_draw T.F_draw.kp T.b_draw .nil pass0 (pa_cons (pv 0) (pa_cons (pe_callB (call_lenK (K := K) rfl) (by rfl) T.z_len PySem.boot_len (pa_cons (pv 1) pa_nil)) pa_nil))) (fun _ _ => rfl)))), ?_⟩
    refine ⟨_, rfl, ?_⟩
    refine ⟨_, rfl, ?_⟩
    refine ⟨_, rfl, ?_⟩
    apply rep_lenL (e := (fun y_ : Str => (D.v (V.str y_)))) (xs := x_some) h_some
    refine ⟨ms, ap, (x_some.length : Int), _, rfl, hW.enterP, hM, fun r1 u4 H5 hM e3 h2 => ?_⟩
    replace h_some := rep_ret hW e3 h_some
    replace hW := hW.retP e3
    obtain rfl := of_v h2
    obtain ⟨g6, g7, hM⟩ := hM
    apply rep_ixL (e := (fun y_ : Str => (D.v (V.str y_)))) (xs := x_some) h_some g6 g7
    intro u10 h8
    obtain ⟨x9, x9e⟩ : ∃ x_, x_ = x_some[Int.toNat r1]'g7 := ⟨_, rfl⟩
    rw [← x9e] at h8
    replace hM := hM x9 x9e
    obtain rfl := of_v h8
    exact hQ x9 _ _ hM hW.out rep_v
def M_sheet (KM : (Int × (Str × Str × Str) × Str × Bool) → Prop) : Prop :=
  (M_pick ([(1 : Int), (1 : Int), (2 : Int), (3 : Int), (4 : Int), (5 : Int), (6 : Int), (7 : Int)] : List Int) fun r7 => (M_pick ([(1 : Int), (-(1 : Int))] : List Int) fun r18 => (CMulW r7 r18 ∧ (M_marks ([(0 : Int), (0 : Int), (1 : Int), (2 : Int), (4 : Int)] : List Int) fun r30 => (M_marks ([(1 : Int), (2 : Int), (2 : Int), (3 : Int), (4 : Int)] : List Int) fun r41 => (M_marks ([(0 : Int), (0 : Int), (1 : Int), (3 : Int), (4 : Int)] : List Int) fun r52 => (M_pick_pls ([("home" : Str), ("away" : Str), ("even" : Str), ("even" : Str), ("odd" : Str)] : List Str) fun r69 => (M_draw (3 : Int) fun r74 => (KM ((r7 * r18), (r30, r41, r52), r69, (decide (V.int r74 = V.int (0 : Int)))))))))))))
def sp_sheet (A : Ad) : Sp := fun vs H Q _ => ∃ (ms : List Addr) (ap : Addr) (KM : (Int × (Str × Str × Str) × Str × Bool) → Prop), vs = [.ref ap] ∧ Wd ms [ap] [] H H ∧ M_sheet  KM ∧ ∀ (r : (Int × (Str × Str × Str) × Str × Bool)) (u : V) (H1 : Hp), KM r → Ret [ap] H H1 → rep ms H1 (D.tup [(D.v (V.int r.1)), (D.tup [(D.v (V.str r.2.1.1)), (D.v (V.str r.2.1.2.1)), (D.v (V.str r.2.1.2.2))]), (D.v (V.str r.2.2.1)), (D.v (V.bl r.2.2.2))]) u → Q u H1
set_option maxHeartbeats 16000000 in
theorem ok_sheet {P : Program} {w : World} {K : PySem.W.Frag} {mg : Str → Option Value} {base : Heap} {A : Ad} (T : Txt w K mg A) : FnOk P w K mg base CX0 4 A.a_sheet A.d_sheet ["_law_pot_here"] (sp_sheet A) := by
  refine T.F_sheet.ok sc_sheet (fun vs H Q E h => ?_) (fun cdv A_ outer s_ H_0 vs Q E hr h => ?_)
  · obtain ⟨ms, ap, KM, rfl, _⟩ := h
    rfl
  · obtain ⟨ms, ap, KM, rfl, hW, hM, hQ⟩ := h
    unfold M_sheet at hM
    refine ⟨_, (pss_cons (ps_set (i := 1) sc_sheet.nd rfl (by first | exact Or.inl rfl | exact Or.inr rfl) (pe_op op_mulW (pe_call (ok_pick T) (hr.mono (by decide)) (by rfl) T.g_pick T.F_pick.kp T.b_pick .nil pass0 (pa_cons (pv 0) (pa_cons (pe_lst (pa_cons pe_int (pa_cons pe_int (pa_cons pe_int (pa_cons pe_int (pa_cons pe_int (pa_cons pe_int (pa_cons pe_int (pa_cons pe_int pa_nil))))))))) pa_nil))) (pe_call (ok_pick T) (hr.mono (by decide)) (by rfl) T.g_pick T.F_pick.kp T.b_pick .nil pass0 (pa_cons (pv 0) (pa_cons (pe_lst (pa_cons pe_int (pa_cons (pe_un un_neg pe_int) pa_nil))) pa_nil))))) (pss_cons (ps_set (i := 2) sc_sheet.nd rfl (by first | exact Or.inl rfl | exact Or.inr rfl) (pe_tup (pa_cons (pe_call (ok_marks T) (hr.mono (by decide)) (by rfl) T.g_marks T.F_marks.kp T.b_marks .nil pass0 (pa_cons (pv 0) (pa_cons (pe_lst (pa_cons pe_int (pa_cons pe_int (pa_cons pe_int (pa_cons pe_int (pa_cons pe_int pa_nil)))))) pa_nil))) (pa_cons (pe_call (ok_marks T) (hr.mono (by decide)) (by rfl) T.g_marks T.F_marks.kp T.b_marks .nil pass0 (pa_cons (pv 0) (pa_cons (pe_lst (pa_cons pe_int (pa_cons pe_int (pa_cons pe_int (pa_cons pe_int (pa_cons pe_int pa_nil)))))) pa_nil))) (pa_cons (pe_call (ok_marks T) (hr.mono (by decide)) (by rfl) T.g_marks T.F_marks.kp T.b_marks .nil pass0 (pa_cons (pv 0) (pa_cons (pe_lst (pa_cons pe_int (pa_cons pe_int (pa_cons pe_int (pa_cons pe_int (pa_cons pe_int pa_nil)))))) pa_nil))) pa_nil))))) (pss_one (ps_ret (pe_tup (pa_cons (pv 1) (pa_cons (pv 2) (pa_cons (pe_call (ok_pick_pls T) (hr.mono (by decide)) (by rfl) T.g_pick T.F_pick.kp T.b_pick .nil pass0 (pa_cons (pv 0) (pa_cons (pe_lst (pa_cons pe_str (pa_cons pe_str (pa_cons pe_str (pa_cons pe_str (pa_cons pe_str pa_nil)))))) pa_nil))) (pa_cons (pe_cmpR op_eq (pe_call (ok_draw T) (hr.mono (by decide)) (by rfl) T.g_draw T.F_draw.kp T.b_draw .nil pass0 (pa_cons (pv 0) (pa_cons pe_int pa_nil))) pe_int (nomark _)) pa_nil))))))))), ?_⟩
    refine ⟨_, rfl, ?_⟩
    refine ⟨(by show 8 ≤ sizeLine; decide), ?_⟩
    intro p1 n5
    have e2 := Rx.Ext.new (H := H_0) (o := (HO.lst [V.int (1 : Int), V.int (1 : Int), V.int (2 : Int), V.int (3 : Int), V.int (4 : Int), V.int (5 : Int), V.int (6 : Int), V.int (7 : Int)])) n5
    have hp3 : upd H_0 p1 (HO.lst [V.int (1 : Int), V.int (1 : Int), V.int (2 : Int), V.int (3 : Int), V.int (4 : Int), V.int (5 : Int), V.int (6 : Int), V.int (7 : Int)]) p1 = some (HO.lst [V.int (1 : Int), V.int (1 : Int), V.int (2 : Int), V.int (3 : Int), V.int (4 : Int), V.int (5 : Int), V.int (6 : Int), V.int (7 : Int)]) := upd_same
    generalize upd H_0 p1 (HO.lst [V.int (1 : Int), V.int (1 : Int), V.int (2 : Int), V.int (3 : Int), V.int (4 : Int), V.int (5 : Int), V.int (6 : Int), V.int (7 : Int)]) = H6 at e2 hp3 ⊢
    have h4 : rep ms H6 (D.lst (([(1 : Int), (1 : Int), (2 : Int), (3 : Int), (4 : Int), (5 : Int), (6 : Int), (7 : Int)] : List Int).map (fun y_ : Int => (D.v (V.int y_))))) (.ref p1) := rep_lst_mk hW n5 e2 hp3 (repL_cons rep_v (repL_cons rep_v (repL_cons rep_v (repL_cons rep_v (repL_cons rep_v (repL_cons rep_v (repL_cons rep_v (repL_cons rep_v repL_nil))))))))
    replace hW := hW.ret0 e2
    refine ⟨ms, ap, _, ([(1 : Int), (1 : Int), (2 : Int), (3 : Int), (4 : Int), (5 : Int), (6 : Int), (7 : Int)] : List Int), _, rfl, hW.enterP, h4, hM, fun r7 u10 H11 hM e9 h8 => ?_⟩
    replace h4 := rep_ret hW e9 h4
    replace hW := hW.retP e9
    obtain rfl := of_v h8
    refine ⟨_, rfl, ?_⟩
    refine ⟨_, rfl, ?_⟩
    refine ⟨(by show 2 ≤ sizeLine; decide), ?_⟩
    intro p12 n16
    have e13 := Rx.Ext.new (H := H11) (o := (HO.lst [V.int (1 : Int), V.int (-(1 : Int))])) n16
    have hp14 : upd H11 p12 (HO.lst [V.int (1 : Int), V.int (-(1 : Int))]) p12 = some (HO.lst [V.int (1 : Int), V.int (-(1 : Int))]) := upd_same
    generalize upd H11 p12 (HO.lst [V.int (1 : Int), V.int (-(1 : Int))]) = H17 at e13 hp14 ⊢
    have h15 : rep ms H17 (D.lst (([(1 : Int), (-(1 : Int))] : List Int).map (fun y_ : Int => (D.v (V.int y_))))) (.ref p12) := rep_lst_mk hW n16 e13 hp14 (repL_cons rep_v (repL_cons rep_v repL_nil))
    replace h4 := rep_ext e13 h4
    replace hW := hW.ret0 e13
    refine ⟨ms, ap, _, ([(1 : Int), (-(1 : Int))] : List Int), _, rfl, hW.enterP, h15, hM, fun r18 u21 H22 hM e20 h19 => ?_⟩
    replace h4 := rep_ret hW e20 h4
    replace h15 := rep_ret hW e20 h15
    replace hW := hW.retP e20
    obtain rfl := of_v h19
    obtain ⟨g23, hM⟩ := hM
    refine ⟨_, _, rfl, rfl, g23, ?_⟩
    refine ⟨_, rfl, ?_⟩
    refine ⟨(by show 5 ≤ sizeLine; decide), ?_⟩
    intro p24 n28
    have e25 := Rx.Ext.new (H := H22) (o := (HO.lst [V.int (0 : Int), V.int (0 : Int), V.int (1 : Int), V.int (2 : Int), V.int (4 : Int)])) n28
    have hp26 : upd H22 p24 (HO.lst [V.int (0 : Int), V.int (0 : Int), V.int (1 : Int), V.int (2 : Int), V.int (4 : Int)]) p24 = some (HO.lst [V.int (0 : Int), V.int (0 : Int), V.int (1 : Int), V.int (2 : Int), V.int (4 : Int)]) := upd_same
    generalize upd H22 p24 (HO.lst [V.int (0 : Int), V.int (0 : Int), V.int (1 : Int), V.int (2 : Int), V.int (4 : Int)]) = H29 at e25 hp26 ⊢
    have h27 : rep ms H29 (D.lst (([(0 : Int), (0 : Int), (1 : Int), (2 : Int), (4 : Int)] : List Int).map (fun y_ : Int => (D.v (V.int y_))))) (.ref p24) := rep_lst_mk hW n28 e25 hp26 (repL_cons rep_v (repL_cons rep_v (repL_cons rep_v (repL_cons rep_v (repL_cons rep_v repL_nil)))))
    replace h4 := rep_ext e25 h4
    replace h15 := rep_ext e25 h15
    replace hW := hW.ret0 e25
    refine ⟨ms, ap, _, ([(0 : Int), (0 : Int), (1 : Int), (2 : Int), (4 : Int)] : List Int), _, rfl, hW.enterP, h27, hM, fun r30 u33 H34 hM e32 h31 => ?_⟩
    replace h4 := rep_ret hW e32 h4
    replace h15 := rep_ret hW e32 h15
    replace h27 := rep_ret hW e32 h27
    replace hW := hW.retP e32
    obtain rfl := of_v h31
    refine ⟨_, rfl, ?_⟩
    refine ⟨(by show 5 ≤ sizeLine; decide), ?_⟩
    intro p35 n39
    have e36 := Rx.Ext.new (H := H34) (o := (HO.lst [V.int (1 : Int), V.int (2 : Int), V.int (2 : Int), V.int (3 : Int), V.int (4 : Int)])) n39
    have hp37 : upd H34 p35 (HO.lst [V.int (1 : Int), V.int (2 : Int), V.int (2 : Int), V.int (3 : Int), V.int (4 : Int)]) p35 = some (HO.lst [V.int (1 : Int), V.int (2 : Int), V.int (2 : Int), V.int (3 : Int), V.int (4 : Int)]) := upd_same
    generalize upd H34 p35 (HO.lst [V.int (1 : Int), V.int (2 : Int), V.int (2 : Int), V.int (3 : Int), V.int (4 : Int)]) = H40 at e36 hp37 ⊢
    have h38 : rep ms H40 (D.lst (([(1 : Int), (2 : Int), (2 : Int), (3 : Int), (4 : Int)] : List Int).map (fun y_ : Int => (D.v (V.int y_))))) (.ref p35) := rep_lst_mk hW n39 e36 hp37 (repL_cons rep_v (repL_cons rep_v (repL_cons rep_v (repL_cons rep_v (repL_cons rep_v repL_nil)))))
    replace h4 := rep_ext e36 h4
    replace h15 := rep_ext e36 h15
    replace h27 := rep_ext e36 h27
    replace hW := hW.ret0 e36
    refine ⟨ms, ap, _, ([(1 : Int), (2 : Int), (2 : Int), (3 : Int), (4 : Int)] : List Int), _, rfl, hW.enterP, h38, hM, fun r41 u44 H45 hM e43 h42 => ?_⟩
    replace h4 := rep_ret hW e43 h4
    replace h15 := rep_ret hW e43 h15
    replace h27 := rep_ret hW e43 h27
    replace h38 := rep_ret hW e43 h38
    replace hW := hW.retP e43
    obtain rfl := of_v h42
    refine ⟨_, rfl, ?_⟩
    refine ⟨(by show 5 ≤ sizeLine; decide), ?_⟩
    intro p46 n50
    have e47 := Rx.Ext.new (H := H45) (o := (HO.lst [V.int (0 : Int), V.int (0 : Int), V.int (1 : Int), V.int (3 : Int), V.int (4 : Int)])) n50
    have hp48 : upd H45 p46 (HO.lst [V.int (0 : Int), V.int (0 : Int), V.int (1 : Int), V.int (3 : Int), V.int (4 : Int)]) p46 = some (HO.lst [V.int (0 : Int), V.int (0 : Int), V.int (1 : Int), V.int (3 : Int), V.int (4 : Int)]) := upd_same
    generalize upd H45 p46 (HO.lst [V.int (0 : Int), V.int (0 : Int), V.int (1 : Int), V.int (3 : Int), V.int (4 : Int)]) = H51 at e47 hp48 ⊢
    have h49 : rep ms H51 (D.lst (([(0 : Int), (0 : Int), (1 : Int), (3 : Int), (4 : Int)] : List Int).map (fun y_ : Int => (D.v (V.int y_))))) (.ref p46) := rep_lst_mk hW n50 e47 hp48 (repL_cons rep_v (repL_cons rep_v (repL_cons rep_v (repL_cons rep_v (repL_cons rep_v repL_nil)))))
    replace h4 := rep_ext e47 h4
    replace h15 := rep_ext e47 h15
    replace h27 := rep_ext e47 h27
    replace h38 := rep_ext e47 h38
    replace hW := hW.ret0 e47
    refine ⟨ms, ap, _, ([(0 : Int), (0 : Int), (1 : Int), (3 : Int), (4 : Int)] : List Int), _, rfl, hW.enterP, h49, hM, fun r52 u55 H56 hM e54 h53 => ?_⟩
    replace h4 := rep_ret hW e54 h4
    replace h15 := rep_ret hW e54 h15
    replace h27 := rep_ret hW e54 h27
    replace h38 := rep_ret hW e54 h38
    replace h49 := rep_ret hW e54 h49
    replace hW := hW.retP e54
    obtain rfl := of_v h53
    refine ⟨(by show 3 ≤ sizeLine; decide), ?_⟩
    intro p57 n61
    have e58 := Rx.Ext.new (H := H56) (o := (HO.tup [V.str r30, V.str r41, V.str r52])) n61
    have hp59 : upd H56 p57 (HO.tup [V.str r30, V.str r41, V.str r52]) p57 = some (HO.tup [V.str r30, V.str r41, V.str r52]) := upd_same
    generalize upd H56 p57 (HO.tup [V.str r30, V.str r41, V.str r52]) = H62 at e58 hp59 ⊢
    have h60 : rep ms H62 (D.tup [(D.v (V.str r30)), (D.v (V.str r41)), (D.v (V.str r52))]) (.ref p57) := rep_tup_mk hW n61 e58 hp59 (repL_cons rep_v (repL_cons rep_v (repL_cons rep_v repL_nil)))
    replace h4 := rep_ext e58 h4
    replace h15 := rep_ext e58 h15
    replace h27 := rep_ext e58 h27
    replace h38 := rep_ext e58 h38
    replace h49 := rep_ext e58 h49
    replace hW := hW.ret0 e58
    refine ⟨_, rfl, ?_⟩
    refine ⟨_, rfl, ?_⟩
    refine ⟨_, rfl, ?_⟩
    refine ⟨(by show 5 ≤ sizeLine; decide), ?_⟩
    intro p63 n67
    have e64 := Rx.Ext.new (H := H62) (o := (HO.lst [V.str ("home" : Str), V.str ("away" : Str), V.str ("even" : Str), V.str ("even" : Str), V.str ("odd" : Str)])) n67
    have hp65 : upd H62 p63 (HO.lst [V.str ("home" : Str), V.str ("away" : Str), V.str ("even" : Str), V.str ("even" : Str), V.str ("odd" : Str)]) p63 = some (HO.lst [V.str ("home" : Str), V.str ("away" : Str), V.str ("even" : Str), V.str ("even" : Str), V.str ("odd" : Str)]) := upd_same
    generalize upd H62 p63 (HO.lst [V.str ("home" : Str), V.str ("away" : Str), V.str ("even" : Str), V.str ("even" : Str), V.str ("odd" : Str)]) = H68 at e64 hp65 ⊢
    have h66 : rep ms H68 (D.lst (([("home" : Str), ("away" : Str), ("even" : Str), ("even" : Str), ("odd" : Str)] : List Str).map (fun y_ : Str => (D.v (V.str y_))))) (.ref p63) := rep_lst_mk hW n67 e64 hp65 (repL_cons rep_v (repL_cons rep_v (repL_cons rep_v (repL_cons rep_v (repL_cons rep_v repL_nil)))))
    replace h4 := rep_ext e64 h4
    replace h15 := rep_ext e64 h15
    replace h27 := rep_ext e64 h27
    replace h38 := rep_ext e64 h38
    replace h49 := rep_ext e64 h49
    replace h60 := rep_ext e64 h60
    replace hW := hW.ret0 e64
    refine ⟨ms, ap, _, ([("home" : Str), ("away" : Str), ("even" : Str), ("even" : Str), ("odd" : Str)] : List Str), _, rfl, hW.enterP, h66, hM, fun r69 u72 H73 hM e71 h70 => ?_⟩
    replace h4 := rep_ret hW e71 h4
    replace h15 := rep_ret hW e71 h15
    replace h27 := rep_ret hW e71 h27
    replace h38 := rep_ret hW e71 h38
    replace h49 := rep_ret hW e71 h49
    replace h60 := rep_ret hW e71 h60
    replace h66 := rep_ret hW e71 h66
    replace hW := hW.retP e71
    obtain rfl := of_v h70
    refine ⟨_, rfl, ?_⟩
    refine ⟨ms, ap, (3 : Int), _, rfl, hW.enterP, hM, fun r74 u77 H78 hM e76 h75 => ?_⟩
    replace h4 := rep_ret hW e76 h4
    replace h15 := rep_ret hW e76 h15
    replace h27 := rep_ret hW e76 h27
    replace h38 := rep_ret hW e76 h38
    replace h49 := rep_ret hW e76 h49
    replace h60 := rep_ret hW e76 h60
    replace h66 := rep_ret hW e76 h66
    replace hW := hW.retP e76
    obtain rfl := of_v h75
    refine ⟨rfl, ?_⟩
    refine ⟨(by show 4 ≤ sizeLine; decide), ?_⟩
    intro p79 n83
    have e80 := Rx.Ext.new (H := H78) (o := (HO.tup [V.int (r7 * r18), (V.ref p57), V.str r69, V.bl (decide (V.int r74 = V.int (0 : Int)))])) n83
    have hp81 : upd H78 p79 (HO.tup [V.int (r7 * r18), (V.ref p57), V.str r69, V.bl (decide (V.int r74 = V.int (0 : Int)))]) p79 = some (HO.tup [V.int (r7 * r18), (V.ref p57), V.str r69, V.bl (decide (V.int r74 = V.int (0 : Int)))]) := upd_same
    generalize upd H78 p79 (HO.tup [V.int (r7 * r18), (V.ref p57), V.str r69, V.bl (decide (V.int r74 = V.int (0 : Int)))]) = H84 at e80 hp81 ⊢
    have h82 : rep ms H84 (D.tup [(D.v (V.int (r7 * r18))), (D.tup [(D.v (V.str (r30, r41, r52).1)), (D.v (V.str (r30, r41, r52).2.1)), (D.v (V.str (r30, r41, r52).2.2))]), (D.v (V.str r69)), (D.v (V.bl (decide (V.int r74 = V.int (0 : Int)))))]) (.ref p79) := rep_tup_mk hW n83 e80 hp81 (repL_cons rep_v (repL_cons h60 (repL_cons rep_v (repL_cons rep_v repL_nil))))
    replace h4 := rep_ext e80 h4
    replace h15 := rep_ext e80 h15
    replace h27 := rep_ext e80 h27
    replace h38 := rep_ext e80 h38
    replace h49 := rep_ext e80 h49
    replace h60 := rep_ext e80 h60
    replace h66 := rep_ext e80 h66
    replace hW := hW.ret0 e80
    exact hQ ((r7 * r18), (r30, r41, r52), r69, (decide (V.int r74 = V.int (0 : Int)))) _ _ hM hW.out h82
def M_season (KM : (List (Int × Int × Bool)) → Prop) : Prop :=
  (M_draw (4 : Int) fun r6 => (forC (fun (x11 : Int) (s13 : (List (Int × Int × Bool))) (k14 : ((List (Int × Int × Bool))) → Prop) => (M_draw (4 : Int) fun r22 => (M_pick ([(1 : Int), (1 : Int), (-(1 : Int))] : List Int) fun r33 => (M_draw (2 : Int) fun r38 => (s13.length < 16777216 ∧ (k14 ((s13 ++ [(r22, r33, (decide (V.int r38 = V.int (0 : Int))))])))))))) (rangeI (0 : Int) ((1 : Int) + r6)) (([] : List (Int × Int × Bool))) fun s56 => (KM s56)))
def sp_season (A : Ad) : Sp := fun vs H Q _ => ∃ (ms : List Addr) (ap : Addr) (KM : (List (Int × Int × Bool)) → Prop), vs = [.ref ap] ∧ Wd ms [ap] [] H H ∧ M_season  KM ∧ ∀ (r : (List (Int × Int × Bool))) (u : V) (H1 : Hp), KM r → Ret [ap] H H1 → rep ms H1 (D.lst (r.map (fun y_ : (Int × Int × Bool) => (D.tup [(D.v (V.int y_.1)), (D.v (V.int y_.2.1)), (D.v (V.bl y_.2.2))])))) u → Q u H1
set_option maxHeartbeats 16000000 in
theorem ok_season {P : Program} {w : World} {K : PySem.W.Frag} {mg : Str → Option Value} {base : Heap} {A : Ad} (T : Txt w K mg A) : FnOk P w K mg base CX0 3 A.a_season A.d_season ["_law_pot_here"] (sp_season A) := by
  refine T.F_season.ok sc_season (fun vs H Q E h => ?_) (fun cdv A_ outer s_ H_0 vs Q E hr h => ?_)
  · obtain ⟨ms, ap, KM, rfl, _⟩ := h
    rfl
  · obtain ⟨ms, ap, KM, rfl, hW, hM, hQ⟩ := h
    unfold M_season at hM
    refine ⟨_, (pss_cons (ps_set (i := 1) sc_season.nd rfl (by first | exact Or.inl rfl | exact Or.inr rfl) (pe_lst pa_nil)) (pss_cons (ps_for PassesOwn.never rfl (pi_rangeW1 (by rfl) T.z_range (pa_cons (pe_op op_add pe_int (pe_call (ok_draw T) (hr.mono (by decide)) (by rfl) T.g_draw T.F_draw.kp T.b_draw .nil pass0 (pa_cons (pv 0) (pa_cons pe_int pa_nil)))) pa_nil)) (pg_name (i := 2) sc_season.nd rfl (by first | exact Or.inl rfl | exact Or.inr rfl)) (pss_one (ps_expr (pe_bmK (K := K) rfl PySem.F.plainAttrs_list PySem.F.slot_list_append PySem.F.type_list_append mt_append (pv 1) (pa_cons (pe_tup (pa_cons (pe_call (ok_draw T) (hr.mono (by decide)) (by rfl) T.g_draw T.F_draw.kp T.b_draw .nil pass0 (pa_cons (pv 0) (pa_cons pe_int pa_nil))) (pa_cons (pe_call (ok_pick T) (hr.mono (by decide)) (by rfl) T.g_pick T.F_pick.kp T.b_pick .nil pass0 (pa_cons (pv 0) (pa_cons (pe_lst (pa_cons pe_int (pa_cons pe_int (pa_cons (pe_un un_neg pe_int) pa_nil)))) pa_nil))) (pa_cons (pe_cmpR op_eq (pe_call (ok_draw T) (hr.mono (by decide)) (by rfl) T.g_draw T.F_draw.kp T.b_draw .nil pass0 (pa_cons (pv 0) (pa_cons pe_int pa_nil))) pe_int (nomark _)) pa_nil)))) pa_nil))))) (pss_one (ps_ret (pv 1))))), ?_⟩
    refine ⟨(by show 0 ≤ sizeLine; decide), ?_⟩
    intro L1 nl2
    have nm3 := nm_new hW nl2
    have mu4 := mo_newL (ds := ([] : List (Int × Int × Bool)).map (fun y_ : (Int × Int × Bool) => (D.tup [(D.v (V.int y_.1)), (D.v (V.int y_.2.1)), (D.v (V.bl y_.2.2))]))) (vs := []) hW nl2 repL_nil
    replace hW := wd_cell (o := .lst []) hW nl2
    generalize upd H_0 L1 (.lst []) = H5 at *
    replace mu4 : MutO (L1 :: ms) [ap] H_0 H5 L1 (D.lst (([] : List (Int × Int × Bool)).map (fun y_ : (Int × Int × Bool) => (D.tup [(D.v (V.int y_.1)), (D.v (V.int y_.2.1)), (D.v (V.bl y_.2.2))])))) := mu4
    refine ⟨_, rfl, ?_⟩
    refine ⟨(L1 :: ms), ap, (4 : Int), _, rfl, hW.enterP, hM, fun r6 u9 H10 hM e8 h7 => ?_⟩
    replace mu4 := mo_ret hW e8 mu4
    replace hW := hW.retP e8
    obtain rfl := of_v h7
    refine ⟨_, _, rfl, rfl, ?_⟩
    refine ⟨_, rfl, ?_⟩
    refine for_rangeG (S := (List (Int × Int × Bool))) (lo := (0 : Int)) (hi := ((1 : Int) + r6)) (N := Int.toNat ((1 : Int) + r6)) (fun (s : (List (Int × Int × Bool))) σ_ h_ => ∃ (w_0 : Option V), σ_ = [some (V.ref ap), some (V.ref L1), w_0] ∧ Wd (L1 :: ms) [ap] [] H_0 h_ ∧ Keep (L1 :: ms) H10 h_ ∧ MutO (L1 :: ms) [ap] H_0 h_ L1 (D.lst (s.map (fun y_ : (Int × Int × Bool) => (D.tup [(D.v (V.int y_.1)), (D.v (V.int y_.2.1)), (D.v (V.bl y_.2.2))]))))) (([] : List (Int × Int × Bool))) (by simp) hM ⟨_, rfl, hW, Keep.refl, mu4⟩ ?_ ?_
    · skip
      clear mu4
      rintro x11 s13 k14 _ H21 ⟨w19, rfl, hW, hk15, mu20⟩ hM Nx17 hN18
      refine ⟨_, rfl, ?_⟩
      refine ⟨mo_tyL mu20, ?_⟩
      refine ⟨_, rfl, ?_⟩
      refine ⟨(L1 :: ms), ap, (4 : Int), _, rfl, hW.enterP, hM, fun r22 u25 H26 hM e24 h23 => ?_⟩
      replace hk15 := keep_ret hW e24 hk15
      replace mu20 := mo_ret hW e24 mu20
      replace hW := hW.retP e24
      obtain rfl := of_v h23
      refine ⟨_, rfl, ?_⟩
      refine ⟨_, rfl, ?_⟩
      refine ⟨(by show 3 ≤ sizeLine; decide), ?_⟩
      intro p27 n31
      have e28 := Rx.Ext.new (H := H26) (o := (HO.lst [V.int (1 : Int), V.int (1 : Int), V.int (-(1 : Int))])) n31
      have hp29 : upd H26 p27 (HO.lst [V.int (1 : Int), V.int (1 : Int), V.int (-(1 : Int))]) p27 = some (HO.lst [V.int (1 : Int), V.int (1 : Int), V.int (-(1 : Int))]) := upd_same
      generalize upd H26 p27 (HO.lst [V.int (1 : Int), V.int (1 : Int), V.int (-(1 : Int))]) = H32 at e28 hp29 ⊢
      have h30 : rep (L1 :: ms) H32 (D.lst (([(1 : Int), (1 : Int), (-(1 : Int))] : List Int).map (fun y_ : Int => (D.v (V.int y_))))) (.ref p27) := rep_lst_mk hW n31 e28 hp29 (repL_cons rep_v (repL_cons rep_v (repL_cons rep_v repL_nil)))
      replace hk15 := keep_ext e28 hk15
      replace mu20 := mo_ext e28 mu20
      replace hW := hW.ret0 e28
      refine ⟨(L1 :: ms), ap, _, ([(1 : Int), (1 : Int), (-(1 : Int))] : List Int), _, rfl, hW.enterP, h30, hM, fun r33 u36 H37 hM e35 h34 => ?_⟩
      replace hk15 := keep_ret hW e35 hk15
      replace h30 := rep_ret hW e35 h30
      replace mu20 := mo_ret hW e35 mu20
      replace hW := hW.retP e35
      obtain rfl := of_v h34
      refine ⟨_, rfl, ?_⟩
      refine ⟨(L1 :: ms), ap, (2 : Int), _, rfl, hW.enterP, hM, fun r38 u41 H42 hM e40 h39 => ?_⟩
      replace hk15 := keep_ret hW e40 hk15
      replace h30 := rep_ret hW e40 h30
      replace mu20 := mo_ret hW e40 mu20
      replace hW := hW.retP e40
      obtain rfl := of_v h39
      refine ⟨rfl, ?_⟩
      refine ⟨(by show 3 ≤ sizeLine; decide), ?_⟩
      intro p43 n47
      have e44 := Rx.Ext.new (H := H42) (o := (HO.tup [V.int r22, V.int r33, V.bl (decide (V.int r38 = V.int (0 : Int)))])) n47
      have hp45 : upd H42 p43 (HO.tup [V.int r22, V.int r33, V.bl (decide (V.int r38 = V.int (0 : Int)))]) p43 = some (HO.tup [V.int r22, V.int r33, V.bl (decide (V.int r38 = V.int (0 : Int)))]) := upd_same
      generalize upd H42 p43 (HO.tup [V.int r22, V.int r33, V.bl (decide (V.int r38 = V.int (0 : Int)))]) = H48 at e44 hp45 ⊢
      have h46 : rep (L1 :: ms) H48 (D.tup [(D.v (V.int r22)), (D.v (V.int r33)), (D.v (V.bl (decide (V.int r38 = V.int (0 : Int)))))]) (.ref p43) := rep_tup_mk hW n47 e44 hp45 (repL_cons rep_v (repL_cons rep_v (repL_cons rep_v repL_nil)))
      replace hk15 := keep_ext e44 hk15
      replace h30 := rep_ext e44 h30
      replace mu20 := mo_ext e44 mu20
      replace hW := hW.ret0 e44
      obtain ⟨g49, hM⟩ := hM
      apply mo_appU mu20 (by rw [List.length_map]; exact g49)
      intro vs50 hr52
      have mk54 := mo_setL mu20 (repL_snoc (e := (fun y_ : (Int × Int × Bool) => (D.tup [(D.v (V.int y_.1)), (D.v (V.int y_.2.1)), (D.v (V.bl y_.2.2))]))) (xs := s13) (y := (r22, r33, (decide (V.int r38 = V.int (0 : Int))))) hr52 h46)
      replace hk15 := keep_put (o := .lst (vs50 ++ [(V.ref p43)])) mu20.im hk15
      replace h30 := rep_put (o := .lst (vs50 ++ [(V.ref p43)])) mu20.im h30
      replace h46 := rep_put (o := .lst (vs50 ++ [(V.ref p43)])) mu20.im h46
      replace hW := wd_put (o := .lst (vs50 ++ [(V.ref p43)])) hW mu20
      replace mu20 := mk54
      generalize upd H48 L1 (.lst (vs50 ++ [(V.ref p43)])) = H55 at *
      replace mu20 : MutO (L1 :: ms) [ap] H_0 H55 L1 (D.lst ((s13 ++ [(r22, r33, (decide (V.int r38 = V.int (0 : Int))))]).map (fun y_ : (Int × Int × Bool) => (D.tup [(D.v (V.int y_.1)), (D.v (V.int y_.2.1)), (D.v (V.bl y_.2.2))])))) := mu20
      clear mk54
      exact hN18 ((s13 ++ [(r22, r33, (decide (V.int r38 = V.int (0 : Int))))])) _ _ hM ⟨_, rfl, hW, hk15, mu20⟩
    · skip
      clear mu4
      rintro s56 _ H60 hM ⟨w58, rfl, hW, hk57, mu59⟩
      have h61 := mo_rep_dr dr_here nm3 mu59
      replace hW := wd_dr dr_here mu59.hp hW
      clear mu59
      refine ⟨_, rfl, ?_⟩
      exact hQ s56 _ _ hM hW.out h61
def M_is_integer (x_value : Int) (KM : Bool → Prop) : Prop :=
  (KM (!false))
def sp_is_integer (A : Ad) : Sp := fun vs H Q _ => ∃ (ms : List Addr) (x_value : Int) (KM : Bool → Prop), vs = [V.int x_value] ∧ Wd ms [] [] H H ∧ M_is_integer x_value KM ∧ ∀ (r : Bool) (u : V) (H1 : Hp), KM r → Ret [] H H1 → rep ms H1 (D.v (V.bl r)) u → Q u H1
set_option maxHeartbeats 16000000 in
theorem ok_is_integer {P : Program} {w : World} {K : PySem.W.Frag} {mg : Str → Option Value} {base : Heap} {A : Ad} (T : Txt w K mg A) : FnOk P w K mg base CX0 1 A.a_is_integer A.d_is_integer ["value"] (sp_is_integer A) := by
  refine T.F_is_integer.ok sc_is_integer (fun vs H Q E h => ?_) (fun cdv A_ outer s_ H_0 vs Q E hr h => ?_)
  · obtain ⟨ms, x_value, KM, rfl, _⟩ := h
    rfl
  · obtain ⟨ms, x_value, KM, rfl, hW, hM, hQ⟩ := h
    unfold M_is_integer at hM
    refine ⟨_, (pss_one (ps_ret (pe_and (pe_callB (call_isiK (K := K) rfl) (by rfl) T.z_isinstance (by decide +kernel) (pa_cons (pv 0) (pa_cons (pe_bltn (v := .ty "int") (by rfl) T.z_int (by decide +kernel) rfl) pa_nil))) (pe_one (pe_not (pe_callB (call_isiK (K := K) rfl) (by rfl) T.z_isinstance (by decide +kernel) (pa_cons (pv 0) (pa_cons (pe_bltn (v := .ty "bool") (by rfl) T.z_bool (by decide +kernel) rfl) pa_nil)))))))), ?_⟩
    refine ⟨_, rfl, ?_⟩
    refine ⟨_, _, _, _, true, rfl, .ty _, .base (.int _), kit_ty (by decide +kernel), ?_⟩
    refine ⟨_, rfl, ?_⟩
    refine iteT ?_
    refine ⟨_, rfl, ?_⟩
    refine ⟨_, _, _, _, false, rfl, .ty _, .base (.int _), kit_ty (by decide +kernel), ?_⟩
    refine ⟨_, rfl, ?_⟩
    exact hQ (!false) _ _ hM hW.out rep_v
def M_Rule_init (x_step : Int) (x_word : (Str × Str × Str)) (x_stander : Str) (x_turned : Bool) (KM : (Int × (Str × Str × Str) × Str × Bool) → Prop) : Prop :=
  (M_is_integer x_step fun r1 => (if (!r1) = true then False else (if (decide (V.int x_step = V.int (0 : Int))) = true then False else (if (decide ((7 : Int) < (if x_step < 0 then -x_step else x_step))) = true then False else (∃ c6 : Str, wd_CONTRARY_STANDERS.lookup x_stander = some c6 ∧ (KM (x_step, x_word, x_stander, x_turned)))))))
def sp_Rule_init (A : Ad) : Sp := fun vs H Q _ => ∃ (ms : List Addr) (p_ dx_ : Addr) (v_word : V) (x_step : Int) (x_word : (Str × Str × Str)) (x_stander : Str) (x_turned : Bool) (KM : (Int × (Str × Str × Str) × Str × Bool) → Prop), vs = [.ref p_, V.int x_step, v_word, V.str x_stander, V.bl x_turned] ∧ Wd ms [] [] H H ∧ p_ ∈ ms ∧ H p_ = some (.ins A.c_Rule dx_ []) ∧ rep ms H (eWord A x_word) v_word ∧ M_Rule_init x_step x_word x_stander x_turned KM ∧ ∀ (r : (Int × (Str × Str × Str) × Str × Bool)) (us : List V) (H1 : Hp), KM r → KpI p_ H H1 → H1 p_ = some (.ins A.c_Rule dx_ (List.zip ns_Rule us)) → ns_Rule.length = us.length → repL ms H1 [(D.v (V.int r.1)), (eWord A r.2.1), (D.v (V.str r.2.2.1)), (D.v (V.bl r.2.2.2))] us → Q .non H1
set_option maxHeartbeats 16000000 in
theorem ok_Rule_init {P : Program} {w : World} {K : PySem.W.Frag} {mg : Str → Option Value} {base : Heap} {A : Ad} (T : Txt w K mg A) : FnOk P w K mg base CX0 2 A.a_Rule_init A.d_Rule_init ["self", "step", "word", "stander", "turned"] (sp_Rule_init A) := by
  refine T.F_Rule_init.ok sc_Rule_init (fun vs H Q E h => ?_) (fun cdv A_ outer s_ H_0 vs Q E hr h => ?_)
  · obtain ⟨ms, p_, dx_, v_word, x_step, x_word, x_stander, x_turned, KM, rfl, _⟩ := h
    rfl
  · obtain ⟨ms, p_, dx_, v_word, x_step, x_word, x_stander, x_turned, KM, rfl, hW, pm_, hp, h_word, hM, hQ⟩ := h
    unfold M_Rule_init at hM
    have hK := ki_refl (p := p_) (H := H_0)
    replace hp : H_0 p_ = some (.ins A.c_Rule dx_ (List.zip ([] : List Str) ([] : List V))) := hp
    refine ⟨_, (pss_cons (ps_if (PW.pt (pw_or (pt_not (pt_val (pe_call (ok_is_integer T) (hr.mono (by decide)) (by rfl) T.g_is_integer T.F_is_integer.kp T.b_is_integer .nil pass0 (pa_cons (pv 1) pa_nil)))) (pw_or (pt_cmpR op_eq (pv 1) pe_int (nomark _)) (pw_or1 (pt_cmpR op_gt (pe_callB call_abs (by rfl) T.z_abs (by decide +kernel) (pa_cons (pv 1) pa_nil)) (C8.pe_gc (by rfl) T.c_MOST_STEP) (nomark _)))))) (pss_one ps_never) pss_nil) (pss_cons (ps_if (PW.pt (pw_or (pt_not (pt_val (pe_callB (call_isiK (K := K) rfl) (by rfl) T.z_isinstance (by decide +kernel) (pa_cons (pv 3) (pa_cons (pe_bltn (v := .ty "str") (by rfl) T.z_str (by decide +kernel) rfl) pa_nil))))) (pw_or1 (pt_cmpR (op_ninW (K := K) (w := w) rfl rfl T.lo_CONTRARY_STANDERS) (pv 3) (pe_glob (v := .ref A.wd_CONTRARY_STANDERS) (by rfl) T.g_CONTRARY_STANDERS rfl) (by rfl))))) (pss_one ps_never) pss_nil) (pss_cons (ps_if (pt_not (pt_val (pe_callB (call_isiK (K := K) rfl) (by rfl) T.z_isinstance (by decide +kernel) (pa_cons (pv 4) (pa_cons (pe_bltn (v := .ty "bool") (by rfl) T.z_bool (by decide +kernel) rfl) pa_nil))))) (pss_one ps_never) pss_nil) (pss_cons (ps_fld (pv 0) (pv 1) rfl) (pss_cons (ps_fld (pv 0) (pv 2) rfl) (pss_cons (ps_fld (pv 0) (pv 3) rfl) (pss_one (ps_fld (pv 0) (pv 4) rfl)))))))), ?_⟩
    refine ⟨_, rfl, ?_⟩
    refine ⟨ms, x_step, _, rfl, hW.enter0, hM, fun r1 u4 H5 hM e3 h2 => ?_⟩
    replace h_word := rep_ext e3 h_word
    replace hp := Rx.Ext.keep e3 hp
    replace hW := hW.ret0 e3
    obtain rfl := of_v h2
    refine ⟨_, rfl, ?_⟩
    refine ite3 hM (fun hM => ?_) (fun hM => ?_)
    · skip
      refine iteT ?_
      exact hM
    · skip
      refine ⟨_, rfl, ?_⟩
      refine ⟨rfl, ?_⟩
      refine ⟨_, rfl, ?_⟩
      refine ite3 hM (fun hM => ?_) (fun hM => ?_)
      · skip
        refine iteT ?_
        exact hM
      · skip
        refine ⟨_, rfl, ?_⟩
        refine ⟨_, rfl, ?_⟩
        refine ⟨_, _, rfl, rfl, ?_⟩
        refine ⟨_, rfl, ?_⟩
        refine ite3 hM (fun hM => ?_) (fun hM => ?_)
        · skip
          exact hM
        · skip
          refine ⟨_, rfl, ?_⟩
          refine ⟨_, _, _, _, true, rfl, .ty _, .base (.str _), kit_ty (by decide +kernel), ?_⟩
          refine ⟨_, rfl, ?_⟩
          refine iteF ?_
          refine ⟨_, rfl, ?_⟩
          obtain ⟨c6, h7, hM⟩ := hM
          apply rep_inW T.kd_CONTRARY_STANDERS h7
          refine ⟨_, rfl, ?_⟩
          refine iteF ?_
          refine ⟨_, rfl, ?_⟩
          refine ⟨_, _, _, _, true, rfl, .ty _, .base (.bl _), kit_ty (by decide +kernel), ?_⟩
          refine ⟨_, rfl, ?_⟩
          refine iteF ?_
          refine ⟨_, rfl, ?_⟩
          refine ⟨_, rfl, p_, A.c_Rule, dx_, _, rfl, hp, T.cl_Rule, T.na_Rule__step, (by first | decide | simp), ?_⟩
          have z8 : putF ("_step" : Str) (V.int x_step) (List.zip ([] : List Str) ([] : List V)) = List.zip [("_step" : Str)] [V.int x_step] := putF_zip (ns := ([] : List Str)) (us := ([] : List V)) rfl (nin_of (by decide +kernel))
          replace h_word := rep_put (o := .ins A.c_Rule dx_ (putF ("_step" : Str) (V.int x_step) (List.zip ([] : List Str) ([] : List V)))) pm_ h_word
          replace hK := ki_put (o := .ins A.c_Rule dx_ (putF ("_step" : Str) (V.int x_step) (List.zip ([] : List Str) ([] : List V)))) hK hW
          replace hW := wd_at (p := p_) (o := .ins A.c_Rule dx_ (putF ("_step" : Str) (V.int x_step) (List.zip ([] : List Str) ([] : List V)))) hW
          replace hp : upd H5 p_ (.ins A.c_Rule dx_ (putF ("_step" : Str) (V.int x_step) (List.zip ([] : List Str) ([] : List V)))) p_ = some (.ins A.c_Rule dx_ (putF ("_step" : Str) (V.int x_step) (List.zip ([] : List Str) ([] : List V)))) := upd_same
          generalize upd H5 p_ (.ins A.c_Rule dx_ (putF ("_step" : Str) (V.int x_step) (List.zip ([] : List Str) ([] : List V)))) = H9 at *
          rw [z8] at hp
          refine ⟨_, rfl, ?_⟩
          refine ⟨_, rfl, p_, A.c_Rule, dx_, _, rfl, hp, T.cl_Rule, T.na_Rule__word, (by first | decide | simp), ?_⟩
          have z10 : putF ("_word" : Str) (v_word) (List.zip [("_step" : Str)] [V.int x_step]) = List.zip [("_step" : Str), ("_word" : Str)] [V.int x_step, v_word] := putF_zip (ns := [("_step" : Str)]) (us := [V.int x_step]) rfl (nin_of (by decide +kernel))
          replace h_word := rep_put (o := .ins A.c_Rule dx_ (putF ("_word" : Str) (v_word) (List.zip [("_step" : Str)] [V.int x_step]))) pm_ h_word
          replace hK := ki_put (o := .ins A.c_Rule dx_ (putF ("_word" : Str) (v_word) (List.zip [("_step" : Str)] [V.int x_step]))) hK hW
          replace hW := wd_at (p := p_) (o := .ins A.c_Rule dx_ (putF ("_word" : Str) (v_word) (List.zip [("_step" : Str)] [V.int x_step]))) hW
          replace hp : upd H9 p_ (.ins A.c_Rule dx_ (putF ("_word" : Str) (v_word) (List.zip [("_step" : Str)] [V.int x_step]))) p_ = some (.ins A.c_Rule dx_ (putF ("_word" : Str) (v_word) (List.zip [("_step" : Str)] [V.int x_step]))) := upd_same
          generalize upd H9 p_ (.ins A.c_Rule dx_ (putF ("_word" : Str) (v_word) (List.zip [("_step" : Str)] [V.int x_step]))) = H11 at *
          rw [z10] at hp
          refine ⟨_, rfl, ?_⟩
          refine ⟨_, rfl, p_, A.c_Rule, dx_, _, rfl, hp, T.cl_Rule, T.na_Rule__stander, (by first | decide | simp), ?_⟩
          have z12 : putF ("_stander" : Str) (V.str x_stander) (List.zip [("_step" : Str), ("_word" : Str)] [V.int x_step, v_word]) = List.zip [("_step" : Str), ("_word" : Str), ("_stander" : Str)] [V.int x_step, v_word, V.str x_stander] := putF_zip (ns := [("_step" : Str), ("_word" : Str)]) (us := [V.int x_step, v_word]) rfl (nin_of (by decide +kernel))
          replace h_word := rep_put (o := .ins A.c_Rule dx_ (putF ("_stander" : Str) (V.str x_stander) (List.zip [("_step" : Str), ("_word" : Str)] [V.int x_step, v_word]))) pm_ h_word
          replace hK := ki_put (o := .ins A.c_Rule dx_ (putF ("_stander" : Str) (V.str x_stander) (List.zip [("_step" : Str), ("_word" : Str)] [V.int x_step, v_word]))) hK hW
          replace hW := wd_at (p := p_) (o := .ins A.c_Rule dx_ (putF ("_stander" : Str) (V.str x_stander) (List.zip [("_step" : Str), ("_word" : Str)] [V.int x_step, v_word]))) hW
          replace hp : upd H11 p_ (.ins A.c_Rule dx_ (putF ("_stander" : Str) (V.str x_stander) (List.zip [("_step" : Str), ("_word" : Str)] [V.int x_step, v_word]))) p_ = some (.ins A.c_Rule dx_ (putF ("_stander" : Str) (V.str x_stander) (List.zip [("_step" : Str), ("_word" : Str)] [V.int x_step, v_word]))) := upd_same
          generalize upd H11 p_ (.ins A.c_Rule dx_ (putF ("_stander" : Str) (V.str x_stander) (List.zip [("_step" : Str), ("_word" : Str)] [V.int x_step, v_word]))) = H13 at *
          rw [z12] at hp
          refine ⟨_, rfl, ?_⟩
          refine ⟨_, rfl, p_, A.c_Rule, dx_, _, rfl, hp, T.cl_Rule, T.na_Rule__turned, (by first | decide | simp), ?_⟩
          have z14 : putF ("_turned" : Str) (V.bl x_turned) (List.zip [("_step" : Str), ("_word" : Str), ("_stander" : Str)] [V.int x_step, v_word, V.str x_stander]) = List.zip [("_step" : Str), ("_word" : Str), ("_stander" : Str), ("_turned" : Str)] [V.int x_step, v_word, V.str x_stander, V.bl x_turned] := putF_zip (ns := [("_step" : Str), ("_word" : Str), ("_stander" : Str)]) (us := [V.int x_step, v_word, V.str x_stander]) rfl (nin_of (by decide +kernel))
          replace h_word := rep_put (o := .ins A.c_Rule dx_ (putF ("_turned" : Str) (V.bl x_turned) (List.zip [("_step" : Str), ("_word" : Str), ("_stander" : Str)] [V.int x_step, v_word, V.str x_stander]))) pm_ h_word
          replace hK := ki_put (o := .ins A.c_Rule dx_ (putF ("_turned" : Str) (V.bl x_turned) (List.zip [("_step" : Str), ("_word" : Str), ("_stander" : Str)] [V.int x_step, v_word, V.str x_stander]))) hK hW
          replace hW := wd_at (p := p_) (o := .ins A.c_Rule dx_ (putF ("_turned" : Str) (V.bl x_turned) (List.zip [("_step" : Str), ("_word" : Str), ("_stander" : Str)] [V.int x_step, v_word, V.str x_stander]))) hW
          replace hp : upd H13 p_ (.ins A.c_Rule dx_ (putF ("_turned" : Str) (V.bl x_turned) (List.zip [("_step" : Str), ("_word" : Str), ("_stander" : Str)] [V.int x_step, v_word, V.str x_stander]))) p_ = some (.ins A.c_Rule dx_ (putF ("_turned" : Str) (V.bl x_turned) (List.zip [("_step" : Str), ("_word" : Str), ("_stander" : Str)] [V.int x_step, v_word, V.str x_stander]))) := upd_same
          generalize upd H13 p_ (.ins A.c_Rule dx_ (putF ("_turned" : Str) (V.bl x_turned) (List.zip [("_step" : Str), ("_word" : Str), ("_stander" : Str)] [V.int x_step, v_word, V.str x_stander]))) = H15 at *
          rw [z14] at hp
          exact hQ (x_step, x_word, x_stander, x_turned) [V.int x_step, v_word, V.str x_stander, V.bl x_turned] _ hM (ki_wd hK hW) hp rfl (repL_cons rep_v (repL_cons h_word (repL_cons rep_v (repL_cons rep_v repL_nil))))
theorem make_Rule_init {ms ps : List Addr} {cs : List (Addr × List V)} {H0 H : Hp} {A : Ad} {v_word : V} {x_step : Int} {x_word : (Str × Str × Str)} {x_stander : Str} {x_turned : Bool} {KM : (Int × (Str × Str × Str) × Str × Bool) → Prop} {Q : Addr → Hp → Prop} {E : XK} (hW : Wd ms ps cs H0 H) (h_word : rep ms H (eWord A x_word) v_word) (hM : M_Rule_init x_step x_word x_stander x_turned KM)
    (k : ∀ (x : Addr) (H1 : Hp) (r : (Int × (Str × Str × Str) × Str × Bool)), KM r → Rx.Ext H H1 → rep ms H1 (eRule A r) (.ref x) → Q x H1) :
    ∀ x dx, H x = none → H dx = none → dx ≠ x → sp_Rule_init A (.ref x :: ([V.int x_step, v_word, V.str x_stander, V.bl x_turned] ++ [])) (upd (upd H dx (.own x)) x (.ins A.c_Rule dx [])) (fun v H2 => v = .non ∧ Q x H2) E := by
  intro x dx nx ndx ne
  exact ⟨x :: ms, x, dx, v_word, x_step, x_word, x_stander, x_turned, KM, rfl, wd_new hW nx ndx, List.mem_cons_self, upd_same, mem_new nx h_word ndx, hM, fun r us H1 hr hK hp hl hu => ⟨rfl, k x H1 r hr (ext_new hK nx ndx) (rep_insW hW nx hp hl hu)⟩⟩
def M_made (x_sheet_here : (Int × (Str × Str × Str) × Str × Bool)) (KM : (Int × (Str × Str × Str) × Str × Bool) → Prop) : Prop :=
  (M_Word_init x_sheet_here.2.1.1 x_sheet_here.2.1.2.1 x_sheet_here.2.1.2.2 ∧ (M_Rule_init x_sheet_here.1 (x_sheet_here.2.1.1, x_sheet_here.2.1.2.1, x_sheet_here.2.1.2.2) x_sheet_here.2.2.1 x_sheet_here.2.2.2 fun r32 => (KM r32)))
def sp_made (A : Ad) : Sp := fun vs H Q _ => ∃ (ms : List Addr) (v_sheet_here : V) (x_sheet_here : (Int × (Str × Str × Str) × Str × Bool)) (KM : (Int × (Str × Str × Str) × Str × Bool) → Prop), vs = [v_sheet_here] ∧ Wd ms [] [] H H ∧ rep ms H (D.tup [(D.v (V.int x_sheet_here.1)), (D.tup [(D.v (V.str x_sheet_here.2.1.1)), (D.v (V.str x_sheet_here.2.1.2.1)), (D.v (V.str x_sheet_here.2.1.2.2))]), (D.v (V.str x_sheet_here.2.2.1)), (D.v (V.bl x_sheet_here.2.2.2))]) v_sheet_here ∧ M_made x_sheet_here KM ∧ ∀ (r : (Int × (Str × Str × Str) × Str × Bool)) (u : V) (H1 : Hp), KM r → Ret [] H H1 → rep ms H1 (eRule A r) u → Q u H1
set_option maxHeartbeats 16000000 in
theorem ok_made {P : Program} {w : World} {K : PySem.W.Frag} {mg : Str → Option Value} {base : Heap} {A : Ad} (T : Txt w K mg A) : FnOk P w K mg base CX0 5 A.a_made A.d_made ["_law_sheet_here"] (sp_made A) := by
  refine T.F_made.ok sc_made (fun vs H Q E h => ?_) (fun cdv A_ outer s_ H_0 vs Q E hr h => ?_)
  · obtain ⟨ms, v_sheet_here, x_sheet_here, KM, rfl, _⟩ := h
    rfl
  · obtain ⟨ms, v_sheet_here, x_sheet_here, KM, rfl, hW, h_sheet_here, hM, hQ⟩ := h
    unfold M_made at hM
    refine ⟨_, (pss_cons (ps_asg (pv 0) (pg_tup rfl (pgs_cons (pg_name (i := 1) sc_made.nd rfl (by first | exact Or.inl rfl | exact Or.inr rfl)) (pgs_cons (pg_name (i := 2) sc_made.nd rfl (by first | exact Or.inl rfl | exact Or.inr rfl)) (pgs_cons (pg_name (i := 3) sc_made.nd rfl (by first | exact Or.inl rfl | exact Or.inr rfl)) (pgs_cons (pg_name (i := 4) sc_made.nd rfl (by first | exact Or.inl rfl | exact Or.inr rfl)) pgs_nil)))))) (pss_one (ps_ret (pe_make T.mk_Rule (ok_Rule_init T) (hr.mono (by decide)) (by rfl) T.g_Rule T.b_Rule_init .nil pass0 (pa_cons (pv 1) (pa_cons (pe_make T.mk_Word (ok_Word_init T) (hr.mono (by decide)) (by rfl) T.g_Word T.b_Word_init .nil pass0 (pa_cons (pe_ix (ix_tupK (K := K) rfl) (pv 2) pe_int (fun _ _ => rfl)) (pa_cons (pe_ix (ix_tupK (K := K) rfl) (pv 2) pe_int (fun _ _ => rfl)) (pa_cons (pe_ix (ix_tupK (K := K) rfl) (pv 2) pe_int (fun _ _ => rfl)) pa_nil)))) (pa_cons (pv 3) (pa_cons (pv 4) pa_nil)))))))), ?_⟩
    refine ⟨_, rfl, ?_⟩
    apply rep_gtup h_sheet_here rfl
    intro vs1 hv2
    obtain ⟨u3, us4, rfl, h5, hv6⟩ := repL_uncons hv2
    obtain rfl := of_v h5
    obtain ⟨u7, us8, rfl, h9, hv10⟩ := repL_uncons hv6
    obtain ⟨u11, us12, rfl, h13, hv14⟩ := repL_uncons hv10
    obtain rfl := of_v h13
    obtain ⟨u15, us16, rfl, h17, hv18⟩ := repL_uncons hv14
    obtain rfl := of_v h17
    obtain rfl := repL_empty hv18
    refine ⟨_, _, rfl, ?_⟩
    refine ⟨_, _, rfl, ?_⟩
    refine ⟨_, _, rfl, ?_⟩
    refine ⟨_, _, rfl, ?_⟩
    refine ⟨rfl, ?_⟩
    refine ⟨_, rfl, ?_⟩
    refine ⟨_, rfl, ?_⟩
    apply rep_ixT 0 h9 rfl rfl
    intro u20 h19
    obtain rfl := of_v h19
    refine ⟨_, rfl, ?_⟩
    apply rep_ixT 1 h9 rfl rfl
    intro u22 h21
    obtain rfl := of_v h21
    refine ⟨_, rfl, ?_⟩
    apply rep_ixT 2 h9 rfl rfl
    intro u24 h23
    obtain rfl := of_v h23
    conv => whnf
    apply make_Word hW hM
    intro p25 H28 hM e27 h26
    replace h_sheet_here := rep_ext e27 h_sheet_here
    replace h9 := rep_ext e27 h9
    replace hW := hW.ret0 e27
    refine ⟨_, rfl, ?_⟩
    refine ⟨_, rfl, ?_⟩
    conv => whnf
    apply make_Rule_init (ms := ms) hW h26 hM
    intro p29 H33 r32 hM e31 h30
    replace h_sheet_here := rep_ext e31 h_sheet_here
    replace h9 := rep_ext e31 h9
    replace h26 := rep_ext e31 h26
    replace hW := hW.ret0 e31
    exact hQ r32 _ _ hM hW.out h30
def M_fewest (x_sheet_here : (Int × (Str × Str × Str) × Str × Bool)) (KM : Int → Prop) : Prop :=
  ((x_sheet_here.2.1.1.length + x_sheet_here.2.1.2.2.length ≤ sizeLine) ∧ ((x_sheet_here.2.1.1 ++ x_sheet_here.2.1.2.2).length ≤ sizeLine ∧ (KM (if ((x_sheet_here.2.1.1 ++ x_sheet_here.2.1.2.2).length : Int) > (1 : Int) then ((x_sheet_here.2.1.1 ++ x_sheet_here.2.1.2.2).length : Int) else (1 : Int)))))
def sp_fewest (A : Ad) : Sp := fun vs H Q _ => ∃ (ms : List Addr) (v_sheet_here : V) (x_sheet_here : (Int × (Str × Str × Str) × Str × Bool)) (KM : Int → Prop), vs = [v_sheet_here] ∧ Wd ms [] [] H H ∧ rep ms H (D.tup [(D.v (V.int x_sheet_here.1)), (D.tup [(D.v (V.str x_sheet_here.2.1.1)), (D.v (V.str x_sheet_here.2.1.2.1)), (D.v (V.str x_sheet_here.2.1.2.2))]), (D.v (V.str x_sheet_here.2.2.1)), (D.v (V.bl x_sheet_here.2.2.2))]) v_sheet_here ∧ M_fewest x_sheet_here KM ∧ ∀ (r : Int) (u : V) (H1 : Hp), KM r → Ret [] H H1 → rep ms H1 (D.v (V.int r)) u → Q u H1
set_option maxHeartbeats 16000000 in
theorem ok_fewest {P : Program} {w : World} {K : PySem.W.Frag} {mg : Str → Option Value} {base : Heap} {A : Ad} (T : Txt w K mg A) : FnOk P w K mg base CX0 1 A.a_fewest A.d_fewest ["_law_sheet_here"] (sp_fewest A) := by
  refine T.F_fewest.ok sc_fewest (fun vs H Q E h => ?_) (fun cdv A_ outer s_ H_0 vs Q E hr h => ?_)
  · obtain ⟨ms, v_sheet_here, x_sheet_here, KM, rfl, _⟩ := h
    rfl
  · obtain ⟨ms, v_sheet_here, x_sheet_here, KM, rfl, hW, h_sheet_here, hM, hQ⟩ := h
    unfold M_fewest at hM
    refine ⟨_, (pss_one (ps_ret (pe_callB (call_max2 rfl) (by rfl) T.z_max (by decide +kernel) (pa_cons pe_int (pa_cons (pe_callB call_len_str (by rfl) T.z_len PySem.boot_len (pa_cons (pe_op op_add_str (pe_ix (ix_tupK (K := K) rfl) (pe_ix (ix_tupK (K := K) rfl) (pv 0) pe_int (fun _ _ => rfl)) pe_int (fun _ _ => rfl)) (pe_ix (ix_tupK (K := K) rfl) (pe_ix (ix_tupK (K := K) rfl) (pv 0) pe_int (fun _ _ => rfl)) pe_int (fun _ _ => rfl))) pa_nil)) pa_nil))))), ?_⟩
    refine ⟨_, rfl, ?_⟩
    apply rep_ixT 1 h_sheet_here rfl rfl
    intro u2 h1
    apply rep_ixT 0 h1 rfl rfl
    intro u4 h3
    obtain rfl := of_v h3
    refine ⟨_, rfl, ?_⟩
    apply rep_ixT 1 h_sheet_here rfl rfl
    intro u6 h5
    apply rep_ixT 2 h5 rfl rfl
    intro u8 h7
    obtain rfl := of_v h7
    obtain ⟨g9, hM⟩ := hM
    refine ⟨_, _, rfl, rfl, g9, ?_⟩
    obtain ⟨g10, hM⟩ := hM
    refine ⟨_, rfl, g10, ?_⟩
    refine ⟨_, _, rfl, ?_⟩
    exact hQ (if ((x_sheet_here.2.1.1 ++ x_sheet_here.2.1.2.2).length : Int) > (1 : Int) then ((x_sheet_here.2.1.1 ++ x_sheet_here.2.1.2.2).length : Int) else (1 : Int)) _ _ hM hW.out rep_v
def M_line (x_parts : (Str × Str × Str)) (x_places : Int) (KM : Str → Prop) : Prop :=
  ((x_parts.1.length + x_parts.2.2.length ≤ sizeLine) ∧ ((x_parts.1 ++ x_parts.2.2).length ≤ sizeLine ∧ (MulOk x_parts.2.1 ((x_places - ((x_parts.1 ++ x_parts.2.2).length : Int)) + (1 : Int)) ∧ ((Txt.mul x_parts.2.1 ((x_places - ((x_parts.1 ++ x_parts.2.2).length : Int)) + (1 : Int))).length ≤ sizeLine ∧ ((x_parts.1.length + (cutS (Txt.mul x_parts.2.1 ((x_places - ((x_parts.1 ++ x_parts.2.2).length : Int)) + (1 : Int))) none (some (x_places - ((x_parts.1 ++ x_parts.2.2).length : Int)))).length ≤ sizeLine) ∧ (((x_parts.1 ++ (cutS (Txt.mul x_parts.2.1 ((x_places - ((x_parts.1 ++ x_parts.2.2).length : Int)) + (1 : Int))) none (some (x_places - ((x_parts.1 ++ x_parts.2.2).length : Int))))).length + x_parts.2.2.length ≤ sizeLine) ∧ (KM ((x_parts.1 ++ (cutS (Txt.mul x_parts.2.1 ((x_places - ((x_parts.1 ++ x_parts.2.2).length : Int)) + (1 : Int))) none (some (x_places - ((x_parts.1 ++ x_parts.2.2).length : Int))))) ++ x_parts.2.2))))))))
def sp_line (A : Ad) : Sp := fun vs H Q _ => ∃ (ms : List Addr) (v_parts : V) (x_parts : (Str × Str × Str)) (x_places : Int) (KM : Str → Prop), vs = [v_parts, V.int x_places] ∧ Wd ms [] [] H H ∧ rep ms H (D.tup [(D.v (V.str x_parts.1)), (D.v (V.str x_parts.2.1)), (D.v (V.str x_parts.2.2))]) v_parts ∧ M_line x_parts x_places KM ∧ ∀ (r : Str) (u : V) (H1 : Hp), KM r → Ret [] H H1 → rep ms H1 (D.v (V.str r)) u → Q u H1
set_option maxHeartbeats 16000000 in
theorem ok_line {P : Program} {w : World} {K : PySem.W.Frag} {mg : Str → Option Value} {base : Heap} {A : Ad} (T : Txt w K mg A) : FnOk P w K mg base CX0 1 A.a_line A.d_line ["_law_parts", "_law_places"] (sp_line A) := by
  refine T.F_line.ok sc_line (fun vs H Q E h => ?_) (fun cdv A_ outer s_ H_0 vs Q E hr h => ?_)
  · obtain ⟨ms, v_parts, x_parts, x_places, KM, rfl, _⟩ := h
    rfl
  · obtain ⟨ms, v_parts, x_parts, x_places, KM, rfl, hW, h_parts, hM, hQ⟩ := h
    unfold M_line at hM
    refine ⟨_, (pss_cons (ps_set (i := 2) sc_line.nd rfl (by first | exact Or.inl rfl | exact Or.inr rfl) (pe_op op_sub (pv 1) (pe_callB call_len_str (by rfl) T.z_len PySem.boot_len (pa_cons (pe_op op_add_str (pe_ix (ix_tupK (K := K) rfl) (pv 0) pe_int (fun _ _ => rfl)) (pe_ix (ix_tupK (K := K) rfl) (pv 0) pe_int (fun _ _ => rfl))) pa_nil)))) (pss_one (ps_ret (pe_op op_add_str (pe_op op_add_str (pe_ix (ix_tupK (K := K) rfl) (pv 0) pe_int (fun _ _ => rfl)) (pe_slice sl_str (pe_op op_mulS (pe_ix (ix_tupK (K := K) rfl) (pv 0) pe_int (fun _ _ => rfl)) (pe_op op_add (pv 2) pe_int)) po_none (po_some (pv 2)))) (pe_ix (ix_tupK (K := K) rfl) (pv 0) pe_int (fun _ _ => rfl)))))), ?_⟩
    refine ⟨_, rfl, ?_⟩
    refine ⟨_, rfl, ?_⟩
    apply rep_ixT 0 h_parts rfl rfl
    intro u2 h1
    obtain rfl := of_v h1
    refine ⟨_, rfl, ?_⟩
    apply rep_ixT 2 h_parts rfl rfl
    intro u4 h3
    obtain rfl := of_v h3
    obtain ⟨g5, hM⟩ := hM
    refine ⟨_, _, rfl, rfl, g5, ?_⟩
    obtain ⟨g6, hM⟩ := hM
    refine ⟨_, rfl, g6, ?_⟩
    refine ⟨_, _, rfl, rfl, ?_⟩
    refine ⟨_, rfl, ?_⟩
    apply rep_ixT 0 h_parts rfl rfl
    intro u8 h7
    obtain rfl := of_v h7
    refine ⟨_, rfl, ?_⟩
    apply rep_ixT 1 h_parts rfl rfl
    intro u10 h9
    obtain rfl := of_v h9
    refine ⟨_, rfl, ?_⟩
    refine ⟨_, _, rfl, rfl, ?_⟩
    obtain ⟨g11, hM⟩ := hM
    refine ⟨_, _, rfl, rfl, g11, ?_⟩
    refine ⟨_, rfl, ?_⟩
    refine ⟨_, rfl, ?_⟩
    obtain ⟨g12, hM⟩ := hM
    refine ⟨_, rfl, g12, ?_⟩
    obtain ⟨g13, hM⟩ := hM
    refine ⟨_, _, rfl, rfl, g13, ?_⟩
    refine ⟨_, rfl, ?_⟩
    apply rep_ixT 2 h_parts rfl rfl
    intro u15 h14
    obtain rfl := of_v h14
    obtain ⟨g16, hM⟩ := hM
    refine ⟨_, _, rfl, rfl, g16, ?_⟩
    exact hQ ((x_parts.1 ++ (cutS (Txt.mul x_parts.2.1 ((x_places - ((x_parts.1 ++ x_parts.2.2).length : Int)) + (1 : Int))) none (some (x_places - ((x_parts.1 ++ x_parts.2.2).length : Int))))) ++ x_parts.2.2) _ _ hM hW.out rep_v
def M_days (x_leg : (Int × Int × Bool)) (x_ring : Int) (KM : (List Int) → Prop) : Prop :=
  ((rangeI (0 : Int) x_ring).length < 100000 ∧ mapC (fun (x12 : Int) (k5 : Int → Prop) => (CMulW x_leg.2.1 x12 ∧ (0 < x_ring ∧ (k5 ((x_leg.1 + (x_leg.2.1 * x12)) % x_ring))))) (rangeI (0 : Int) x_ring) [] fun ys29 => (KM ys29))
def sp_days (A : Ad) : Sp := fun vs H Q _ => ∃ (ms : List Addr) (v_leg : V) (x_leg : (Int × Int × Bool)) (x_ring : Int) (KM : (List Int) → Prop), vs = [v_leg, V.int x_ring] ∧ Wd ms [] [] H H ∧ rep ms H (D.tup [(D.v (V.int x_leg.1)), (D.v (V.int x_leg.2.1)), (D.v (V.bl x_leg.2.2))]) v_leg ∧ M_days x_leg x_ring KM ∧ ∀ (r : (List Int)) (u : V) (H1 : Hp), KM r → Ret [] H H1 → rep ms H1 (D.lst (r.map (fun y_ : Int => (D.v (V.int y_))))) u → Q u H1
set_option maxHeartbeats 16000000 in
theorem ok_days {P : Program} {w : World} {K : PySem.W.Frag} {mg : Str → Option Value} {base : Heap} {A : Ad} (T : Txt w K mg A) : FnOk P w K mg base CX0 1 A.a_days A.d_days ["_law_leg", "_law_ring"] (sp_days A) := by
  refine T.F_days.ok sc_days (fun vs H Q E h => ?_) (fun cdv A_ outer s_ H_0 vs Q E hr h => ?_)
  · obtain ⟨ms, v_leg, x_leg, x_ring, KM, rfl, _⟩ := h
    rfl
  · obtain ⟨ms, v_leg, x_leg, x_ring, KM, rfl, hW, h_leg, hM, hQ⟩ := h
    unfold M_days at hM
    refine ⟨_, (pss_one (ps_ret (pe_lc (own := [("_law_turn", 2)]) (g := gName 2) rfl sc_days.nd (pi_rangeW1 (by rfl) T.z_range (pa_cons (pv 1) pa_nil)) (blkOk_by (N := ["_law_leg", "_law_ring", "_law_turn"]) (sc := defScope s_days) (by decide +kernel)) (fun _ _ _ _ _ => pg_name (i := 2) sc_days.nd rfl (by first | exact Or.inl rfl | exact Or.inr rfl)) (fun _ _ _ _ _ => pts_nil) (fun _ _ _ _ _ => (pe_op op_mod (pe_op op_add (pe_ix (ix_tupK (K := K) rfl) (pv 0) pe_int (fun _ _ => rfl)) (pe_op op_mulW (pe_ix (ix_tupK (K := K) rfl) (pv 0) pe_int (fun _ _ => rfl)) (pv 2))) (pv 1)))))), ?_⟩
    refine ⟨_, rfl, ?_⟩
    refine ⟨_, rfl, ?_⟩
    refine fun L1 nl2 => ?_
    have nm16 := nm_new hW nl2
    refine lc_rangeG (L := L1) (fun n_ ys_ h_ => Wd (L1 :: ms) [] [] H_0 h_ ∧ Keep (L1 :: ms) H_0 h_ ∧ MutO (L1 :: ms) [] H_0 h_ L1 (D.lst (ys_.map (fun y_ : Int => (D.v (V.int y_))))) ∧ ys_.length ≤ n_) (lo := (0 : Int)) (hi := x_ring) (N := Int.toNat x_ring) (by simp) hM ⟨wd_cell hW nl2, keep_cell nl2 Keep.refl, mo_newL (ds := []) hW nl2 repL_nil, Nat.le_refl _⟩ ?_ ?_
    · skip
      rintro x12  n3 ys4 k5 H17 hn ⟨hW, hk6, mu7, ln8⟩ hM Nx11 hN9
      replace h_leg := rep_keep hk6 (rep_new nl2 h_leg)
      refine ⟨rfl, ?_⟩
      refine tyes_of ?_
      refine ⟨_, rfl, ?_⟩
      apply rep_ixT 0 h_leg rfl rfl
      intro u19 h18
      obtain rfl := of_v h18
      refine ⟨_, rfl, ?_⟩
      apply rep_ixT 1 h_leg rfl rfl
      intro u21 h20
      obtain rfl := of_v h20
      refine ⟨_, rfl, ?_⟩
      obtain ⟨g22, hM⟩ := hM
      refine ⟨_, _, rfl, rfl, g22, ?_⟩
      refine ⟨_, _, rfl, rfl, ?_⟩
      refine ⟨_, rfl, ?_⟩
      obtain ⟨g23, hM⟩ := hM
      refine ⟨_, _, rfl, rfl, g23, ?_⟩
      refine mo_end mu7 hn (by rw [List.length_map]; exact ln8) fun vs24 hr25 => ?_
      have mk27 := mo_setL mu7 (repL_snoc (e := (fun y_ : Int => (D.v (V.int y_)))) (xs := ys4) (y := ((x_leg.1 + (x_leg.2.1 * x12)) % x_ring)) hr25 rep_v)
      replace h_leg := rep_put (o := .lst (vs24 ++ [V.int ((x_leg.1 + (x_leg.2.1 * x12)) % x_ring)])) mu7.im h_leg
      replace hk6 := keep_put (o := .lst (vs24 ++ [V.int ((x_leg.1 + (x_leg.2.1 * x12)) % x_ring)])) mu7.im hk6
      replace hW := wd_put (o := .lst (vs24 ++ [V.int ((x_leg.1 + (x_leg.2.1 * x12)) % x_ring)])) hW mu7
      replace mu7 := mk27
      generalize upd H17 L1 (.lst (vs24 ++ [V.int ((x_leg.1 + (x_leg.2.1 * x12)) % x_ring)])) = H28 at *
      replace mu7 : MutO (L1 :: ms) [] H_0 H28 L1 (D.lst ((ys4 ++ [((x_leg.1 + (x_leg.2.1 * x12)) % x_ring)]).map (fun y_ : Int => (D.v (V.int y_))))) := mu7
      clear mk27
      exact hN9 ((x_leg.1 + (x_leg.2.1 * x12)) % x_ring) _ hM ⟨hW, hk6, mu7, by rw [List.length_append]; exact Nat.add_le_add_right ln8 1⟩
    · skip
      rintro n3 ys29 H30 hM ⟨hW, hk6, mu7, ln8⟩
      replace h_leg := rep_keep hk6 (rep_new nl2 h_leg)
      clear hk6 ln8
      have h31 := mo_rep_dr dr_here nm16 mu7
      replace hW := wd_dr dr_here mu7.hp hW
      replace h_leg := rep_dr dr_here h_leg
      clear mu7
      exact hQ ys29 _ _ hM hW.out h31
def M_host (x_host_here : Str) (x_day_now : Int) (KM : Str → Prop) : Prop :=
  (if (inV (V.str x_host_here) (([("home" : Str), ("away" : Str)] : List Str).map V.str)) = true then (∃ KB7 : Str → Prop, (if (decide (V.str x_host_here = V.str ("home" : Str))) = true then (KB7 ("h" : Str)) else (KB7 ("a" : Str))) ∧ ∀ r10 : Str, KB7 r10 → (KM r10)) else (∃ KB13 : Str → Prop, (if (decide (V.bl (decide (V.int (x_day_now % (2 : Int)) = V.int (0 : Int))) = V.bl (decide (V.str x_host_here = V.str ("even" : Str))))) = true then (KB13 ("h" : Str)) else (KB13 ("a" : Str))) ∧ ∀ r16 : Str, KB13 r16 → (KM r16)))
def sp_host (A : Ad) : Sp := fun vs H Q _ => ∃ (ms : List Addr) (x_host_here : Str) (x_day_now : Int) (KM : Str → Prop), vs = [V.str x_host_here, V.int x_day_now] ∧ Wd ms [] [] H H ∧ M_host x_host_here x_day_now KM ∧ ∀ (r : Str) (u : V) (H1 : Hp), KM r → Ret [] H H1 → rep ms H1 (D.v (V.str r)) u → Q u H1
set_option maxHeartbeats 16000000 in
theorem ok_host {P : Program} {w : World} {K : PySem.W.Frag} {mg : Str → Option Value} {base : Heap} {A : Ad} (T : Txt w K mg A) : FnOk P w K mg base CX0 1 A.a_host A.d_host ["_law_host_here", "_law_day_now"] (sp_host A) := by
  refine T.F_host.ok sc_host (fun vs H Q E h => ?_) (fun cdv A_ outer s_ H_0 vs Q E hr h => ?_)
  · obtain ⟨ms, x_host_here, x_day_now, KM, rfl, _⟩ := h
    rfl
  · obtain ⟨ms, x_host_here, x_day_now, KM, rfl, hW, hM, hQ⟩ := h
    unfold M_host at hM
    refine ⟨_, (pss_cons (ps_if (pt_cmpR (op_inSK (K := K) rfl) (pv 0) (pe_tup (pa_cons pe_str (pa_cons pe_str pa_nil))) (by rfl)) (pss_one (ps_ret (pe_up (pe_ifExp (pt_cmpR op_eq (pv 0) pe_str (nomark _)) pe_str pe_str)))) pss_nil) (pss_one (ps_ret (pe_up (pe_ifExp (pt_cmpR op_eq (pe_cmpR op_eq (pe_op op_mod (pv 1) pe_int) pe_int (nomark _)) (pe_cmpR op_eq (pv 0) pe_str (nomark _)) (nomark _)) pe_str pe_str))))), ?_⟩
    refine ⟨_, rfl, ?_⟩
    refine ⟨(by show 2 ≤ sizeLine; decide), ?_⟩
    intro p1 n5
    have e2 := Rx.Ext.new (H := H_0) (o := (HO.tup [V.str ("home" : Str), V.str ("away" : Str)])) n5
    have hp3 : upd H_0 p1 (HO.tup [V.str ("home" : Str), V.str ("away" : Str)]) p1 = some (HO.tup [V.str ("home" : Str), V.str ("away" : Str)]) := upd_same
    generalize upd H_0 p1 (HO.tup [V.str ("home" : Str), V.str ("away" : Str)]) = H6 at e2 hp3 ⊢
    have h4 : rep ms H6 (D.tup [(D.v (V.str ("home" : Str))), (D.v (V.str ("away" : Str)))]) (.ref p1) := rep_tup_mk hW n5 e2 hp3 (repL_cons rep_v (repL_cons rep_v repL_nil))
    replace hW := hW.ret0 e2
    apply rep_inT (f := V.str) (xs := ([("home" : Str), ("away" : Str)] : List Str)) h4 rfl (fun _ => rfl)
    refine ⟨_, rfl, ?_⟩
    refine ite3 hM (fun hM => ?_) (fun hM => ?_)
    · skip
      obtain ⟨KB7, hM, hKKB7⟩ := hM
      refine ⟨fun v H1 => ∃ r : Str, KB7 r ∧ Wd ms [] [] H_0 H1 ∧ Keep ms H6 H1 ∧ rep ms H1 (D.v (V.str r)) v, ?_, ?_⟩
      · skip
        have hj9 := Keep.refl (ms := ms) (H := H6)
        refine ⟨_, rfl, ?_⟩
        refine ⟨rfl, ?_⟩
        refine ⟨_, rfl, ?_⟩
        refine ite3 hM (fun hM => ?_) (fun hM => ?_)
        · skip
          exact ⟨("h" : Str), hM, hW, hj9, rep_v⟩
        · skip
          exact ⟨("a" : Str), hM, hW, hj9, rep_v⟩
      · skip
        rintro u12 Hj8 ⟨r10, hr, hW, hj9, h11⟩
        replace hM := hKKB7 r10 hr
        replace h4 := rep_keep hj9 h4
        obtain rfl := of_v h11
        exact hQ r10 _ _ hM hW.out rep_v
    · skip
      obtain ⟨KB13, hM, hKKB13⟩ := hM
      refine ⟨fun v H1 => ∃ r : Str, KB13 r ∧ Wd ms [] [] H_0 H1 ∧ Keep ms H6 H1 ∧ rep ms H1 (D.v (V.str r)) v, ?_, ?_⟩
      · skip
        have hj15 := Keep.refl (ms := ms) (H := H6)
        refine ⟨_, rfl, ?_⟩
        refine ⟨_, _, rfl, rfl, (by show (0 : Int) < (2 : Int); decide), ?_⟩
        refine ⟨rfl, ?_⟩
        refine ⟨_, rfl, ?_⟩
        refine ⟨rfl, ?_⟩
        refine ⟨rfl, ?_⟩
        refine ⟨_, rfl, ?_⟩
        refine ite3 hM (fun hM => ?_) (fun hM => ?_)
        · skip
          exact ⟨("h" : Str), hM, hW, hj15, rep_v⟩
        · skip
          exact ⟨("a" : Str), hM, hW, hj15, rep_v⟩
      · skip
        rintro u18 Hj14 ⟨r16, hr, hW, hj15, h17⟩
        replace hM := hKKB13 r16 hr
        replace h4 := rep_keep hj15 h4
        obtain rfl := of_v h17
        exact hQ r16 _ _ hM hW.out rep_v
def M_contrary (x_sign_here : Str) (KM : Str → Prop) : Prop :=
  (∃ KB1 : Str → Prop, (if (decide (V.str x_sign_here = V.str ("h" : Str))) = true then (KB1 ("a" : Str)) else (KB1 ("h" : Str))) ∧ ∀ r4 : Str, KB1 r4 → (KM r4))
def sp_contrary (A : Ad) : Sp := fun vs H Q _ => ∃ (ms : List Addr) (x_sign_here : Str) (KM : Str → Prop), vs = [V.str x_sign_here] ∧ Wd ms [] [] H H ∧ M_contrary x_sign_here KM ∧ ∀ (r : Str) (u : V) (H1 : Hp), KM r → Ret [] H H1 → rep ms H1 (D.v (V.str r)) u → Q u H1
set_option maxHeartbeats 16000000 in
theorem ok_contrary {P : Program} {w : World} {K : PySem.W.Frag} {mg : Str → Option Value} {base : Heap} {A : Ad} (T : Txt w K mg A) : FnOk P w K mg base CX0 1 A.a_contrary A.d_contrary ["_law_sign_here"] (sp_contrary A) := by
  refine T.F_contrary.ok sc_contrary (fun vs H Q E h => ?_) (fun cdv A_ outer s_ H_0 vs Q E hr h => ?_)
  · obtain ⟨ms, x_sign_here, KM, rfl, _⟩ := h
    rfl
  · obtain ⟨ms, x_sign_here, KM, rfl, hW, hM, hQ⟩ := h
    unfold M_contrary at hM
    refine ⟨_, (pss_one (ps_ret (pe_up (pe_ifExp (pt_cmpR op_eq (pv 0) pe_str (nomark _)) pe_str pe_str)))), ?_⟩
    obtain ⟨KB1, hM, hKKB1⟩ := hM
    refine ⟨fun v H1 => ∃ r : Str, KB1 r ∧ Wd ms [] [] H_0 H1 ∧ Keep ms H_0 H1 ∧ rep ms H1 (D.v (V.str r)) v, ?_, ?_⟩
    · skip
      have hj3 := Keep.refl (ms := ms) (H := H_0)
      refine ⟨_, rfl, ?_⟩
      refine ⟨rfl, ?_⟩
      refine ⟨_, rfl, ?_⟩
      refine ite3 hM (fun hM => ?_) (fun hM => ?_)
      · skip
        exact ⟨("a" : Str), hM, hW, hj3, rep_v⟩
      · skip
        exact ⟨("h" : Str), hM, hW, hj3, rep_v⟩
    · skip
      rintro u6 Hj2 ⟨r4, hr, hW, hj3, h5⟩
      replace hM := hKKB1 r4 hr
      obtain rfl := of_v h5
      exact hQ r4 _ _ hM hW.out rep_v
def M_sign (x_sheet_here : (Int × (Str × Str × Str) × Str × Bool)) (x_line_here : Str) (x_ring : Int) (x_who : Int) (x_day_now : Int) (KM : Str → Prop) : Prop :=
  (if (decide (V.int x_who = V.int x_ring)) = true then (M_host x_sheet_here.2.2.1 x_day_now fun r19 => (KM r19)) else (CMulW x_sheet_here.1 x_day_now ∧ (0 < x_ring ∧ (if (decide (V.int ((x_who - (x_sheet_here.1 * x_day_now)) % x_ring) = V.int (0 : Int))) = true then (M_host x_sheet_here.2.2.1 x_day_now fun r26 => (M_contrary r26 fun r31 => (KM r31))) else (∃ KB36 : Str → Prop, (if (decide (x_ring < ((2 : Int) * ((x_who - (x_sheet_here.1 * x_day_now)) % x_ring)))) = true then (x_line_here.length ≤ sizeLine ∧ ∃ c40, atI x_line_here.cps.toList ((x_ring - ((x_who - (x_sheet_here.1 * x_day_now)) % x_ring)) - (1 : Int)) = some c40 ∧ (KB36 (Str.mk #[c40]))) else (x_line_here.length ≤ sizeLine ∧ ∃ c42, atI x_line_here.cps.toList (((x_who - (x_sheet_here.1 * x_day_now)) % x_ring) - (1 : Int)) = some c42 ∧ (KB36 (Str.mk #[c42])))) ∧ ∀ r43 : Str, KB36 r43 → (∃ KB46 : Str → Prop, (if x_sheet_here.2.2.2 = true then (if (!(decide (V.bl (decide (x_ring < ((2 : Int) * ((x_who - (x_sheet_here.1 * x_day_now)) % x_ring)))) = V.bl (decide (V.int (x_day_now % (2 : Int)) = V.int (1 : Int)))))) = true then (M_contrary r43 fun r49 => (KB46 r49)) else (KB46 r43)) else (if (!(decide (V.bl (decide (x_ring < ((2 : Int) * ((x_who - (x_sheet_here.1 * x_day_now)) % x_ring)))) = V.bl false))) = true then (M_contrary r43 fun r54 => (KB46 r54)) else (KB46 r43))) ∧ ∀ r59 : Str, KB46 r59 → (KM r59)))))))
def sp_sign (A : Ad) : Sp := fun vs H Q _ => ∃ (ms : List Addr) (v_sheet_here : V) (x_sheet_here : (Int × (Str × Str × Str) × Str × Bool)) (x_line_here : Str) (x_ring : Int) (x_who : Int) (x_day_now : Int) (KM : Str → Prop), vs = [v_sheet_here, V.str x_line_here, V.int x_ring, V.int x_who, V.int x_day_now] ∧ Wd ms [] [] H H ∧ rep ms H (D.tup [(D.v (V.int x_sheet_here.1)), (D.tup [(D.v (V.str x_sheet_here.2.1.1)), (D.v (V.str x_sheet_here.2.1.2.1)), (D.v (V.str x_sheet_here.2.1.2.2))]), (D.v (V.str x_sheet_here.2.2.1)), (D.v (V.bl x_sheet_here.2.2.2))]) v_sheet_here ∧ M_sign x_sheet_here x_line_here x_ring x_who x_day_now KM ∧ ∀ (r : Str) (u : V) (H1 : Hp), KM r → Ret [] H H1 → rep ms H1 (D.v (V.str r)) u → Q u H1
set_option maxHeartbeats 16000000 in
theorem ok_sign {P : Program} {w : World} {K : PySem.W.Frag} {mg : Str → Option Value} {base : Heap} {A : Ad} (T : Txt w K mg A) : FnOk P w K mg base CX0 2 A.a_sign A.d_sign ["_law_sheet_here", "_law_line_here", "_law_ring", "_law_who", "_law_day_now"] (sp_sign A) := by
  refine T.F_sign.ok sc_sign (fun vs H Q E h => ?_) (fun cdv A_ outer s_ H_0 vs Q E hr h => ?_)
  · obtain ⟨ms, v_sheet_here, x_sheet_here, x_line_here, x_ring, x_who, x_day_now, KM, rfl, _⟩ := h
    rfl
  · obtain ⟨ms, v_sheet_here, x_sheet_here, x_line_here, x_ring, x_who, x_day_now, KM, rfl, hW, h_sheet_here, hM, hQ⟩ := h
    unfold M_sign at hM
    refine ⟨_, (pss_cons (ps_asg (pv 0) (pg_tup rfl (pgs_cons (pg_name (i := 5) sc_sign.nd rfl (by first | exact Or.inl rfl | exact Or.inr rfl)) (pgs_cons (pg_name (i := 6) sc_sign.nd rfl (by first | exact Or.inl rfl | exact Or.inr rfl)) (pgs_cons (pg_name (i := 7) sc_sign.nd rfl (by first | exact Or.inl rfl | exact Or.inr rfl)) (pgs_cons (pg_name (i := 8) sc_sign.nd rfl (by first | exact Or.inl rfl | exact Or.inr rfl)) pgs_nil)))))) (pss_cons (ps_if (pt_cmpR op_eq (pv 3) (pv 2) (nomark _)) (pss_one (ps_ret (pe_call (ok_host T) (hr.mono (by decide)) (by rfl) T.g_host T.F_host.kp T.b_host .nil pass0 (pa_cons (pv 7) (pa_cons (pv 4) pa_nil))))) pss_nil) (pss_cons (ps_set (i := 9) sc_sign.nd rfl (by first | exact Or.inl rfl | exact Or.inr rfl) (pe_op op_mod (pe_op op_sub (pv 3) (pe_op op_mulW (pv 5) (pv 4))) (pv 2))) (pss_cons (ps_if (pt_cmpR op_eq (pv 9) pe_int (nomark _)) (pss_one (ps_ret (pe_call (ok_contrary T) (hr.mono (by decide)) (by rfl) T.g_contrary T.F_contrary.kp T.b_contrary .nil pass0 (pa_cons (pe_call (ok_host T) (hr.mono (by decide)) (by rfl) T.g_host T.F_host.kp T.b_host .nil pass0 (pa_cons (pv 7) (pa_cons (pv 4) pa_nil))) pa_nil)))) pss_nil) (pss_cons (ps_set (i := 10) sc_sign.nd rfl (by first | exact Or.inl rfl | exact Or.inr rfl) (pe_cmpR op_gt (pe_op op_mul pe_int (pv 9)) (pv 2) (nomark _))) (pss_cons (ps_set (i := 11) sc_sign.nd rfl (by first | exact Or.inl rfl | exact Or.inr rfl) (pe_up (pe_ifExp (pt_val (pv 10)) (pe_ix ix_str (pv 1) (pe_op op_sub (pe_op op_sub (pv 2) (pv 9)) pe_int) (fun _ _ => rfl)) (pe_ix ix_str (pv 1) (pe_op op_sub (pv 9) pe_int) (fun _ _ => rfl))))) (pss_one (ps_ret (pe_up (pe_ifExp (pt_cmpR op_ne (pv 10) (pe_and (pv 8) (pe_one (pe_cmpR op_eq (pe_op op_mod (pv 4) pe_int) pe_int (nomark _)))) (nomark _)) (pe_call (ok_contrary T) (hr.mono (by decide)) (by rfl) T.g_contrary T.F_contrary.kp T.b_contrary .nil pass0 (pa_cons (pv 11) pa_nil)) (pv 11))))))))))), ?_⟩
    refine ⟨_, rfl, ?_⟩
    apply rep_gtup h_sheet_here rfl
    intro vs1 hv2
    obtain ⟨u3, us4, rfl, h5, hv6⟩ := repL_uncons hv2
    obtain rfl := of_v h5
    obtain ⟨u7, us8, rfl, h9, hv10⟩ := repL_uncons hv6
    obtain ⟨u11, us12, rfl, h13, hv14⟩ := repL_uncons hv10
    obtain rfl := of_v h13
    obtain ⟨u15, us16, rfl, h17, hv18⟩ := repL_uncons hv14
    obtain rfl := of_v h17
    obtain rfl := repL_empty hv18
    refine ⟨_, _, rfl, ?_⟩
    refine ⟨_, _, rfl, ?_⟩
    refine ⟨_, _, rfl, ?_⟩
    refine ⟨_, _, rfl, ?_⟩
    refine ⟨rfl, ?_⟩
    refine ⟨_, rfl, ?_⟩
    refine ⟨_, rfl, ?_⟩
    refine ⟨rfl, ?_⟩
    refine ⟨_, rfl, ?_⟩
    refine ite3 hM (fun hM => ?_) (fun hM => ?_)
    · skip
      refine ⟨_, rfl, ?_⟩
      refine ⟨_, rfl, ?_⟩
      refine ⟨ms, x_sheet_here.2.2.1, x_day_now, _, rfl, hW.enter0, hM, fun r19 u22 H23 hM e21 h20 => ?_⟩
      replace h_sheet_here := rep_ext e21 h_sheet_here
      replace h9 := rep_ext e21 h9
      replace hW := hW.ret0 e21
      obtain rfl := of_v h20
      exact hQ r19 _ _ hM hW.out rep_v
    · skip
      refine ⟨_, rfl, ?_⟩
      refine ⟨_, rfl, ?_⟩
      refine ⟨_, rfl, ?_⟩
      obtain ⟨g24, hM⟩ := hM
      refine ⟨_, _, rfl, rfl, g24, ?_⟩
      refine ⟨_, _, rfl, rfl, ?_⟩
      refine ⟨_, rfl, ?_⟩
      obtain ⟨g25, hM⟩ := hM
      refine ⟨_, _, rfl, rfl, g25, ?_⟩
      refine ⟨_, rfl, ?_⟩
      refine ⟨rfl, ?_⟩
      refine ⟨_, rfl, ?_⟩
      refine ite3 hM (fun hM => ?_) (fun hM => ?_)
      · skip
        refine ⟨_, rfl, ?_⟩
        refine ⟨_, rfl, ?_⟩
        refine ⟨ms, x_sheet_here.2.2.1, x_day_now, _, rfl, hW.enter0, hM, fun r26 u29 H30 hM e28 h27 => ?_⟩
        replace h_sheet_here := rep_ext e28 h_sheet_here
        replace h9 := rep_ext e28 h9
        replace hW := hW.ret0 e28
        obtain rfl := of_v h27
        refine ⟨ms, r26, _, rfl, hW.enter0, hM, fun r31 u34 H35 hM e33 h32 => ?_⟩
        replace h_sheet_here := rep_ext e33 h_sheet_here
        replace h9 := rep_ext e33 h9
        replace hW := hW.ret0 e33
        obtain rfl := of_v h32
        exact hQ r31 _ _ hM hW.out rep_v
      · skip
        refine ⟨_, rfl, ?_⟩
        refine ⟨_, _, rfl, rfl, .inl ⟨by decide, by decide⟩, ?_⟩
        refine ⟨_, rfl, ?_⟩
        refine ⟨_, _, rfl, rfl, ?_⟩
        obtain ⟨KB36, hM, hKKB36⟩ := hM
        refine ⟨fun v H1 => ∃ r : Str, KB36 r ∧ Wd ms [] [] H_0 H1 ∧ Keep ms H_0 H1 ∧ rep ms H1 (D.v (V.str r)) v, ?_, ?_⟩
        · skip
          have hj38 := Keep.refl (ms := ms) (H := H_0)
          refine ⟨_, rfl, ?_⟩
          refine ⟨_, rfl, ?_⟩
          refine ite3 hM (fun hM => ?_) (fun hM => ?_)
          · skip
            refine ⟨_, rfl, ?_⟩
            refine ⟨_, rfl, ?_⟩
            refine ⟨_, rfl, ?_⟩
            refine ⟨_, _, rfl, rfl, ?_⟩
            refine ⟨_, _, rfl, rfl, ?_⟩
            obtain ⟨g39, hM⟩ := hM
            obtain ⟨c40, c40h, hM⟩ := hM
            refine ⟨_, _, _, rfl, rfl, g39, c40h, ?_⟩
            exact ⟨(Str.mk #[c40]), hM, hW, hj38, rep_v⟩
          · skip
            refine ⟨_, rfl, ?_⟩
            refine ⟨_, rfl, ?_⟩
            refine ⟨_, _, rfl, rfl, ?_⟩
            obtain ⟨g41, hM⟩ := hM
            obtain ⟨c42, c42h, hM⟩ := hM
            refine ⟨_, _, _, rfl, rfl, g41, c42h, ?_⟩
            exact ⟨(Str.mk #[c42]), hM, hW, hj38, rep_v⟩
        · skip
          rintro u45 Hj37 ⟨r43, hr, hW, hj38, h44⟩
          replace hM := hKKB36 r43 hr
          replace h_sheet_here := rep_keep hj38 h_sheet_here
          replace h9 := rep_keep hj38 h9
          obtain rfl := of_v h44
          obtain ⟨KB46, hM, hKKB46⟩ := hM
          refine ⟨fun v H1 => ∃ r : Str, KB46 r ∧ Wd ms [] [] H_0 H1 ∧ Keep ms Hj37 H1 ∧ rep ms H1 (D.v (V.str r)) v, ?_, ?_⟩
          · skip
            have hj48 := Keep.refl (ms := ms) (H := Hj37)
            refine ⟨_, rfl, ?_⟩
            refine ⟨_, rfl, ?_⟩
            refine ⟨_, rfl, ?_⟩
            refine ite3 hM (fun hM => ?_) (fun hM => ?_)
            · skip
              refine ⟨_, rfl, ?_⟩
              refine ⟨_, _, rfl, rfl, (by show (0 : Int) < (2 : Int); decide), ?_⟩
              refine ⟨rfl, ?_⟩
              refine ⟨rfl, ?_⟩
              refine ⟨_, rfl, ?_⟩
              refine ite3 hM (fun hM => ?_) (fun hM => ?_)
              · skip
                refine ⟨_, rfl, ?_⟩
                refine ⟨ms, r43, _, rfl, hW.enter0, hM, fun r49 u52 H53 hM e51 h50 => ?_⟩
                replace h_sheet_here := rep_ext e51 h_sheet_here
                replace h9 := rep_ext e51 h9
                replace hj48 := keep_ext e51 hj48
                replace hW := hW.ret0 e51
                obtain rfl := of_v h50
                exact ⟨r49, hM, hW, hj48, rep_v⟩
              · skip
                refine ⟨_, rfl, ?_⟩
                exact ⟨r43, hM, hW, hj48, rep_v⟩
            · skip
              refine ⟨rfl, ?_⟩
              refine ⟨_, rfl, ?_⟩
              refine ite3 hM (fun hM => ?_) (fun hM => ?_)
              · skip
                refine ⟨_, rfl, ?_⟩
                refine ⟨ms, r43, _, rfl, hW.enter0, hM, fun r54 u57 H58 hM e56 h55 => ?_⟩
                replace h_sheet_here := rep_ext e56 h_sheet_here
                replace h9 := rep_ext e56 h9
                replace hj48 := keep_ext e56 hj48
                replace hW := hW.ret0 e56
                obtain rfl := of_v h55
                exact ⟨r54, hM, hW, hj48, rep_v⟩
              · skip
                refine ⟨_, rfl, ?_⟩
                exact ⟨r43, hM, hW, hj48, rep_v⟩
          · skip
            rintro u61 Hj47 ⟨r59, hr, hW, hj48, h60⟩
            replace hM := hKKB46 r59 hr
            replace h_sheet_here := rep_keep hj48 h_sheet_here
            replace h9 := rep_keep hj48 h9
            obtain rfl := of_v h60
            exact hQ r59 _ _ hM hW.out rep_v
def M_Word_least (x_self : (Str × Str × Str)) (KM : Int → Prop) : Prop :=
  (x_self.1.length ≤ sizeLine ∧ (x_self.2.2.length ≤ sizeLine ∧ (KM (if ((x_self.1.length : Int) + (x_self.2.2.length : Int)) > (1 : Int) then ((x_self.1.length : Int) + (x_self.2.2.length : Int)) else (1 : Int)))))
def sp_Word_least (A : Ad) : Sp := fun vs H Q _ => ∃ (ms : List Addr) (v_self : V) (x_self : (Str × Str × Str)) (KM : Int → Prop), vs = [v_self] ∧ Wd ms [] [] H H ∧ rep ms H (eWord A x_self) v_self ∧ M_Word_least x_self KM ∧ ∀ (r : Int) (u : V) (H1 : Hp), KM r → Ret [] H H1 → rep ms H1 (D.v (V.int r)) u → Q u H1
set_option maxHeartbeats 16000000 in
theorem ok_Word_least {P : Program} {w : World} {K : PySem.W.Frag} {mg : Str → Option Value} {base : Heap} {A : Ad} (T : Txt w K mg A) : FnOk P w K mg base CX0 1 A.a_Word_least A.d_Word_least ["self"] (sp_Word_least A) := by
  refine T.F_Word_least.ok sc_Word_least (fun vs H Q E h => ?_) (fun cdv A_ outer s_ H_0 vs Q E hr h => ?_)
  · obtain ⟨ms, v_self, x_self, KM, rfl, _⟩ := h
    rfl
  · obtain ⟨ms, v_self, x_self, KM, rfl, hW, h_self, hM, hQ⟩ := h
    unfold M_Word_least at hM
    refine ⟨_, (pss_one (ps_ret (pe_callB (call_max2 rfl) (by rfl) T.z_max (by decide +kernel) (pa_cons pe_int (pa_cons (pe_op op_add (pe_callB call_len_str (by rfl) T.z_len PySem.boot_len (pa_cons (pe_fld (pv 0) rfl) pa_nil)) (pe_callB call_len_str (by rfl) T.z_len PySem.boot_len (pa_cons (pe_fld (pv 0) rfl) pa_nil))) pa_nil))))), ?_⟩
    refine ⟨_, rfl, ?_⟩
    apply rep_fld (j := 0) h_self T.cl_Word T.na_Word__head nd_Word rfl rfl
    intro u2 h1
    obtain rfl := of_v h1
    obtain ⟨g3, hM⟩ := hM
    refine ⟨_, rfl, g3, ?_⟩
    refine ⟨_, rfl, ?_⟩
    apply rep_fld (j := 2) h_self T.cl_Word T.na_Word__tail nd_Word rfl rfl
    intro u5 h4
    obtain rfl := of_v h4
    obtain ⟨g6, hM⟩ := hM
    refine ⟨_, rfl, g6, ?_⟩
    refine ⟨_, _, rfl, rfl, ?_⟩
    refine ⟨_, _, rfl, ?_⟩
    exact hQ (if ((x_self.1.length : Int) + (x_self.2.2.length : Int)) > (1 : Int) then ((x_self.1.length : Int) + (x_self.2.2.length : Int)) else (1 : Int)) _ _ hM hW.out rep_v
def M_Rule_least_size (x_self : (Int × (Str × Str × Str) × Str × Bool)) (KM : Int → Prop) : Prop :=
  (M_Word_least x_self.2.1 fun r4 => (KM (((2 : Int) * r4) + (2 : Int))))
def sp_Rule_least_size (A : Ad) : Sp := fun vs H Q _ => ∃ (ms : List Addr) (v_self : V) (x_self : (Int × (Str × Str × Str) × Str × Bool)) (KM : Int → Prop), vs = [v_self] ∧ Wd ms [] [] H H ∧ rep ms H (eRule A x_self) v_self ∧ M_Rule_least_size x_self KM ∧ ∀ (r : Int) (u : V) (H1 : Hp), KM r → Ret [] H H1 → rep ms H1 (D.v (V.int r)) u → Q u H1
set_option maxHeartbeats 16000000 in
theorem ok_Rule_least_size {P : Program} {w : World} {K : PySem.W.Frag} {mg : Str → Option Value} {base : Heap} {A : Ad} (T : Txt w K mg A) : FnOk P w K mg base CX0 3 A.a_Rule_least_size A.d_Rule_least_size ["self"] (sp_Rule_least_size A) := by
  refine T.F_Rule_least_size.ok sc_Rule_least_size (fun vs H Q E h => ?_) (fun cdv A_ outer s_ H_0 vs Q E hr h => ?_)
  · obtain ⟨ms, v_self, x_self, KM, rfl, _⟩ := h
    rfl
  · obtain ⟨ms, v_self, x_self, KM, rfl, hW, h_self, hM, hQ⟩ := h
    unfold M_Rule_least_size at hM
    refine ⟨_, (pss_one (ps_ret (pe_op op_add (pe_op op_mul pe_int (pe_prop (pe_fld (pv 0) rfl) T.cl_Word T.p_Word_least (ok_Word_least T) (hr.mono (by decide)) T.b_Word_least .nil pass0 rfl)) pe_int))), ?_⟩
    refine ⟨_, rfl, ?_⟩
    apply rep_fld (j := 1) h_self T.cl_Rule T.na_Rule__word nd_Rule rfl rfl
    intro u2 h1
    apply rep_prop h1
    intro _ h3
    refine ⟨ms, _, x_self.2.1, _, rfl, hW.enter0, h3, hM, fun r4 u7 H8 hM e6 h5 => ?_⟩
    replace h_self := rep_ext e6 h_self
    replace h1 := rep_ext e6 h1
    replace hW := hW.ret0 e6
    obtain rfl := of_v h5
    refine ⟨_, _, rfl, rfl, .inl ⟨by decide, by decide⟩, ?_⟩
    refine ⟨_, _, rfl, rfl, ?_⟩
    exact hQ (((2 : Int) * r4) + (2 : Int)) _ _ hM hW.out rep_v
def M_is_size (x_rule : (Int × (Str × Str × Str) × Str × Bool)) (x_value : Int) (KM : Bool → Prop) : Prop :=
  (M_is_integer x_value fun r1 => (if r1 = true then (M_Rule_least_size x_rule fun r7 => (if (decide (r7 ≤ x_value)) = true then (KM (decide (V.int (x_value % (2 : Int)) = V.int (0 : Int)))) else (KM false))) else (KM false)))
def sp_is_size (A : Ad) : Sp := fun vs H Q _ => ∃ (ms : List Addr) (v_rule : V) (x_rule : (Int × (Str × Str × Str) × Str × Bool)) (x_value : Int) (KM : Bool → Prop), vs = [v_rule, V.int x_value] ∧ Wd ms [] [] H H ∧ rep ms H (eRule A x_rule) v_rule ∧ M_is_size x_rule x_value KM ∧ ∀ (r : Bool) (u : V) (H1 : Hp), KM r → Ret [] H H1 → rep ms H1 (D.v (V.bl r)) u → Q u H1
set_option maxHeartbeats 16000000 in
theorem ok_is_size {P : Program} {w : World} {K : PySem.W.Frag} {mg : Str → Option Value} {base : Heap} {A : Ad} (T : Txt w K mg A) : FnOk P w K mg base CX0 5 A.a_is_size A.d_is_size ["rule", "value"] (sp_is_size A) := by
  refine T.F_is_size.ok sc_is_size (fun vs H Q E h => ?_) (fun cdv A_ outer s_ H_0 vs Q E hr h => ?_)
  · obtain ⟨ms, v_rule, x_rule, x_value, KM, rfl, _⟩ := h
    rfl
  · obtain ⟨ms, v_rule, x_rule, x_value, KM, rfl, hW, h_rule, hM, hQ⟩ := h
    unfold M_is_size at hM
    refine ⟨_, (pss_one (ps_ret (pe_and (pe_call (ok_is_integer T) (hr.mono (by decide)) (by rfl) T.g_is_integer T.F_is_integer.kp T.b_is_integer .nil pass0 (pa_cons (pv 1) pa_nil)) (pe_and (pe_cmpR op_ge (pv 1) (pe_prop (pv 0) T.cl_Rule T.p_Rule_least_size (ok_Rule_least_size T) (hr.mono (by decide)) T.b_Rule_least_size .nil pass0 rfl) (nomark _)) (pe_one (pe_cmpR op_eq (pe_op op_mod (pv 1) pe_int) pe_int (nomark _))))))), ?_⟩
    refine ⟨_, rfl, ?_⟩
    refine ⟨ms, x_value, _, rfl, hW.enter0, hM, fun r1 u4 H5 hM e3 h2 => ?_⟩
    replace h_rule := rep_ext e3 h_rule
    replace hW := hW.ret0 e3
    obtain rfl := of_v h2
    refine ⟨_, rfl, ?_⟩
    refine ite3 hM (fun hM => ?_) (fun hM => ?_)
    · skip
      refine ⟨_, rfl, ?_⟩
      refine ⟨_, rfl, ?_⟩
      apply rep_prop h_rule
      intro _ h6
      refine ⟨ms, _, x_rule, _, rfl, hW.enter0, h6, hM, fun r7 u10 H11 hM e9 h8 => ?_⟩
      replace h_rule := rep_ext e9 h_rule
      replace hW := hW.ret0 e9
      obtain rfl := of_v h8
      refine ⟨_, _, rfl, rfl, ?_⟩
      refine ⟨_, rfl, ?_⟩
      refine ite3 hM (fun hM => ?_) (fun hM => ?_)
      · skip
        refine ⟨_, rfl, ?_⟩
        refine ⟨_, _, rfl, rfl, (by show (0 : Int) < (2 : Int); decide), ?_⟩
        refine ⟨rfl, ?_⟩
        exact hQ (decide (V.int (x_value % (2 : Int)) = V.int (0 : Int))) _ _ hM hW.out rep_v
      · skip
        exact hQ false _ _ hM hW.out rep_v
    · skip
      exact hQ false _ _ hM hW.out rep_v
def M_check_size (x_rule : (Int × (Str × Str × Str) × Str × Bool)) (x_size : Int) (KM : Unit → Prop) : Prop :=
  (M_is_size x_rule x_size fun r1 => (if (!r1) = true then False else (KM ())))
def sp_check_size (A : Ad) : Sp := fun vs H Q _ => ∃ (ms : List Addr) (v_rule : V) (x_rule : (Int × (Str × Str × Str) × Str × Bool)) (x_size : Int) (KM : Unit → Prop), vs = [v_rule, V.int x_size] ∧ Wd ms [] [] H H ∧ rep ms H (eRule A x_rule) v_rule ∧ M_check_size x_rule x_size KM ∧ ∀ (r : Unit) (u : V) (H1 : Hp), KM r → Ret [] H H1 → rep ms H1 (D.v V.non) u → Q u H1
set_option maxHeartbeats 16000000 in
theorem ok_check_size {P : Program} {w : World} {K : PySem.W.Frag} {mg : Str → Option Value} {base : Heap} {A : Ad} (T : Txt w K mg A) : FnOk P w K mg base CX0 6 A.a_check_size A.d_check_size ["rule", "size"] (sp_check_size A) := by
  refine T.F_check_size.ok sc_check_size (fun vs H Q E h => ?_) (fun cdv A_ outer s_ H_0 vs Q E hr h => ?_)
  · obtain ⟨ms, v_rule, x_rule, x_size, KM, rfl, _⟩ := h
    rfl
  · obtain ⟨ms, v_rule, x_rule, x_size, KM, rfl, hW, h_rule, hM, hQ⟩ := h
    unfold M_check_size at hM
    refine ⟨_, (pss_one (ps_if (pt_not (pt_val (pe_call (ok_is_size T) (hr.mono (by decide)) (by rfl) T.g_is_size T.F_is_size.kp T.b_is_size .nil pass0 (pa_cons (pv 0) (pa_cons (pv 1) pa_nil))))) (pss_one ps_never) pss_nil)), ?_⟩
    refine ⟨_, rfl, ?_⟩
    refine ⟨_, rfl, ?_⟩
    refine ⟨ms, _, x_rule, x_size, _, rfl, hW.enter0, h_rule, hM, fun r1 u4 H5 hM e3 h2 => ?_⟩
    replace h_rule := rep_ext e3 h_rule
    replace hW := hW.ret0 e3
    obtain rfl := of_v h2
    refine ⟨_, rfl, ?_⟩
    refine ite3 hM (fun hM => ?_) (fun hM => ?_)
    · skip
      exact hM
    · skip
      exact hQ () _ _ hM hW.out rep_v
def M_is_list (x_value : (List (Int × Int × Bool))) (KM : Bool → Prop) : Prop :=
  (KM true)
def sp_is_list (A : Ad) : Sp := fun vs H Q _ => ∃ (ms : List Addr) (v_value : V) (x_value : (List (Int × Int × Bool))) (KM : Bool → Prop), vs = [v_value] ∧ Wd ms [] [] H H ∧ rep ms H (D.lst (x_value.map (fun y_ : (Int × Int × Bool) => (D.tup [(D.v (V.int y_.1)), (D.v (V.int y_.2.1)), (D.v (V.bl y_.2.2))])))) v_value ∧ M_is_list x_value KM ∧ ∀ (r : Bool) (u : V) (H1 : Hp), KM r → Ret [] H H1 → rep ms H1 (D.v (V.bl r)) u → Q u H1
set_option maxHeartbeats 16000000 in
theorem ok_is_list {P : Program} {w : World} {K : PySem.W.Frag} {mg : Str → Option Value} {base : Heap} {A : Ad} (T : Txt w K mg A) : FnOk P w K mg base CX0 1 A.a_is_list A.d_is_list ["value"] (sp_is_list A) := by
  refine T.F_is_list.ok sc_is_list (fun vs H Q E h => ?_) (fun cdv A_ outer s_ H_0 vs Q E hr h => ?_)
  · obtain ⟨ms, v_value, x_value, KM, rfl, _⟩ := h
    rfl
  · obtain ⟨ms, v_value, x_value, KM, rfl, hW, h_value, hM, hQ⟩ := h
    unfold M_is_list at hM
    refine ⟨_, (pss_one (ps_ret (pe_callB (call_isiTK (K := K) rfl) (by rfl) T.z_isinstance (by decide +kernel) (pa_cons (pv 0) (pa_cons (pe_tup (pa_cons (pe_bltn (v := .ty "list") (by rfl) T.z_list (by decide +kernel) rfl) (pa_cons (pe_bltn (v := .ty "tuple") (by rfl) T.z_tuple (by decide +kernel) rfl) pa_nil))) pa_nil))))), ?_⟩
    refine ⟨_, rfl, ?_⟩
    refine ⟨(by show 2 ≤ sizeLine; decide), ?_⟩
    intro p1 n2
    have e3 := Rx.Ext.new (H := H_0) (o := (HO.tup [V.ty "list", V.ty "tuple"])) n2
    have hp4 : upd H_0 p1 (HO.tup [V.ty "list", V.ty "tuple"]) p1 = some (HO.tup [V.ty "list", V.ty "tuple"]) := upd_same
    generalize upd H_0 p1 (HO.tup [V.ty "list", V.ty "tuple"]) = H5 at e3 hp4 ⊢
    replace h_value := rep_ext e3 h_value
    replace hW := hW.ret0 e3
    apply rep_isi2 (d := (D.lst (x_value.map (fun y_ : (Int × Int × Bool) => (D.tup [(D.v (V.int y_.1)), (D.v (V.int y_.2.1)), (D.v (V.bl y_.2.2))]))))) (a := "list") (b := "list") (c := "tuple") (r1 := true) (r2 := false) h_value (by rfl) (by rfl) hp4 (by decide +kernel) (by decide +kernel)
    skip
    exact hQ true _ _ hM hW.out rep_v
def M_is_count (x_value : Int) (KM : Bool → Prop) : Prop :=
  (M_is_integer x_value fun r1 => (if r1 = true then (KM (decide ((0 : Int) ≤ x_value))) else (KM false)))
def sp_is_count (A : Ad) : Sp := fun vs H Q _ => ∃ (ms : List Addr) (x_value : Int) (KM : Bool → Prop), vs = [V.int x_value] ∧ Wd ms [] [] H H ∧ M_is_count x_value KM ∧ ∀ (r : Bool) (u : V) (H1 : Hp), KM r → Ret [] H H1 → rep ms H1 (D.v (V.bl r)) u → Q u H1
set_option maxHeartbeats 16000000 in
theorem ok_is_count {P : Program} {w : World} {K : PySem.W.Frag} {mg : Str → Option Value} {base : Heap} {A : Ad} (T : Txt w K mg A) : FnOk P w K mg base CX0 2 A.a_is_count A.d_is_count ["value"] (sp_is_count A) := by
  refine T.F_is_count.ok sc_is_count (fun vs H Q E h => ?_) (fun cdv A_ outer s_ H_0 vs Q E hr h => ?_)
  · obtain ⟨ms, x_value, KM, rfl, _⟩ := h
    rfl
  · obtain ⟨ms, x_value, KM, rfl, hW, hM, hQ⟩ := h
    unfold M_is_count at hM
    refine ⟨_, (pss_one (ps_ret (pe_and (pe_call (ok_is_integer T) (hr.mono (by decide)) (by rfl) T.g_is_integer T.F_is_integer.kp T.b_is_integer .nil pass0 (pa_cons (pv 0) pa_nil)) (pe_one (pe_cmpR op_ge (pv 0) pe_int (nomark _)))))), ?_⟩
    refine ⟨_, rfl, ?_⟩
    refine ⟨ms, x_value, _, rfl, hW.enter0, hM, fun r1 u4 H5 hM e3 h2 => ?_⟩
    replace hW := hW.ret0 e3
    obtain rfl := of_v h2
    refine ⟨_, rfl, ?_⟩
    refine ite3 hM (fun hM => ?_) (fun hM => ?_)
    · skip
      refine ⟨_, rfl, ?_⟩
      refine ⟨_, _, rfl, rfl, ?_⟩
      exact hQ (decide ((0 : Int) ≤ x_value)) _ _ hM hW.out rep_v
    · skip
      exact hQ false _ _ hM hW.out rep_v
def M_is_leg (x_value : (Int × Int × Bool)) (KM : Bool → Prop) : Prop :=
  (if (!(decide (V.int (3 : Int) = V.int (3 : Int)))) = true then (KM false) else (M_is_count x_value.1 fun r15 => (if (!r15) = true then (KM false) else (if (decide ((3 : Int) < x_value.1)) = true then (KM false) else (M_is_integer x_value.2.1 fun r20 => (if r20 = true then (if (decide (V.int (if x_value.2.1 < 0 then -x_value.2.1 else x_value.2.1) = V.int (1 : Int))) = true then (KM true) else (KM false)) else (KM false)))))))
def sp_is_leg (A : Ad) : Sp := fun vs H Q _ => ∃ (ms : List Addr) (v_value : V) (x_value : (Int × Int × Bool)) (KM : Bool → Prop), vs = [v_value] ∧ Wd ms [] [] H H ∧ rep ms H (D.tup [(D.v (V.int x_value.1)), (D.v (V.int x_value.2.1)), (D.v (V.bl x_value.2.2))]) v_value ∧ M_is_leg x_value KM ∧ ∀ (r : Bool) (u : V) (H1 : Hp), KM r → Ret [] H H1 → rep ms H1 (D.v (V.bl r)) u → Q u H1
set_option maxHeartbeats 16000000 in
theorem ok_is_leg {P : Program} {w : World} {K : PySem.W.Frag} {mg : Str → Option Value} {base : Heap} {A : Ad} (T : Txt w K mg A) : FnOk P w K mg base CX0 3 A.a_is_leg A.d_is_leg ["value"] (sp_is_leg A) := by
  refine T.F_is_leg.ok sc_is_leg (fun vs H Q E h => ?_) (fun cdv A_ outer s_ H_0 vs Q E hr h => ?_)
  · obtain ⟨ms, v_value, x_value, KM, rfl, _⟩ := h
    rfl
  · obtain ⟨ms, v_value, x_value, KM, rfl, hW, h_value, hM, hQ⟩ := h
    unfold M_is_leg at hM
    refine ⟨_, (pss_cons (ps_if (PW.pt (pw_or (pt_not (pt_val (pe_callB (call_isiK (K := K) rfl) (by rfl) T.z_isinstance (by decide +kernel) (pa_cons (pv 0) (pa_cons (pe_bltn (v := .ty "tuple") (by rfl) T.z_tuple (by decide +kernel) rfl) pa_nil))))) (pw_or1 (pt_cmpR op_ne (pe_callB (call_lenK (K := K) rfl) (by rfl) T.z_len PySem.boot_len (pa_cons (pv 0) pa_nil)) pe_int (nomark _))))) (pss_one (ps_ret pe_bl)) pss_nil) (pss_cons (ps_asg (pv 0) (pg_tup rfl (pgs_cons (pg_name (i := 1) sc_is_leg.nd rfl (by first | exact Or.inl rfl | exact Or.inr rfl)) (pgs_cons (pg_name (i := 2) sc_is_leg.nd rfl (by first | exact Or.inl rfl | exact Or.inr rfl)) (pgs_cons (pg_name (i := 3) sc_is_leg.nd rfl (by first | exact Or.inl rfl | exact Or.inr rfl)) pgs_nil))))) (pss_cons (ps_if (PW.pt (pw_or (pt_not (pt_val (pe_call (ok_is_count T) (hr.mono (by decide)) (by rfl) T.g_is_count T.F_is_count.kp T.b_is_count .nil pass0 (pa_cons (pv 1) pa_nil)))) (pw_or1 (pt_cmpR op_gt (pv 1) (C8.pe_gc (by rfl) T.c_MOST_BEGIN) (nomark _))))) (pss_one (ps_ret pe_bl)) pss_nil) (pss_one (ps_ret (pe_and (pe_call (ok_is_integer T) (hr.mono (by decide)) (by rfl) T.g_is_integer T.F_is_integer.kp T.b_is_integer .nil pass0 (pa_cons (pv 2) pa_nil)) (pe_and (pe_cmpR op_eq (pe_callB call_abs (by rfl) T.z_abs (by decide +kernel) (pa_cons (pv 2) pa_nil)) pe_int (nomark _)) (pe_one (pe_callB (call_isiK (K := K) rfl) (by rfl) T.z_isinstance (by decide +kernel) (pa_cons (pv 3) (pa_cons (pe_bltn (v := .ty "bool") (by rfl) T.z_bool (by decide +kernel) rfl) pa_nil))))))))))), ?_⟩
    refine ⟨_, rfl, ?_⟩
    apply rep_isi1 (d := (D.tup [(D.v (V.int x_value.1)), (D.v (V.int x_value.2.1)), (D.v (V.bl x_value.2.2))])) (a := "tuple") (b := "tuple") (r := true) h_value (by rfl) (by rfl) (by decide +kernel)
    refine ⟨_, rfl, ?_⟩
    refine iteF ?_
    refine ⟨_, rfl, ?_⟩
    apply rep_lenT (n := 3) h_value rfl
    refine ⟨rfl, ?_⟩
    refine ⟨_, rfl, ?_⟩
    refine ite3 hM (fun hM => ?_) (fun hM => ?_)
    · skip
      exact hQ false _ _ hM hW.out rep_v
    · skip
      refine ⟨_, rfl, ?_⟩
      apply rep_gtup h_value rfl
      intro vs1 hv2
      obtain ⟨u3, us4, rfl, h5, hv6⟩ := repL_uncons hv2
      obtain rfl := of_v h5
      obtain ⟨u7, us8, rfl, h9, hv10⟩ := repL_uncons hv6
      obtain rfl := of_v h9
      obtain ⟨u11, us12, rfl, h13, hv14⟩ := repL_uncons hv10
      obtain rfl := of_v h13
      obtain rfl := repL_empty hv14
      refine ⟨_, _, rfl, ?_⟩
      refine ⟨_, _, rfl, ?_⟩
      refine ⟨_, _, rfl, ?_⟩
      refine ⟨rfl, ?_⟩
      refine ⟨_, rfl, ?_⟩
      refine ⟨ms, x_value.1, _, rfl, hW.enter0, hM, fun r15 u18 H19 hM e17 h16 => ?_⟩
      replace h_value := rep_ext e17 h_value
      replace hW := hW.ret0 e17
      obtain rfl := of_v h16
      refine ⟨_, rfl, ?_⟩
      refine ite3 hM (fun hM => ?_) (fun hM => ?_)
      · skip
        refine iteT ?_
        exact hQ false _ _ hM hW.out rep_v
      · skip
        refine ⟨_, rfl, ?_⟩
        refine ⟨_, _, rfl, rfl, ?_⟩
        refine ⟨_, rfl, ?_⟩
        refine ite3 hM (fun hM => ?_) (fun hM => ?_)
        · skip
          exact hQ false _ _ hM hW.out rep_v
        · skip
          refine ⟨_, rfl, ?_⟩
          refine ⟨ms, x_value.2.1, _, rfl, hW.enter0, hM, fun r20 u23 H24 hM e22 h21 => ?_⟩
          replace h_value := rep_ext e22 h_value
          replace hW := hW.ret0 e22
          obtain rfl := of_v h21
          refine ⟨_, rfl, ?_⟩
          refine ite3 hM (fun hM => ?_) (fun hM => ?_)
          · skip
            refine ⟨_, rfl, ?_⟩
            refine ⟨_, rfl, ?_⟩
            refine ⟨rfl, ?_⟩
            refine ⟨_, rfl, ?_⟩
            refine ite3 hM (fun hM => ?_) (fun hM => ?_)
            · skip
              refine ⟨_, rfl, ?_⟩
              refine ⟨_, _, _, _, true, rfl, .ty _, .base (.bl _), kit_ty (by decide +kernel), ?_⟩
              exact hQ true _ _ hM hW.out rep_v
            · skip
              exact hQ false _ _ hM hW.out rep_v
          · skip
            exact hQ false _ _ hM hW.out rep_v
def M_check_legs (x_legs : (List (Int × Int × Bool))) (KM : Unit → Prop) : Prop :=
  (M_is_list x_legs fun r1 => (if (!r1) = true then False else (if (decide (V.int (x_legs.length : Int) = V.int (0 : Int))) = true then False else (forC (fun (x11 : (Int × (Int × Int × Bool))) (s13 : Unit) (k14 : Unit → Prop) => (M_is_leg x11.2 fun r34 => (if (!r34) = true then False else (k14 ())))) ((rangeI 0 (x_legs.length : Int)).zip x_legs) () fun s39 => (if (decide ((4 : Int) < (x_legs.length : Int))) = true then False else (KM ()))))))
def sp_check_legs (A : Ad) : Sp := fun vs H Q _ => ∃ (ms : List Addr) (v_legs : V) (x_legs : (List (Int × Int × Bool))) (KM : Unit → Prop), vs = [v_legs] ∧ Wd ms [] [] H H ∧ rep ms H (D.lst (x_legs.map (fun y_ : (Int × Int × Bool) => (D.tup [(D.v (V.int y_.1)), (D.v (V.int y_.2.1)), (D.v (V.bl y_.2.2))])))) v_legs ∧ M_check_legs x_legs KM ∧ ∀ (r : Unit) (u : V) (H1 : Hp), KM r → Ret [] H H1 → rep ms H1 (D.v V.non) u → Q u H1
set_option maxHeartbeats 16000000 in
theorem ok_check_legs {P : Program} {w : World} {K : PySem.W.Frag} {mg : Str → Option Value} {base : Heap} {A : Ad} (T : Txt w K mg A) : FnOk P w K mg base CX0 4 A.a_check_legs A.d_check_legs ["legs"] (sp_check_legs A) := by
  refine T.F_check_legs.ok sc_check_legs (fun vs H Q E h => ?_) (fun cdv A_ outer s_ H_0 vs Q E hr h => ?_)
  · obtain ⟨ms, v_legs, x_legs, KM, rfl, _⟩ := h
    rfl
  · obtain ⟨ms, v_legs, x_legs, KM, rfl, hW, h_legs, hM, hQ⟩ := h
    unfold M_check_legs at hM
    refine ⟨_, (pss_cons (ps_if (PW.pt (pw_or (pt_not (pt_val (pe_call (ok_is_list T) (hr.mono (by decide)) (by rfl) T.g_is_list T.F_is_list.kp T.b_is_list .nil pass0 (pa_cons (pv 0) pa_nil)))) (pw_or1 (pt_cmpR op_eq (pe_callB (call_lenK (K := K) rfl) (by rfl) T.z_len PySem.boot_len (pa_cons (pv 0) pa_nil)) pe_int (nomark _))))) (pss_one ps_never) pss_nil) (pss_cons (ps_for PassesOwn.never rfl (pi_enum (by rfl) T.z_enumerate (pa_cons (pv 0) pa_nil)) (pg_tup rfl (pgs_cons (pg_name (i := 1) sc_check_legs.nd rfl (by first | exact Or.inl rfl | exact Or.inr rfl)) (pgs_cons (pg_name (i := 2) sc_check_legs.nd rfl (by first | exact Or.inl rfl | exact Or.inr rfl)) pgs_nil))) (pss_one (ps_if (pt_not (pt_val (pe_call (ok_is_leg T) (hr.mono (by decide)) (by rfl) T.g_is_leg T.F_is_leg.kp T.b_is_leg .nil pass0 (pa_cons (pv 2) pa_nil)))) (pss_one ps_never) pss_nil))) (pss_one (ps_if (pt_cmpR op_gt (pe_callB (call_lenK (K := K) rfl) (by rfl) T.z_len PySem.boot_len (pa_cons (pv 0) pa_nil)) (C8.pe_gc (by rfl) T.c_MOST_LEGS) (nomark _)) (pss_one ps_never) pss_nil)))), ?_⟩
    refine ⟨_, rfl, ?_⟩
    refine ⟨ms, _, x_legs, _, rfl, hW.enter0, h_legs, hM, fun r1 u4 H5 hM e3 h2 => ?_⟩
    replace h_legs := rep_ext e3 h_legs
    replace hW := hW.ret0 e3
    obtain rfl := of_v h2
    refine ⟨_, rfl, ?_⟩
    refine ite3 hM (fun hM => ?_) (fun hM => ?_)
    · skip
      refine iteT ?_
      exact hM
    · skip
      refine ⟨_, rfl, ?_⟩
      apply rep_lenL (e := (fun y_ : (Int × Int × Bool) => (D.tup [(D.v (V.int y_.1)), (D.v (V.int y_.2.1)), (D.v (V.bl y_.2.2))]))) (xs := x_legs) h_legs
      refine ⟨rfl, ?_⟩
      refine ⟨_, rfl, ?_⟩
      refine ite3 hM (fun hM => ?_) (fun hM => ?_)
      · skip
        exact hM
      · skip
        refine ⟨_, rfl, ?_⟩
        apply rep_iterE h_legs
        intro a6 xs7 _ an8 hp9 hl10
        refine for_enumG (S := Unit) (items := x_legs) (e := (fun y_ : (Int × Int × Bool) => (D.tup [(D.v (V.int y_.1)), (D.v (V.int y_.2.1)), (D.v (V.bl y_.2.2))]))) (ms := ms) (fun (s : Unit) σ_ h_ => ∃ (w_0 : Option V), ∃ (w_1 : Option V), σ_ = [some v_legs, w_0, w_1] ∧ Wd ms [] [] H_0 h_ ∧ Keep ms H5 h_) () an8 hp9 hl10 (fun _ _ _ z_ => by obtain ⟨_, _, _, _, q_⟩ := z_; exact q_) (fun _ _ _ z_ => by obtain ⟨_, _, _, w_, _⟩ := z_; exact w_.tr) hM ⟨_, _, rfl, hW, Keep.refl⟩ ?_ ?_
        · skip
          rintro x11 u12 s13 k14 _ H23 H22 ⟨w19, w20, rfl, hW, hk15⟩ ex21 h16 hM Nx17 hN18
          replace h_legs := rep_keep hk15 h_legs
          replace h_legs := rep_ext ex21 h_legs
          replace hk15 := keep_ext ex21 hk15
          replace hW := hW.ret0 ex21
          apply rep_gtup h16 rfl
          intro vs24 hv25
          obtain ⟨u26, us27, rfl, h28, hv29⟩ := repL_uncons hv25
          obtain rfl := of_v h28
          obtain ⟨u30, us31, rfl, h32, hv33⟩ := repL_uncons hv29
          obtain rfl := repL_empty hv33
          refine ⟨_, _, rfl, ?_⟩
          refine ⟨_, _, rfl, ?_⟩
          refine ⟨rfl, ?_⟩
          refine ⟨_, rfl, ?_⟩
          refine ⟨ms, _, x11.2, _, rfl, hW.enter0, h32, hM, fun r34 u37 H38 hM e36 h35 => ?_⟩
          replace h_legs := rep_ext e36 h_legs
          replace hk15 := keep_ext e36 hk15
          replace h16 := rep_ext e36 h16
          replace h32 := rep_ext e36 h32
          replace hW := hW.ret0 e36
          obtain rfl := of_v h35
          refine ⟨_, rfl, ?_⟩
          refine ite3 hM (fun hM => ?_) (fun hM => ?_)
          · skip
            exact hM
          · skip
            exact hN18 () _ _ hM ⟨_, _, rfl, hW, hk15⟩
        · skip
          rintro s39 _ H43 hM ⟨w41, w42, rfl, hW, hk40⟩
          replace h_legs := rep_keep hk40 h_legs
          refine ⟨_, rfl, ?_⟩
          apply rep_lenL (e := (fun y_ : (Int × Int × Bool) => (D.tup [(D.v (V.int y_.1)), (D.v (V.int y_.2.1)), (D.v (V.bl y_.2.2))]))) (xs := x_legs) h_legs
          refine ⟨_, _, rfl, rfl, ?_⟩
          refine ⟨_, rfl, ?_⟩
          refine ite3 hM (fun hM => ?_) (fun hM => ?_)
          · skip
            exact hM
          · skip
            exact hQ () _ _ hM hW.out rep_v
def M_check_team (x_team : Int) (x_teams : Int) (KM : Unit → Prop) : Prop :=
  (M_is_count x_team fun r1 => (if (!r1) = true then False else (if (decide (x_teams ≤ x_team)) = true then False else (KM ()))))
def sp_check_team (A : Ad) : Sp := fun vs H Q _ => ∃ (ms : List Addr) (x_team : Int) (x_teams : Int) (KM : Unit → Prop), vs = [V.int x_team, V.int x_teams] ∧ Wd ms [] [] H H ∧ M_check_team x_team x_teams KM ∧ ∀ (r : Unit) (u : V) (H1 : Hp), KM r → Ret [] H H1 → rep ms H1 (D.v V.non) u → Q u H1
set_option maxHeartbeats 16000000 in
theorem ok_check_team {P : Program} {w : World} {K : PySem.W.Frag} {mg : Str → Option Value} {base : Heap} {A : Ad} (T : Txt w K mg A) : FnOk P w K mg base CX0 3 A.a_check_team A.d_check_team ["team", "teams"] (sp_check_team A) := by
  refine T.F_check_team.ok sc_check_team (fun vs H Q E h => ?_) (fun cdv A_ outer s_ H_0 vs Q E hr h => ?_)
  · obtain ⟨ms, x_team, x_teams, KM, rfl, _⟩ := h
    rfl
  · obtain ⟨ms, x_team, x_teams, KM, rfl, hW, hM, hQ⟩ := h
    unfold M_check_team at hM
    refine ⟨_, (pss_one (ps_if (PW.pt (pw_or (pt_not (pt_val (pe_call (ok_is_count T) (hr.mono (by decide)) (by rfl) T.g_is_count T.F_is_count.kp T.b_is_count .nil pass0 (pa_cons (pv 0) pa_nil)))) (pw_or1 (pt_cmpR op_ge (pv 0) (pv 1) (nomark _))))) (pss_one ps_never) pss_nil)), ?_⟩
    refine ⟨_, rfl, ?_⟩
    refine ⟨ms, x_team, _, rfl, hW.enter0, hM, fun r1 u4 H5 hM e3 h2 => ?_⟩
    replace hW := hW.ret0 e3
    obtain rfl := of_v h2
    refine ⟨_, rfl, ?_⟩
    refine ite3 hM (fun hM => ?_) (fun hM => ?_)
    · skip
      refine iteT ?_
      exact hM
    · skip
      refine ⟨_, rfl, ?_⟩
      refine ⟨_, rfl, ?_⟩
      refine ⟨_, _, rfl, rfl, ?_⟩
      refine ⟨_, rfl, ?_⟩
      refine ite3 hM (fun hM => ?_) (fun hM => ?_)
      · skip
        exact hM
      · skip
        exact hQ () _ _ hM hW.out rep_v
def M_check_pair (x_one : Int) (x_other : Int) (x_teams : Int) (KM : Unit → Prop) : Prop :=
  (M_check_team x_one x_teams fun r1 => (M_check_team x_other x_teams fun r6 => (if (decide (V.int x_one = V.int x_other)) = true then False else (KM ()))))
def sp_check_pair (A : Ad) : Sp := fun vs H Q _ => ∃ (ms : List Addr) (x_one : Int) (x_other : Int) (x_teams : Int) (KM : Unit → Prop), vs = [V.int x_one, V.int x_other, V.int x_teams] ∧ Wd ms [] [] H H ∧ M_check_pair x_one x_other x_teams KM ∧ ∀ (r : Unit) (u : V) (H1 : Hp), KM r → Ret [] H H1 → rep ms H1 (D.v V.non) u → Q u H1
set_option maxHeartbeats 16000000 in
theorem ok_check_pair {P : Program} {w : World} {K : PySem.W.Frag} {mg : Str → Option Value} {base : Heap} {A : Ad} (T : Txt w K mg A) : FnOk P w K mg base CX0 4 A.a_check_pair A.d_check_pair ["one", "other", "teams"] (sp_check_pair A) := by
  refine T.F_check_pair.ok sc_check_pair (fun vs H Q E h => ?_) (fun cdv A_ outer s_ H_0 vs Q E hr h => ?_)
  · obtain ⟨ms, x_one, x_other, x_teams, KM, rfl, _⟩ := h
    rfl
  · obtain ⟨ms, x_one, x_other, x_teams, KM, rfl, hW, hM, hQ⟩ := h
    unfold M_check_pair at hM
    refine ⟨_, (pss_cons (ps_expr (pe_call (ok_check_team T) (hr.mono (by decide)) (by rfl) T.g_check_team T.F_check_team.kp T.b_check_team .nil pass0 (pa_cons (pv 0) (pa_cons (pv 2) pa_nil)))) (pss_cons (ps_expr (pe_call (ok_check_team T) (hr.mono (by decide)) (by rfl) T.g_check_team T.F_check_team.kp T.b_check_team .nil pass0 (pa_cons (pv 1) (pa_cons (pv 2) pa_nil)))) (pss_one (ps_if (pt_cmpR op_eq (pv 0) (pv 1) (nomark _)) (pss_one ps_never) pss_nil)))), ?_⟩
    refine ⟨_, rfl, ?_⟩
    refine ⟨_, rfl, ?_⟩
    refine ⟨ms, x_one, x_teams, _, rfl, hW.enter0, hM, fun r1 u4 H5 hM e3 h2 => ?_⟩
    replace hW := hW.ret0 e3
    obtain rfl := of_v h2
    refine ⟨_, rfl, ?_⟩
    refine ⟨_, rfl, ?_⟩
    refine ⟨ms, x_other, x_teams, _, rfl, hW.enter0, hM, fun r6 u9 H10 hM e8 h7 => ?_⟩
    replace hW := hW.ret0 e8
    obtain rfl := of_v h7
    refine ⟨_, rfl, ?_⟩
    refine ⟨_, rfl, ?_⟩
    refine ⟨rfl, ?_⟩
    refine ⟨_, rfl, ?_⟩
    refine ite3 hM (fun hM => ?_) (fun hM => ?_)
    · skip
      exact hM
    · skip
      exact hQ () _ _ hM hW.out rep_v
def M_Rule_step (x_self : (Int × (Str × Str × Str) × Str × Bool)) (KM : Int → Prop) : Prop :=
  (KM x_self.1)
def sp_Rule_step (A : Ad) : Sp := fun vs H Q _ => ∃ (ms : List Addr) (v_self : V) (x_self : (Int × (Str × Str × Str) × Str × Bool)) (KM : Int → Prop), vs = [v_self] ∧ Wd ms [] [] H H ∧ rep ms H (eRule A x_self) v_self ∧ M_Rule_step x_self KM ∧ ∀ (r : Int) (u : V) (H1 : Hp), KM r → Ret [] H H1 → rep ms H1 (D.v (V.int r)) u → Q u H1
set_option maxHeartbeats 16000000 in
theorem ok_Rule_step {P : Program} {w : World} {K : PySem.W.Frag} {mg : Str → Option Value} {base : Heap} {A : Ad} (T : Txt w K mg A) : FnOk P w K mg base CX0 1 A.a_Rule_step A.d_Rule_step ["self"] (sp_Rule_step A) := by
  refine T.F_Rule_step.ok sc_Rule_step (fun vs H Q E h => ?_) (fun cdv A_ outer s_ H_0 vs Q E hr h => ?_)
  · obtain ⟨ms, v_self, x_self, KM, rfl, _⟩ := h
    rfl
  · obtain ⟨ms, v_self, x_self, KM, rfl, hW, h_self, hM, hQ⟩ := h
    unfold M_Rule_step at hM
    refine ⟨_, (pss_one (ps_ret (pe_fld (pv 0) rfl))), ?_⟩
    refine ⟨_, rfl, ?_⟩
    apply rep_fld (j := 0) h_self T.cl_Rule T.na_Rule__step nd_Rule rfl rfl
    intro u2 h1
    obtain rfl := of_v h1
    exact hQ x_self.1 _ _ hM hW.out rep_v
def M_rounds_at (x_step : Int) (x_places : Int) (x_ring : Int) (KM : (List Int) → Prop) : Prop :=
  (∃ KB1 : Int → Prop, (if (decide ((0 : Int) < x_step)) = true then (0 < x_ring ∧ (KB1 (x_places % x_ring))) else (0 < x_ring ∧ (KB1 ((-x_places) % x_ring)))) ∧ ∀ r6 : Int, KB1 r6 → ((rangeI (0 : Int) (if x_step < 0 then -x_step else x_step)).length < 100000 ∧ mapC (fun (x20 : Int) (k13 : Int → Prop) => (CMulW x_ring x20 ∧ (k13 (r6 + (x_ring * x20))))) (rangeI (0 : Int) (if x_step < 0 then -x_step else x_step)) [] fun ys32 => (ys32.length < 100000 ∧ filC (fun (x51 : Int) (k44 : Option Int → Prop) => (0 < (if x_step < 0 then -x_step else x_step) ∧ (if (decide (V.int (x51 % (if x_step < 0 then -x_step else x_step)) = V.int (0 : Int))) = true then (CDivW x51 (if x_step < 0 then -x_step else x_step) ∧ (k44 (some (x51 / (if x_step < 0 then -x_step else x_step))))) else (k44 none)))) ys32 [] fun ys64 => (KM ys64))))
def sp_rounds_at (A : Ad) : Sp := fun vs H Q _ => ∃ (ms : List Addr) (x_step : Int) (x_places : Int) (x_ring : Int) (KM : (List Int) → Prop), vs = [V.int x_step, V.int x_places, V.int x_ring] ∧ Wd ms [] [] H H ∧ M_rounds_at x_step x_places x_ring KM ∧ ∀ (r : (List Int)) (u : V) (H1 : Hp), KM r → Ret [] H H1 → rep ms H1 (D.lst (r.map (fun y_ : Int => (D.v (V.int y_))))) u → Q u H1
set_option maxHeartbeats 16000000 in
theorem ok_rounds_at {P : Program} {w : World} {K : PySem.W.Frag} {mg : Str → Option Value} {base : Heap} {A : Ad} (T : Txt w K mg A) : FnOk P w K mg base CX0 1 A.a_rounds_at A.d_rounds_at ["step", "places", "ring"] (sp_rounds_at A) := by
  refine T.F_rounds_at.ok sc_rounds_at (fun vs H Q E h => ?_) (fun cdv A_ outer s_ H_0 vs Q E hr h => ?_)
  · obtain ⟨ms, x_step, x_places, x_ring, KM, rfl, _⟩ := h
    rfl
  · obtain ⟨ms, x_step, x_places, x_ring, KM, rfl, hW, hM, hQ⟩ := h
    unfold M_rounds_at at hM
    refine ⟨_, (pss_cons (ps_set (i := 3) sc_rounds_at.nd rfl (by first | exact Or.inl rfl | exact Or.inr rfl) (pe_callB call_abs (by rfl) T.z_abs (by decide +kernel) (pa_cons (pv 0) pa_nil))) (pss_cons (ps_set (i := 4) sc_rounds_at.nd rfl (by first | exact Or.inl rfl | exact Or.inr rfl) (pe_up (pe_ifExp (pt_cmpR op_gt (pv 0) pe_int (nomark _)) (pe_op op_mod (pv 1) (pv 2)) (pe_op op_mod (pe_un un_neg (pv 1)) (pv 2))))) (pss_cons (ps_setLc (i := 5) (own := [("lap", 6)]) (g := gName 6) rfl sc_rounds_at.nd rfl rfl (sw_true rfl rfl rfl (by decide +kernel)) (pi_rangeW1 (by rfl) T.z_range (pa_cons (pv 3) pa_nil)) (blkOk_by (N := ["step", "places", "ring", "steps", "rest", "goals", "lap", "goal"]) (sc := defScope s_rounds_at) (by decide +kernel)) (fun _ _ _ _ _ => pg_name (i := 6) sc_rounds_at.nd rfl (by first | exact Or.inl rfl | exact Or.inr rfl)) (fun _ _ _ _ _ => pts_nil) (fun _ _ _ _ _ => (pe_op op_add (pv 4) (pe_op op_mulW (pv 2) (pv 6))))) (pss_one (ps_ret (pe_lc (own := [("goal", 7)]) (g := gName 7) rfl sc_rounds_at.nd (pi_list (pv 5)) (blkOk_by (N := ["step", "places", "ring", "steps", "rest", "goals", "lap", "goal"]) (sc := defScope s_rounds_at) (by decide +kernel)) (fun _ _ _ _ _ => pg_name (i := 7) sc_rounds_at.nd rfl (by first | exact Or.inl rfl | exact Or.inr rfl)) (fun _ _ _ _ _ => (pts_one (pt_cmpR op_eq (pe_op op_mod (pv 7) (pv 3)) pe_int (nomark _)))) (fun _ _ _ _ _ => (pe_op op_fdivW (pv 7) (pv 3))))))))), ?_⟩
    refine ⟨_, rfl, ?_⟩
    refine ⟨_, rfl, ?_⟩
    obtain ⟨KB1, hM, hKKB1⟩ := hM
    refine ⟨fun v H1 => ∃ r : Int, KB1 r ∧ Wd ms [] [] H_0 H1 ∧ Keep ms H_0 H1 ∧ rep ms H1 (D.v (V.int r)) v, ?_, ?_⟩
    · skip
      have hj3 := Keep.refl (ms := ms) (H := H_0)
      refine ⟨_, rfl, ?_⟩
      refine ⟨_, _, rfl, rfl, ?_⟩
      refine ⟨_, rfl, ?_⟩
      refine ite3 hM (fun hM => ?_) (fun hM => ?_)
      · skip
        refine ⟨_, rfl, ?_⟩
        refine ⟨_, rfl, ?_⟩
        obtain ⟨g4, hM⟩ := hM
        refine ⟨_, _, rfl, rfl, g4, ?_⟩
        exact ⟨(x_places % x_ring), hM, hW, hj3, rep_v⟩
      · skip
        refine ⟨_, rfl, ?_⟩
        refine ⟨_, rfl, ?_⟩
        refine ⟨_, rfl, ?_⟩
        obtain ⟨g5, hM⟩ := hM
        refine ⟨_, _, rfl, rfl, g5, ?_⟩
        exact ⟨((-x_places) % x_ring), hM, hW, hj3, rep_v⟩
    · skip
      rintro u8 Hj2 ⟨r6, hr, hW, hj3, h7⟩
      replace hM := hKKB1 r6 hr
      obtain rfl := of_v h7
      refine ⟨_, rfl, ?_⟩
      refine ⟨_, rfl, ?_⟩
      refine fun L9 nl10 => ?_
      have nm24 := nm_new hW nl10
      refine lc_rangeG (L := L9) (fun n_ ys_ h_ => Wd (L9 :: ms) [] [] H_0 h_ ∧ Keep (L9 :: ms) Hj2 h_ ∧ MutO (L9 :: ms) [] H_0 h_ L9 (D.lst (ys_.map (fun y_ : Int => (D.v (V.int y_))))) ∧ ys_.length ≤ n_) (lo := (0 : Int)) (hi := (if x_step < 0 then -x_step else x_step)) (N := Int.toNat (if x_step < 0 then -x_step else x_step)) (by simp) hM ⟨wd_cell hW nl10, keep_cell nl10 Keep.refl, mo_newL (ds := []) hW nl10 repL_nil, Nat.le_refl _⟩ ?_ ?_
      · skip
        rintro x20  n11 ys12 k13 H25 hn ⟨hW, hk14, mu15, ln16⟩ hM Nx19 hN17
        refine ⟨rfl, ?_⟩
        refine tyes_of ?_
        refine ⟨_, rfl, ?_⟩
        refine ⟨_, rfl, ?_⟩
        refine ⟨_, rfl, ?_⟩
        obtain ⟨g26, hM⟩ := hM
        refine ⟨_, _, rfl, rfl, g26, ?_⟩
        refine ⟨_, _, rfl, rfl, ?_⟩
        refine mo_end mu15 hn (by rw [List.length_map]; exact ln16) fun vs27 hr28 => ?_
        have mk30 := mo_setL mu15 (repL_snoc (e := (fun y_ : Int => (D.v (V.int y_)))) (xs := ys12) (y := (r6 + (x_ring * x20))) hr28 rep_v)
        replace hk14 := keep_put (o := .lst (vs27 ++ [V.int (r6 + (x_ring * x20))])) mu15.im hk14
        replace hW := wd_put (o := .lst (vs27 ++ [V.int (r6 + (x_ring * x20))])) hW mu15
        replace mu15 := mk30
        generalize upd H25 L9 (.lst (vs27 ++ [V.int (r6 + (x_ring * x20))])) = H31 at *
        replace mu15 : MutO (L9 :: ms) [] H_0 H31 L9 (D.lst ((ys12 ++ [(r6 + (x_ring * x20))]).map (fun y_ : Int => (D.v (V.int y_))))) := mu15
        clear mk30
        exact hN17 (r6 + (x_ring * x20)) _ hM ⟨hW, hk14, mu15, by rw [List.length_append]; exact Nat.add_le_add_right ln16 1⟩
      · skip
        rintro n11 ys32 H33 hM ⟨hW, hk14, mu15, ln16⟩
        clear hk14 ln16
        have h34 := mo_rep_dr dr_here nm24 mu15
        replace hW := wd_dr dr_here mu15.hp hW
        clear mu15
        refine ⟨_, rfl, ?_⟩
        apply rep_iter h34
        intro a35 xs36 _ an37 hp38 hl39
        refine fun L40 nl41 => ?_
        have nm55 := nm_new hW nl41
        refine lf_listG (L := L40) (fun n_ ys_ h_ => Wd (L40 :: ms) [] [] H_0 h_ ∧ Keep (L40 :: ms) H33 h_ ∧ MutO (L40 :: ms) [] H_0 h_ L40 (D.lst (ys_.map (fun y_ : Int => (D.v (V.int y_))))) ∧ ys_.length ≤ n_) (items := ys32) (e := (fun y_ : Int => (D.v (V.int y_)))) an37 hp38 hl39 nl41 (fun _ _ _ q_ => q_.2.1) hM ⟨wd_cell hW nl41, keep_cell nl41 Keep.refl, mo_newL (ds := []) hW nl41 repL_nil, Nat.le_refl _⟩ ?_ ?_
        · skip
          rintro x51 u52 n42 ys43 k44 H56 hn ⟨hW, hk45, mu46, ln47⟩ h53 hM Nx50 hN48 hNn49
          replace h34 := rep_keep hk45 (rep_new nl41 h34)
          obtain rfl := of_v h53
          refine ⟨rfl, ?_⟩
          refine ⟨_, rfl, ?_⟩
          refine ⟨_, rfl, ?_⟩
          obtain ⟨g57, hM⟩ := hM
          refine ⟨_, _, rfl, rfl, g57, ?_⟩
          refine ⟨rfl, ?_⟩
          refine ⟨_, rfl, ?_⟩
          refine ite3 hM (fun hM => ?_) (fun hM => ?_)
          · skip
            refine ⟨_, rfl, ?_⟩
            refine ⟨_, rfl, ?_⟩
            obtain ⟨g58, hM⟩ := hM
            refine ⟨_, _, rfl, rfl, g58, ?_⟩
            refine mo_end mu46 hn (by rw [List.length_map]; exact ln47) fun vs59 hr60 => ?_
            have mk62 := mo_setL mu46 (repL_snoc (e := (fun y_ : Int => (D.v (V.int y_)))) (xs := ys43) (y := (x51 / (if x_step < 0 then -x_step else x_step))) hr60 rep_v)
            replace h34 := rep_put (o := .lst (vs59 ++ [V.int (x51 / (if x_step < 0 then -x_step else x_step))])) mu46.im h34
            replace hk45 := keep_put (o := .lst (vs59 ++ [V.int (x51 / (if x_step < 0 then -x_step else x_step))])) mu46.im hk45
            replace hW := wd_put (o := .lst (vs59 ++ [V.int (x51 / (if x_step < 0 then -x_step else x_step))])) hW mu46
            replace mu46 := mk62
            generalize upd H56 L40 (.lst (vs59 ++ [V.int (x51 / (if x_step < 0 then -x_step else x_step))])) = H63 at *
            replace mu46 : MutO (L40 :: ms) [] H_0 H63 L40 (D.lst ((ys43 ++ [(x51 / (if x_step < 0 then -x_step else x_step))]).map (fun y_ : Int => (D.v (V.int y_))))) := mu46
            clear mk62
            exact hN48 (x51 / (if x_step < 0 then -x_step else x_step)) _ hM ⟨hW, hk45, mu46, by rw [List.length_append]; exact Nat.add_le_add_right ln47 1⟩
          · skip
            exact hNn49 _ hM ⟨hW, hk45, mu46, Nat.le_succ_of_le ln47⟩
        · skip
          rintro n42 ys64 H65 hM ⟨hW, hk45, mu46, ln47⟩
          replace h34 := rep_keep hk45 (rep_new nl41 h34)
          clear hk45 ln47
          have h66 := mo_rep_dr dr_here nm55 mu46
          replace hW := wd_dr dr_here mu46.hp hW
          replace h34 := rep_dr dr_here h34
          clear mu46
          exact hQ ys64 _ _ hM hW.out h66
def M_rounds_of (x_rule : (Int × (Str × Str × Str) × Str × Bool)) (x_size : Int) (x_one : Int) (x_other : Int) (KM : (List Int) → Prop) : Prop :=
  (M_check_size x_rule x_size fun r1 => (M_check_pair x_one x_other x_size fun r6 => (if (decide (V.int x_one = V.int (x_size - (1 : Int)))) = true then (M_Rule_step x_rule fun r12 => (M_rounds_at r12 x_other (x_size - (1 : Int)) fun r17 => (KM r17))) else (if (decide (V.int x_other = V.int (x_size - (1 : Int)))) = true then (M_Rule_step x_rule fun r23 => (M_rounds_at r23 x_one (x_size - (1 : Int)) fun r28 => (KM r28))) else (M_Rule_step x_rule fun r34 => (M_rounds_at ((2 : Int) * r34) (x_one + x_other) (x_size - (1 : Int)) fun r39 => (KM r39)))))))
def sp_rounds_of (A : Ad) : Sp := fun vs H Q _ => ∃ (ms : List Addr) (v_rule : V) (x_rule : (Int × (Str × Str × Str) × Str × Bool)) (x_size : Int) (x_one : Int) (x_other : Int) (KM : (List Int) → Prop), vs = [v_rule, V.int x_size, V.int x_one, V.int x_other] ∧ Wd ms [] [] H H ∧ rep ms H (eRule A x_rule) v_rule ∧ M_rounds_of x_rule x_size x_one x_other KM ∧ ∀ (r : (List Int)) (u : V) (H1 : Hp), KM r → Ret [] H H1 → rep ms H1 (D.lst (r.map (fun y_ : Int => (D.v (V.int y_))))) u → Q u H1
set_option maxHeartbeats 16000000 in
theorem ok_rounds_of {P : Program} {w : World} {K : PySem.W.Frag} {mg : Str → Option Value} {base : Heap} {A : Ad} (T : Txt w K mg A) : FnOk P w K mg base CX0 7 A.a_rounds_of A.d_rounds_of ["rule", "size", "one", "other"] (sp_rounds_of A) := by
  refine T.F_rounds_of.ok sc_rounds_of (fun vs H Q E h => ?_) (fun cdv A_ outer s_ H_0 vs Q E hr h => ?_)
  · obtain ⟨ms, v_rule, x_rule, x_size, x_one, x_other, KM, rfl, _⟩ := h
    rfl
  · obtain ⟨ms, v_rule, x_rule, x_size, x_one, x_other, KM, rfl, hW, h_rule, hM, hQ⟩ := h
    unfold M_rounds_of at hM
    refine ⟨_, (pss_cons (ps_expr (pe_call (ok_check_size T) (hr.mono (by decide)) (by rfl) T.g_check_size T.F_check_size.kp T.b_check_size .nil pass0 (pa_cons (pv 0) (pa_cons (pv 1) pa_nil)))) (pss_cons (ps_expr (pe_call (ok_check_pair T) (hr.mono (by decide)) (by rfl) T.g_check_pair T.F_check_pair.kp T.b_check_pair .nil pass0 (pa_cons (pv 2) (pa_cons (pv 3) (pa_cons (pv 1) pa_nil))))) (pss_cons (ps_if (pt_cmpR op_eq (pv 2) (pe_op op_sub (pv 1) pe_int) (nomark _)) (pss_one (ps_ret (pe_call (ok_rounds_at T) (hr.mono (by decide)) (by rfl) T.g_rounds_at T.F_rounds_at.kp T.b_rounds_at .nil pass0 (pa_cons (pe_prop (pv 0) T.cl_Rule T.p_Rule_step (ok_Rule_step T) (hr.mono (by decide)) T.b_Rule_step .nil pass0 rfl) (pa_cons (pv 3) (pa_cons (pe_op op_sub (pv 1) pe_int) pa_nil)))))) pss_nil) (pss_cons (ps_if (pt_cmpR op_eq (pv 3) (pe_op op_sub (pv 1) pe_int) (nomark _)) (pss_one (ps_ret (pe_call (ok_rounds_at T) (hr.mono (by decide)) (by rfl) T.g_rounds_at T.F_rounds_at.kp T.b_rounds_at .nil pass0 (pa_cons (pe_prop (pv 0) T.cl_Rule T.p_Rule_step (ok_Rule_step T) (hr.mono (by decide)) T.b_Rule_step .nil pass0 rfl) (pa_cons (pv 2) (pa_cons (pe_op op_sub (pv 1) pe_int) pa_nil)))))) pss_nil) (pss_one (ps_ret (pe_call (ok_rounds_at T) (hr.mono (by decide)) (by rfl) T.g_rounds_at T.F_rounds_at.kp T.b_rounds_at .nil pass0 (pa_cons (pe_op op_mul pe_int (pe_prop (pv 0) T.cl_Rule T.p_Rule_step (ok_Rule_step T) (hr.mono (by decide)) T.b_Rule_step .nil pass0 rfl)) (pa_cons (pe_op op_add (pv 2) (pv 3)) (pa_cons (pe_op op_sub (pv 1) pe_int) pa_nil)))))))))), ?_⟩
    refine ⟨_, rfl, ?_⟩
    refine ⟨_, rfl, ?_⟩
    refine ⟨ms, _, x_rule, x_size, _, rfl, hW.enter0, h_rule, hM, fun r1 u4 H5 hM e3 h2 => ?_⟩
    replace h_rule := rep_ext e3 h_rule
    replace hW := hW.ret0 e3
    obtain rfl := of_v h2
    refine ⟨_, rfl, ?_⟩
    refine ⟨_, rfl, ?_⟩
    refine ⟨_, rfl, ?_⟩
    refine ⟨ms, x_one, x_other, x_size, _, rfl, hW.enter0, hM, fun r6 u9 H10 hM e8 h7 => ?_⟩
    replace h_rule := rep_ext e8 h_rule
    replace hW := hW.ret0 e8
    obtain rfl := of_v h7
    refine ⟨_, rfl, ?_⟩
    refine ⟨_, rfl, ?_⟩
    refine ⟨_, _, rfl, rfl, ?_⟩
    refine ⟨rfl, ?_⟩
    refine ⟨_, rfl, ?_⟩
    refine ite3 hM (fun hM => ?_) (fun hM => ?_)
    · skip
      refine ⟨_, rfl, ?_⟩
      apply rep_prop h_rule
      intro _ h11
      refine ⟨ms, _, x_rule, _, rfl, hW.enter0, h11, hM, fun r12 u15 H16 hM e14 h13 => ?_⟩
      replace h_rule := rep_ext e14 h_rule
      replace hW := hW.ret0 e14
      obtain rfl := of_v h13
      refine ⟨_, rfl, ?_⟩
      refine ⟨_, rfl, ?_⟩
      refine ⟨_, _, rfl, rfl, ?_⟩
      refine ⟨ms, r12, x_other, (x_size - (1 : Int)), _, rfl, hW.enter0, hM, fun r17 u20 H21 hM e19 h18 => ?_⟩
      replace h_rule := rep_ext e19 h_rule
      replace hW := hW.ret0 e19
      exact hQ r17 _ _ hM hW.out h18
    · skip
      refine ⟨_, rfl, ?_⟩
      refine ⟨_, rfl, ?_⟩
      refine ⟨_, _, rfl, rfl, ?_⟩
      refine ⟨rfl, ?_⟩
      refine ⟨_, rfl, ?_⟩
      refine ite3 hM (fun hM => ?_) (fun hM => ?_)
      · skip
        refine ⟨_, rfl, ?_⟩
        apply rep_prop h_rule
        intro _ h22
        refine ⟨ms, _, x_rule, _, rfl, hW.enter0, h22, hM, fun r23 u26 H27 hM e25 h24 => ?_⟩
        replace h_rule := rep_ext e25 h_rule
        replace hW := hW.ret0 e25
        obtain rfl := of_v h24
        refine ⟨_, rfl, ?_⟩
        refine ⟨_, rfl, ?_⟩
        refine ⟨_, _, rfl, rfl, ?_⟩
        refine ⟨ms, r23, x_one, (x_size - (1 : Int)), _, rfl, hW.enter0, hM, fun r28 u31 H32 hM e30 h29 => ?_⟩
        replace h_rule := rep_ext e30 h_rule
        replace hW := hW.ret0 e30
        exact hQ r28 _ _ hM hW.out h29
      · skip
        refine ⟨_, rfl, ?_⟩
        apply rep_prop h_rule
        intro _ h33
        refine ⟨ms, _, x_rule, _, rfl, hW.enter0, h33, hM, fun r34 u37 H38 hM e36 h35 => ?_⟩
        replace h_rule := rep_ext e36 h_rule
        replace hW := hW.ret0 e36
        obtain rfl := of_v h35
        refine ⟨_, _, rfl, rfl, .inl ⟨by decide, by decide⟩, ?_⟩
        refine ⟨_, rfl, ?_⟩
        refine ⟨_, rfl, ?_⟩
        refine ⟨_, _, rfl, rfl, ?_⟩
        refine ⟨_, rfl, ?_⟩
        refine ⟨_, _, rfl, rfl, ?_⟩
        refine ⟨ms, ((2 : Int) * r34), (x_one + x_other), (x_size - (1 : Int)), _, rfl, hW.enter0, hM, fun r39 u42 H43 hM e41 h40 => ?_⟩
        replace h_rule := rep_ext e41 h_rule
        replace hW := hW.ret0 e41
        exact hQ r39 _ _ hM hW.out h40
def M_check_day (x_day : Int) (x_rounds : Int) (KM : Unit → Prop) : Prop :=
  (M_is_count x_day fun r1 => (if (!r1) = true then False else (if (decide (x_rounds ≤ x_day)) = true then False else (KM ()))))
def sp_check_day (A : Ad) : Sp := fun vs H Q _ => ∃ (ms : List Addr) (x_day : Int) (x_rounds : Int) (KM : Unit → Prop), vs = [V.int x_day, V.int x_rounds] ∧ Wd ms [] [] H H ∧ M_check_day x_day x_rounds KM ∧ ∀ (r : Unit) (u : V) (H1 : Hp), KM r → Ret [] H H1 → rep ms H1 (D.v V.non) u → Q u H1
set_option maxHeartbeats 16000000 in
theorem ok_check_day {P : Program} {w : World} {K : PySem.W.Frag} {mg : Str → Option Value} {base : Heap} {A : Ad} (T : Txt w K mg A) : FnOk P w K mg base CX0 3 A.a_check_day A.d_check_day ["day", "rounds"] (sp_check_day A) := by
  refine T.F_check_day.ok sc_check_day (fun vs H Q E h => ?_) (fun cdv A_ outer s_ H_0 vs Q E hr h => ?_)
  · obtain ⟨ms, x_day, x_rounds, KM, rfl, _⟩ := h
    rfl
  · obtain ⟨ms, x_day, x_rounds, KM, rfl, hW, hM, hQ⟩ := h
    unfold M_check_day at hM
    refine ⟨_, (pss_one (ps_if (PW.pt (pw_or (pt_not (pt_val (pe_call (ok_is_count T) (hr.mono (by decide)) (by rfl) T.g_is_count T.F_is_count.kp T.b_is_count .nil pass0 (pa_cons (pv 0) pa_nil)))) (pw_or1 (pt_cmpR op_ge (pv 0) (pv 1) (nomark _))))) (pss_one ps_never) pss_nil)), ?_⟩
    refine ⟨_, rfl, ?_⟩
    refine ⟨ms, x_day, _, rfl, hW.enter0, hM, fun r1 u4 H5 hM e3 h2 => ?_⟩
    replace hW := hW.ret0 e3
    obtain rfl := of_v h2
    refine ⟨_, rfl, ?_⟩
    refine ite3 hM (fun hM => ?_) (fun hM => ?_)
    · skip
      refine iteT ?_
      exact hM
    · skip
      refine ⟨_, rfl, ?_⟩
      refine ⟨_, rfl, ?_⟩
      refine ⟨_, _, rfl, rfl, ?_⟩
      refine ⟨_, rfl, ?_⟩
      refine ite3 hM (fun hM => ?_) (fun hM => ?_)
      · skip
        exact hM
      · skip
        exact hQ () _ _ hM hW.out rep_v
def M_check (x_rule : (Int × (Str × Str × Str) × Str × Bool)) (x_size : Int) (x_team : Int) (x_day : Int) (KM : Unit → Prop) : Prop :=
  (M_check_size x_rule x_size fun r1 => (M_check_team x_team x_size fun r6 => (M_check_day x_day (x_size - (1 : Int)) fun r11 => (KM ()))))
def sp_check (A : Ad) : Sp := fun vs H Q _ => ∃ (ms : List Addr) (v_rule : V) (x_rule : (Int × (Str × Str × Str) × Str × Bool)) (x_size : Int) (x_team : Int) (x_day : Int) (KM : Unit → Prop), vs = [v_rule, V.int x_size, V.int x_team, V.int x_day] ∧ Wd ms [] [] H H ∧ rep ms H (eRule A x_rule) v_rule ∧ M_check x_rule x_size x_team x_day KM ∧ ∀ (r : Unit) (u : V) (H1 : Hp), KM r → Ret [] H H1 → rep ms H1 (D.v V.non) u → Q u H1
set_option maxHeartbeats 16000000 in
theorem ok_check {P : Program} {w : World} {K : PySem.W.Frag} {mg : Str → Option Value} {base : Heap} {A : Ad} (T : Txt w K mg A) : FnOk P w K mg base CX0 7 A.a_check A.d_check ["rule", "size", "team", "day"] (sp_check A) := by
  refine T.F_check.ok sc_check (fun vs H Q E h => ?_) (fun cdv A_ outer s_ H_0 vs Q E hr h => ?_)
  · obtain ⟨ms, v_rule, x_rule, x_size, x_team, x_day, KM, rfl, _⟩ := h
    rfl
  · obtain ⟨ms, v_rule, x_rule, x_size, x_team, x_day, KM, rfl, hW, h_rule, hM, hQ⟩ := h
    unfold M_check at hM
    refine ⟨_, (pss_cons (ps_expr (pe_call (ok_check_size T) (hr.mono (by decide)) (by rfl) T.g_check_size T.F_check_size.kp T.b_check_size .nil pass0 (pa_cons (pv 0) (pa_cons (pv 1) pa_nil)))) (pss_cons (ps_expr (pe_call (ok_check_team T) (hr.mono (by decide)) (by rfl) T.g_check_team T.F_check_team.kp T.b_check_team .nil pass0 (pa_cons (pv 2) (pa_cons (pv 1) pa_nil)))) (pss_one (ps_expr (pe_call (ok_check_day T) (hr.mono (by decide)) (by rfl) T.g_check_day T.F_check_day.kp T.b_check_day .nil pass0 (pa_cons (pv 3) (pa_cons (pe_op op_sub (pv 1) pe_int) pa_nil))))))), ?_⟩
    refine ⟨_, rfl, ?_⟩
    refine ⟨_, rfl, ?_⟩
    refine ⟨ms, _, x_rule, x_size, _, rfl, hW.enter0, h_rule, hM, fun r1 u4 H5 hM e3 h2 => ?_⟩
    replace h_rule := rep_ext e3 h_rule
    replace hW := hW.ret0 e3
    obtain rfl := of_v h2
    refine ⟨_, rfl, ?_⟩
    refine ⟨_, rfl, ?_⟩
    refine ⟨ms, x_team, x_size, _, rfl, hW.enter0, hM, fun r6 u9 H10 hM e8 h7 => ?_⟩
    replace h_rule := rep_ext e8 h_rule
    replace hW := hW.ret0 e8
    obtain rfl := of_v h7
    refine ⟨_, rfl, ?_⟩
    refine ⟨_, rfl, ?_⟩
    refine ⟨_, _, rfl, rfl, ?_⟩
    refine ⟨ms, x_day, (x_size - (1 : Int)), _, rfl, hW.enter0, hM, fun r11 u14 H15 hM e13 h12 => ?_⟩
    replace h_rule := rep_ext e13 h_rule
    replace hW := hW.ret0 e13
    obtain rfl := of_v h12
    exact hQ () _ _ hM hW.out rep_v
def M_Rule_stander (x_self : (Int × (Str × Str × Str) × Str × Bool)) (KM : Str → Prop) : Prop :=
  (KM x_self.2.2.1)
def sp_Rule_stander (A : Ad) : Sp := fun vs H Q _ => ∃ (ms : List Addr) (v_self : V) (x_self : (Int × (Str × Str × Str) × Str × Bool)) (KM : Str → Prop), vs = [v_self] ∧ Wd ms [] [] H H ∧ rep ms H (eRule A x_self) v_self ∧ M_Rule_stander x_self KM ∧ ∀ (r : Str) (u : V) (H1 : Hp), KM r → Ret [] H H1 → rep ms H1 (D.v (V.str r)) u → Q u H1
set_option maxHeartbeats 16000000 in
theorem ok_Rule_stander {P : Program} {w : World} {K : PySem.W.Frag} {mg : Str → Option Value} {base : Heap} {A : Ad} (T : Txt w K mg A) : FnOk P w K mg base CX0 1 A.a_Rule_stander A.d_Rule_stander ["self"] (sp_Rule_stander A) := by
  refine T.F_Rule_stander.ok sc_Rule_stander (fun vs H Q E h => ?_) (fun cdv A_ outer s_ H_0 vs Q E hr h => ?_)
  · obtain ⟨ms, v_self, x_self, KM, rfl, _⟩ := h
    rfl
  · obtain ⟨ms, v_self, x_self, KM, rfl, hW, h_self, hM, hQ⟩ := h
    unfold M_Rule_stander at hM
    refine ⟨_, (pss_one (ps_ret (pe_fld (pv 0) rfl))), ?_⟩
    refine ⟨_, rfl, ?_⟩
    apply rep_fld (j := 2) h_self T.cl_Rule T.na_Rule__stander nd_Rule rfl rfl
    intro u2 h1
    obtain rfl := of_v h1
    exact hQ x_self.2.2.1 _ _ hM hW.out rep_v
def M_stander_mark (x_rule : (Int × (Str × Str × Str) × Str × Bool)) (x_day : Int) (KM : Str → Prop) : Prop :=
  (M_Rule_stander x_rule fun r2 => (∃ c7 : Str, wd_STANDER_MARKS.lookup r2 = some c7 ∧ (c7.length ≤ sizeLine ∧ ∃ c10, atI c7.cps.toList (x_day % (2 : Int)) = some c10 ∧ (KM (Str.mk #[c10])))))
def sp_stander_mark (A : Ad) : Sp := fun vs H Q _ => ∃ (ms : List Addr) (v_rule : V) (x_rule : (Int × (Str × Str × Str) × Str × Bool)) (x_day : Int) (KM : Str → Prop), vs = [v_rule, V.int x_day] ∧ Wd ms [] [] H H ∧ rep ms H (eRule A x_rule) v_rule ∧ M_stander_mark x_rule x_day KM ∧ ∀ (r : Str) (u : V) (H1 : Hp), KM r → Ret [] H H1 → rep ms H1 (D.v (V.str r)) u → Q u H1
set_option maxHeartbeats 16000000 in
theorem ok_stander_mark {P : Program} {w : World} {K : PySem.W.Frag} {mg : Str → Option Value} {base : Heap} {A : Ad} (T : Txt w K mg A) : FnOk P w K mg base CX0 3 A.a_stander_mark A.d_stander_mark ["rule", "day"] (sp_stander_mark A) := by
  refine T.F_stander_mark.ok sc_stander_mark (fun vs H Q E h => ?_) (fun cdv A_ outer s_ H_0 vs Q E hr h => ?_)
  · obtain ⟨ms, v_rule, x_rule, x_day, KM, rfl, _⟩ := h
    rfl
  · obtain ⟨ms, v_rule, x_rule, x_day, KM, rfl, hW, h_rule, hM, hQ⟩ := h
    unfold M_stander_mark at hM
    refine ⟨_, (pss_one (ps_ret (pe_ix ix_str (pe_ix (ix_kdictW (K := K) (w := w) rfl rfl) (pe_glob (v := .ref A.wd_STANDER_MARKS) (by rfl) T.g_STANDER_MARKS rfl) (pe_prop (pv 0) T.cl_Rule T.p_Rule_stander (ok_Rule_stander T) (hr.mono (by decide)) T.b_Rule_stander .nil pass0 rfl) (fun _ _ => rfl)) (pe_op op_mod (pv 1) pe_int) (fun _ _ => rfl)))), ?_⟩
    refine ⟨_, rfl, ?_⟩
    apply rep_prop h_rule
    intro _ h1
    refine ⟨ms, _, x_rule, _, rfl, hW.enter0, h1, hM, fun r2 u5 H6 hM e4 h3 => ?_⟩
    replace h_rule := rep_ext e4 h_rule
    replace hW := hW.ret0 e4
    obtain rfl := of_v h3
    obtain ⟨c7, h8, hM⟩ := hM
    apply rep_ixD T.kd_STANDER_MARKS h8
    refine ⟨_, rfl, ?_⟩
    refine ⟨_, _, rfl, rfl, (by show (0 : Int) < (2 : Int); decide), ?_⟩
    obtain ⟨g9, hM⟩ := hM
    obtain ⟨c10, c10h, hM⟩ := hM
    refine ⟨_, _, _, rfl, rfl, g9, c10h, ?_⟩
    exact hQ (Str.mk #[c10]) _ _ hM hW.out rep_v
def M_seat (x_rule : (Int × (Str × Str × Str) × Str × Bool)) (x_size : Int) (x_team : Int) (x_day : Int) (KM : Int → Prop) : Prop :=
  (M_Rule_step x_rule fun r2 => (CMulW r2 x_day ∧ (0 < (x_size - (1 : Int)) ∧ (∃ KB9 : Int → Prop, (if (decide (((x_team - (r2 * x_day)) % (x_size - (1 : Int))) < (x_size / (2 : Int)))) = true then (KB9 ((x_team - (r2 * x_day)) % (x_size - (1 : Int)))) else (KB9 (((x_team - (r2 * x_day)) % (x_size - (1 : Int))) - (x_size - (1 : Int))))) ∧ ∀ r12 : Int, KB9 r12 → (KM r12)))))
def sp_seat (A : Ad) : Sp := fun vs H Q _ => ∃ (ms : List Addr) (v_rule : V) (x_rule : (Int × (Str × Str × Str) × Str × Bool)) (x_size : Int) (x_team : Int) (x_day : Int) (KM : Int → Prop), vs = [v_rule, V.int x_size, V.int x_team, V.int x_day] ∧ Wd ms [] [] H H ∧ rep ms H (eRule A x_rule) v_rule ∧ M_seat x_rule x_size x_team x_day KM ∧ ∀ (r : Int) (u : V) (H1 : Hp), KM r → Ret [] H H1 → rep ms H1 (D.v (V.int r)) u → Q u H1
set_option maxHeartbeats 16000000 in
theorem ok_seat {P : Program} {w : World} {K : PySem.W.Frag} {mg : Str → Option Value} {base : Heap} {A : Ad} (T : Txt w K mg A) : FnOk P w K mg base CX0 3 A.a_seat A.d_seat ["rule", "size", "team", "day"] (sp_seat A) := by
  refine T.F_seat.ok sc_seat (fun vs H Q E h => ?_) (fun cdv A_ outer s_ H_0 vs Q E hr h => ?_)
  · obtain ⟨ms, v_rule, x_rule, x_size, x_team, x_day, KM, rfl, _⟩ := h
    rfl
  · obtain ⟨ms, v_rule, x_rule, x_size, x_team, x_day, KM, rfl, hW, h_rule, hM, hQ⟩ := h
    unfold M_seat at hM
    refine ⟨_, (pss_cons (ps_set (i := 4) sc_seat.nd rfl (by first | exact Or.inl rfl | exact Or.inr rfl) (pe_op op_mod (pe_op op_sub (pv 2) (pe_op op_mulW (pe_prop (pv 0) T.cl_Rule T.p_Rule_step (ok_Rule_step T) (hr.mono (by decide)) T.b_Rule_step .nil pass0 rfl) (pv 3))) (pe_op op_sub (pv 1) pe_int))) (pss_one (ps_ret (pe_up (pe_ifExp (pt_cmpR op_lt (pv 4) (pe_op op_fdivW (pv 1) pe_int) (nomark _)) (pv 4) (pe_op op_sub (pv 4) (pe_op op_sub (pv 1) pe_int))))))), ?_⟩
    refine ⟨_, rfl, ?_⟩
    refine ⟨_, rfl, ?_⟩
    apply rep_prop h_rule
    intro _ h1
    refine ⟨ms, _, x_rule, _, rfl, hW.enter0, h1, hM, fun r2 u5 H6 hM e4 h3 => ?_⟩
    replace h_rule := rep_ext e4 h_rule
    replace hW := hW.ret0 e4
    obtain rfl := of_v h3
    refine ⟨_, rfl, ?_⟩
    obtain ⟨g7, hM⟩ := hM
    refine ⟨_, _, rfl, rfl, g7, ?_⟩
    refine ⟨_, _, rfl, rfl, ?_⟩
    refine ⟨_, rfl, ?_⟩
    refine ⟨_, _, rfl, rfl, ?_⟩
    obtain ⟨g8, hM⟩ := hM
    refine ⟨_, _, rfl, rfl, g8, ?_⟩
    obtain ⟨KB9, hM, hKKB9⟩ := hM
    refine ⟨fun v H1 => ∃ r : Int, KB9 r ∧ Wd ms [] [] H_0 H1 ∧ Keep ms H6 H1 ∧ rep ms H1 (D.v (V.int r)) v, ?_, ?_⟩
    · skip
      have hj11 := Keep.refl (ms := ms) (H := H6)
      refine ⟨_, rfl, ?_⟩
      refine ⟨_, rfl, ?_⟩
      refine ⟨_, _, rfl, rfl, ⟨by decide, by decide⟩, ?_⟩
      refine ⟨_, _, rfl, rfl, ?_⟩
      refine ⟨_, rfl, ?_⟩
      refine ite3 hM (fun hM => ?_) (fun hM => ?_)
      · skip
        refine ⟨_, rfl, ?_⟩
        exact ⟨((x_team - (r2 * x_day)) % (x_size - (1 : Int))), hM, hW, hj11, rep_v⟩
      · skip
        refine ⟨_, rfl, ?_⟩
        refine ⟨_, rfl, ?_⟩
        refine ⟨_, _, rfl, rfl, ?_⟩
        refine ⟨_, _, rfl, rfl, ?_⟩
        exact ⟨(((x_team - (r2 * x_day)) % (x_size - (1 : Int))) - (x_size - (1 : Int))), hM, hW, hj11, rep_v⟩
    · skip
      rintro u14 Hj10 ⟨r12, hr, hW, hj11, h13⟩
      replace hM := hKKB9 r12 hr
      replace h_rule := rep_keep hj11 h_rule
      obtain rfl := of_v h13
      exact hQ r12 _ _ hM hW.out rep_v
def M_contrary_marks (x_marks : Str) (KM : Str → Prop) : Prop :=
  ((Rx.signs x_marks).length < 100000 ∧ mapC (fun (x12 : Str) (k5 : Str → Prop) => (∃ c18 : Str, wd_CONTRARIES.lookup x12 = some c18 ∧ (k5 c18))) (Rx.signs x_marks) [] fun ys25 => ((ys25.map (·.length)).sum + ys25.length * ("" : Str).length ≤ 16777216 ∧ (KM (Txt.join ("" : Str) ys25))))
def sp_contrary_marks (A : Ad) : Sp := fun vs H Q _ => ∃ (ms : List Addr) (x_marks : Str) (KM : Str → Prop), vs = [V.str x_marks] ∧ Wd ms [] [] H H ∧ M_contrary_marks x_marks KM ∧ ∀ (r : Str) (u : V) (H1 : Hp), KM r → Ret [] H H1 → rep ms H1 (D.v (V.str r)) u → Q u H1
set_option maxHeartbeats 16000000 in
theorem ok_contrary_marks {P : Program} {w : World} {K : PySem.W.Frag} {mg : Str → Option Value} {base : Heap} {A : Ad} (T : Txt w K mg A) : FnOk P w K mg base CX0 1 A.a_contrary_marks A.d_contrary_marks ["marks"] (sp_contrary_marks A) := by
  refine T.F_contrary_marks.ok sc_contrary_marks (fun vs H Q E h => ?_) (fun cdv A_ outer s_ H_0 vs Q E hr h => ?_)
  · obtain ⟨ms, x_marks, KM, rfl, _⟩ := h
    rfl
  · obtain ⟨ms, x_marks, KM, rfl, hW, hM, hQ⟩ := h
    unfold M_contrary_marks at hM
    refine ⟨_, (pss_one (ps_ret (pe_join pe_str (pe_lc (own := [("mark", 1)]) (g := gName 1) rfl sc_contrary_marks.nd (pi_str (pv 0)) (blkOk_by (N := ["marks", "mark"]) (sc := defScope s_contrary_marks) (by decide +kernel)) (fun _ _ _ _ _ => pg_name (i := 1) sc_contrary_marks.nd rfl (by first | exact Or.inl rfl | exact Or.inr rfl)) (fun _ _ _ _ _ => pts_nil) (fun _ _ _ _ _ => (pe_ix (ix_kdictW (K := K) (w := w) rfl rfl) (pe_glob (v := .ref A.wd_CONTRARIES) (by rfl) T.g_CONTRARIES rfl) (pv 1) (fun _ _ => rfl))))))), ?_⟩
    refine ⟨⟨_, rfl⟩, ?_⟩
    refine ⟨_, rfl, ?_⟩
    refine ⟨_, rfl, ?_⟩
    refine fun L1 nl2 => ?_
    have nm16 := nm_new hW nl2
    refine lc_strG (L := L1) (fun n_ ys_ h_ => Wd (L1 :: ms) [] [] H_0 h_ ∧ Keep (L1 :: ms) H_0 h_ ∧ MutO (L1 :: ms) [] H_0 h_ L1 (D.lst (ys_.map (fun y_ : Str => (D.v (V.str y_))))) ∧ ys_.length ≤ n_) hM ⟨wd_cell hW nl2, keep_cell nl2 Keep.refl, mo_newL (ds := []) hW nl2 repL_nil, Nat.le_refl _⟩ ?_ ?_
    · skip
      rintro x12  n3 ys4 k5 H17 hn ⟨hW, hk6, mu7, ln8⟩ hM Nx11 hN9
      refine ⟨rfl, ?_⟩
      refine tyes_of ?_
      refine ⟨_, rfl, ?_⟩
      obtain ⟨c18, h19, hM⟩ := hM
      apply rep_ixD T.kd_CONTRARIES h19
      refine mo_end mu7 hn (by rw [List.length_map]; exact ln8) fun vs20 hr21 => ?_
      have mk23 := mo_setL mu7 (repL_snoc (e := (fun y_ : Str => (D.v (V.str y_)))) (xs := ys4) (y := c18) hr21 rep_v)
      replace hk6 := keep_put (o := .lst (vs20 ++ [V.str c18])) mu7.im hk6
      replace hW := wd_put (o := .lst (vs20 ++ [V.str c18])) hW mu7
      replace mu7 := mk23
      generalize upd H17 L1 (.lst (vs20 ++ [V.str c18])) = H24 at *
      replace mu7 : MutO (L1 :: ms) [] H_0 H24 L1 (D.lst ((ys4 ++ [c18]).map (fun y_ : Str => (D.v (V.str y_))))) := mu7
      clear mk23
      exact hN9 c18 _ hM ⟨hW, hk6, mu7, by rw [List.length_append]; exact Nat.add_le_add_right ln8 1⟩
    · skip
      rintro n3 ys25 H26 hM ⟨hW, hk6, mu7, ln8⟩
      clear hk6 ln8
      have h27 := mo_rep_dr dr_here nm16 mu7
      replace hW := wd_dr dr_here mu7.hp hW
      clear mu7
      obtain ⟨g28, hM⟩ := hM
      apply rep_join (a := ("" : Str)) (ys := ys25) h27 g28
      exact hQ (Txt.join ("" : Str) ys25) _ _ hM hW.out rep_v
def M_Rule_word (x_self : (Int × (Str × Str × Str) × Str × Bool)) (KM : (Str × Str × Str) → Prop) : Prop :=
  (KM x_self.2.1)
def sp_Rule_word (A : Ad) : Sp := fun vs H Q _ => ∃ (ms : List Addr) (v_self : V) (x_self : (Int × (Str × Str × Str) × Str × Bool)) (KM : (Str × Str × Str) → Prop), vs = [v_self] ∧ Wd ms [] [] H H ∧ rep ms H (eRule A x_self) v_self ∧ M_Rule_word x_self KM ∧ ∀ (r : (Str × Str × Str)) (u : V) (H1 : Hp), KM r → Ret [] H H1 → rep ms H1 (eWord A r) u → Q u H1
set_option maxHeartbeats 16000000 in
theorem ok_Rule_word {P : Program} {w : World} {K : PySem.W.Frag} {mg : Str → Option Value} {base : Heap} {A : Ad} (T : Txt w K mg A) : FnOk P w K mg base CX0 1 A.a_Rule_word A.d_Rule_word ["self"] (sp_Rule_word A) := by
  refine T.F_Rule_word.ok sc_Rule_word (fun vs H Q E h => ?_) (fun cdv A_ outer s_ H_0 vs Q E hr h => ?_)
  · obtain ⟨ms, v_self, x_self, KM, rfl, _⟩ := h
    rfl
  · obtain ⟨ms, v_self, x_self, KM, rfl, hW, h_self, hM, hQ⟩ := h
    unfold M_Rule_word at hM
    refine ⟨_, (pss_one (ps_ret (pe_fld (pv 0) rfl))), ?_⟩
    refine ⟨_, rfl, ?_⟩
    apply rep_fld (j := 1) h_self T.cl_Rule T.na_Rule__word nd_Rule rfl rfl
    intro u2 h1
    exact hQ x_self.2.1 _ _ hM hW.out h1
def M_check_places (x_word : (Str × Str × Str)) (x_places : Int) (KM : Unit → Prop) : Prop :=
  (M_is_integer x_places fun r1 => (if (!r1) = true then False else (M_Word_least x_word fun r7 => (if (decide (x_places < r7)) = true then False else (KM ())))))
def sp_check_places (A : Ad) : Sp := fun vs H Q _ => ∃ (ms : List Addr) (v_word : V) (x_word : (Str × Str × Str)) (x_places : Int) (KM : Unit → Prop), vs = [v_word, V.int x_places] ∧ Wd ms [] [] H H ∧ rep ms H (eWord A x_word) v_word ∧ M_check_places x_word x_places KM ∧ ∀ (r : Unit) (u : V) (H1 : Hp), KM r → Ret [] H H1 → rep ms H1 (D.v V.non) u → Q u H1
set_option maxHeartbeats 16000000 in
theorem ok_check_places {P : Program} {w : World} {K : PySem.W.Frag} {mg : Str → Option Value} {base : Heap} {A : Ad} (T : Txt w K mg A) : FnOk P w K mg base CX0 3 A.a_check_places A.d_check_places ["word", "places"] (sp_check_places A) := by
  refine T.F_check_places.ok sc_check_places (fun vs H Q E h => ?_) (fun cdv A_ outer s_ H_0 vs Q E hr h => ?_)
  · obtain ⟨ms, v_word, x_word, x_places, KM, rfl, _⟩ := h
    rfl
  · obtain ⟨ms, v_word, x_word, x_places, KM, rfl, hW, h_word, hM, hQ⟩ := h
    unfold M_check_places at hM
    refine ⟨_, (pss_one (ps_if (PW.pt (pw_or (pt_not (pt_val (pe_call (ok_is_integer T) (hr.mono (by decide)) (by rfl) T.g_is_integer T.F_is_integer.kp T.b_is_integer .nil pass0 (pa_cons (pv 1) pa_nil)))) (pw_or1 (pt_cmpR op_lt (pv 1) (pe_prop (pv 0) T.cl_Word T.p_Word_least (ok_Word_least T) (hr.mono (by decide)) T.b_Word_least .nil pass0 rfl) (nomark _))))) (pss_one ps_never) pss_nil)), ?_⟩
    refine ⟨_, rfl, ?_⟩
    refine ⟨ms, x_places, _, rfl, hW.enter0, hM, fun r1 u4 H5 hM e3 h2 => ?_⟩
    replace h_word := rep_ext e3 h_word
    replace hW := hW.ret0 e3
    obtain rfl := of_v h2
    refine ⟨_, rfl, ?_⟩
    refine ite3 hM (fun hM => ?_) (fun hM => ?_)
    · skip
      refine iteT ?_
      exact hM
    · skip
      refine ⟨_, rfl, ?_⟩
      refine ⟨_, rfl, ?_⟩
      apply rep_prop h_word
      intro _ h6
      refine ⟨ms, _, x_word, _, rfl, hW.enter0, h6, hM, fun r7 u10 H11 hM e9 h8 => ?_⟩
      replace h_word := rep_ext e9 h_word
      replace hW := hW.ret0 e9
      obtain rfl := of_v h8
      refine ⟨_, _, rfl, rfl, ?_⟩
      refine ⟨_, rfl, ?_⟩
      refine ite3 hM (fun hM => ?_) (fun hM => ?_)
      · skip
        exact hM
      · skip
        exact hQ () _ _ hM hW.out rep_v
def M_Word_mark (x_self : (Str × Str × Str)) (x_places : Int) (x_place : Int) (KM : Str → Prop) : Prop :=
  (M_check_places x_self x_places fun r1 => (M_is_integer x_place fun r6 => (if (!r6) = true then False else (if (decide (x_place < (1 : Int))) = true then False else (if (decide (x_places < x_place)) = true then False else (x_self.1.length ≤ sizeLine ∧ (if (decide (x_place ≤ (x_self.1.length : Int))) = true then (x_self.1.length ≤ sizeLine ∧ ∃ c17, atI x_self.1.cps.toList (x_place - (1 : Int)) = some c17 ∧ (KM (Str.mk #[c17]))) else (x_self.2.2.length ≤ sizeLine ∧ (if (decide ((x_places - (x_self.2.2.length : Int)) < x_place)) = true then (x_self.2.2.length ≤ sizeLine ∧ ∃ c24, atI x_self.2.2.cps.toList ((x_place - (x_places - (x_self.2.2.length : Int))) - (1 : Int)) = some c24 ∧ (KM (Str.mk #[c24]))) else (x_self.1.length ≤ sizeLine ∧ (x_self.2.1.length ≤ sizeLine ∧ (0 < (x_self.2.1.length : Int) ∧ (x_self.2.1.length ≤ sizeLine ∧ ∃ c35, atI x_self.2.1.cps.toList (((x_place - (x_self.1.length : Int)) - (1 : Int)) % (x_self.2.1.length : Int)) = some c35 ∧ (KM (Str.mk #[c35])))))))))))))))
def sp_Word_mark (A : Ad) : Sp := fun vs H Q _ => ∃ (ms : List Addr) (v_self : V) (x_self : (Str × Str × Str)) (x_places : Int) (x_place : Int) (KM : Str → Prop), vs = [v_self, V.int x_places, V.int x_place] ∧ Wd ms [] [] H H ∧ rep ms H (eWord A x_self) v_self ∧ M_Word_mark x_self x_places x_place KM ∧ ∀ (r : Str) (u : V) (H1 : Hp), KM r → Ret [] H H1 → rep ms H1 (D.v (V.str r)) u → Q u H1
set_option maxHeartbeats 16000000 in
theorem ok_Word_mark {P : Program} {w : World} {K : PySem.W.Frag} {mg : Str → Option Value} {base : Heap} {A : Ad} (T : Txt w K mg A) : FnOk P w K mg base CX0 4 A.a_Word_mark A.d_Word_mark ["self", "places", "place"] (sp_Word_mark A) := by
  refine T.F_Word_mark.ok sc_Word_mark (fun vs H Q E h => ?_) (fun cdv A_ outer s_ H_0 vs Q E hr h => ?_)
  · obtain ⟨ms, v_self, x_self, x_places, x_place, KM, rfl, _⟩ := h
    rfl
  · obtain ⟨ms, v_self, x_self, x_places, x_place, KM, rfl, hW, h_self, hM, hQ⟩ := h
    unfold M_Word_mark at hM
    refine ⟨_, (pss_cons (ps_expr (pe_call (ok_check_places T) (hr.mono (by decide)) (by rfl) T.g_check_places T.F_check_places.kp T.b_check_places .nil pass0 (pa_cons (pv 0) (pa_cons (pv 1) pa_nil)))) (pss_cons (ps_if (PW.pt (pw_or (pt_not (pt_val (pe_call (ok_is_integer T) (hr.mono (by decide)) (by rfl) T.g_is_integer T.F_is_integer.kp T.b_is_integer .nil pass0 (pa_cons (pv 2) pa_nil)))) (pw_or (pt_cmpR op_lt (pv 2) pe_int (nomark _)) (pw_or1 (pt_cmpR op_gt (pv 2) (pv 1) (nomark _)))))) (pss_one ps_never) pss_nil) (pss_cons (ps_if (pt_cmpR op_le (pv 2) (pe_callB call_len_str (by rfl) T.z_len PySem.boot_len (pa_cons (pe_fld (pv 0) rfl) pa_nil)) (nomark _)) (pss_one (ps_ret (pe_ix ix_str (pe_fld (pv 0) rfl) (pe_op op_sub (pv 2) pe_int) (fun _ _ => rfl)))) pss_nil) (pss_cons (ps_set (i := 3) sc_Word_mark.nd rfl (by first | exact Or.inl rfl | exact Or.inr rfl) (pe_op op_sub (pv 1) (pe_callB call_len_str (by rfl) T.z_len PySem.boot_len (pa_cons (pe_fld (pv 0) rfl) pa_nil)))) (pss_cons (ps_if (pt_cmpR op_gt (pv 2) (pv 3) (nomark _)) (pss_one (ps_ret (pe_ix ix_str (pe_fld (pv 0) rfl) (pe_op op_sub (pe_op op_sub (pv 2) (pv 3)) pe_int) (fun _ _ => rfl)))) pss_nil) (pss_one (ps_ret (pe_ix ix_str (pe_fld (pv 0) rfl) (pe_op op_mod (pe_op op_sub (pe_op op_sub (pv 2) (pe_callB call_len_str (by rfl) T.z_len PySem.boot_len (pa_cons (pe_fld (pv 0) rfl) pa_nil))) pe_int) (pe_callB call_len_str (by rfl) T.z_len PySem.boot_len (pa_cons (pe_fld (pv 0) rfl) pa_nil))) (fun _ _ => rfl))))))))), ?_⟩
    refine ⟨_, rfl, ?_⟩
    refine ⟨_, rfl, ?_⟩
    refine ⟨ms, _, x_self, x_places, _, rfl, hW.enter0, h_self, hM, fun r1 u4 H5 hM e3 h2 => ?_⟩
    replace h_self := rep_ext e3 h_self
    replace hW := hW.ret0 e3
    obtain rfl := of_v h2
    refine ⟨_, rfl, ?_⟩
    refine ⟨ms, x_place, _, rfl, hW.enter0, hM, fun r6 u9 H10 hM e8 h7 => ?_⟩
    replace h_self := rep_ext e8 h_self
    replace hW := hW.ret0 e8
    obtain rfl := of_v h7
    refine ⟨_, rfl, ?_⟩
    refine ite3 hM (fun hM => ?_) (fun hM => ?_)
    · skip
      refine iteT ?_
      exact hM
    · skip
      refine ⟨_, rfl, ?_⟩
      refine ⟨_, _, rfl, rfl, ?_⟩
      refine ⟨_, rfl, ?_⟩
      refine ite3 hM (fun hM => ?_) (fun hM => ?_)
      · skip
        refine iteT ?_
        exact hM
      · skip
        refine ⟨_, rfl, ?_⟩
        refine ⟨_, rfl, ?_⟩
        refine ⟨_, _, rfl, rfl, ?_⟩
        refine ⟨_, rfl, ?_⟩
        refine ite3 hM (fun hM => ?_) (fun hM => ?_)
        · skip
          exact hM
        · skip
          refine ⟨_, rfl, ?_⟩
          refine ⟨_, rfl, ?_⟩
          apply rep_fld (j := 0) h_self T.cl_Word T.na_Word__head nd_Word rfl rfl
          intro u12 h11
          obtain rfl := of_v h11
          obtain ⟨g13, hM⟩ := hM
          refine ⟨_, rfl, g13, ?_⟩
          refine ⟨_, _, rfl, rfl, ?_⟩
          refine ⟨_, rfl, ?_⟩
          refine ite3 hM (fun hM => ?_) (fun hM => ?_)
          · skip
            refine ⟨_, rfl, ?_⟩
            apply rep_fld (j := 0) h_self T.cl_Word T.na_Word__head nd_Word rfl rfl
            intro u15 h14
            obtain rfl := of_v h14
            refine ⟨_, rfl, ?_⟩
            refine ⟨_, _, rfl, rfl, ?_⟩
            obtain ⟨g16, hM⟩ := hM
            obtain ⟨c17, c17h, hM⟩ := hM
            refine ⟨_, _, _, rfl, rfl, g16, c17h, ?_⟩
            exact hQ (Str.mk #[c17]) _ _ hM hW.out rep_v
          · skip
            refine ⟨_, rfl, ?_⟩
            refine ⟨_, rfl, ?_⟩
            apply rep_fld (j := 2) h_self T.cl_Word T.na_Word__tail nd_Word rfl rfl
            intro u19 h18
            obtain rfl := of_v h18
            obtain ⟨g20, hM⟩ := hM
            refine ⟨_, rfl, g20, ?_⟩
            refine ⟨_, _, rfl, rfl, ?_⟩
            refine ⟨_, rfl, ?_⟩
            refine ⟨_, rfl, ?_⟩
            refine ⟨_, _, rfl, rfl, ?_⟩
            refine ⟨_, rfl, ?_⟩
            refine ite3 hM (fun hM => ?_) (fun hM => ?_)
            · skip
              refine ⟨_, rfl, ?_⟩
              apply rep_fld (j := 2) h_self T.cl_Word T.na_Word__tail nd_Word rfl rfl
              intro u22 h21
              obtain rfl := of_v h21
              refine ⟨_, rfl, ?_⟩
              refine ⟨_, rfl, ?_⟩
              refine ⟨_, _, rfl, rfl, ?_⟩
              refine ⟨_, _, rfl, rfl, ?_⟩
              obtain ⟨g23, hM⟩ := hM
              obtain ⟨c24, c24h, hM⟩ := hM
              refine ⟨_, _, _, rfl, rfl, g23, c24h, ?_⟩
              exact hQ (Str.mk #[c24]) _ _ hM hW.out rep_v
            · skip
              refine ⟨_, rfl, ?_⟩
              apply rep_fld (j := 1) h_self T.cl_Word T.na_Word__middle nd_Word rfl rfl
              intro u26 h25
              obtain rfl := of_v h25
              refine ⟨_, rfl, ?_⟩
              refine ⟨_, rfl, ?_⟩
              apply rep_fld (j := 0) h_self T.cl_Word T.na_Word__head nd_Word rfl rfl
              intro u28 h27
              obtain rfl := of_v h27
              obtain ⟨g29, hM⟩ := hM
              refine ⟨_, rfl, g29, ?_⟩
              refine ⟨_, _, rfl, rfl, ?_⟩
              refine ⟨_, _, rfl, rfl, ?_⟩
              refine ⟨_, rfl, ?_⟩
              apply rep_fld (j := 1) h_self T.cl_Word T.na_Word__middle nd_Word rfl rfl
              intro u31 h30
              obtain rfl := of_v h30
              obtain ⟨g32, hM⟩ := hM
              refine ⟨_, rfl, g32, ?_⟩
              obtain ⟨g33, hM⟩ := hM
              refine ⟨_, _, rfl, rfl, g33, ?_⟩
              obtain ⟨g34, hM⟩ := hM
              obtain ⟨c35, c35h, hM⟩ := hM
              refine ⟨_, _, _, rfl, rfl, g34, c35h, ?_⟩
              exact hQ (Str.mk #[c35]) _ _ hM hW.out rep_v
def M_Rule_turned (x_self : (Int × (Str × Str × Str) × Str × Bool)) (KM : Bool → Prop) : Prop :=
  (KM x_self.2.2.2)
def sp_Rule_turned (A : Ad) : Sp := fun vs H Q _ => ∃ (ms : List Addr) (v_self : V) (x_self : (Int × (Str × Str × Str) × Str × Bool)) (KM : Bool → Prop), vs = [v_self] ∧ Wd ms [] [] H H ∧ rep ms H (eRule A x_self) v_self ∧ M_Rule_turned x_self KM ∧ ∀ (r : Bool) (u : V) (H1 : Hp), KM r → Ret [] H H1 → rep ms H1 (D.v (V.bl r)) u → Q u H1
set_option maxHeartbeats 16000000 in
theorem ok_Rule_turned {P : Program} {w : World} {K : PySem.W.Frag} {mg : Str → Option Value} {base : Heap} {A : Ad} (T : Txt w K mg A) : FnOk P w K mg base CX0 1 A.a_Rule_turned A.d_Rule_turned ["self"] (sp_Rule_turned A) := by
  refine T.F_Rule_turned.ok sc_Rule_turned (fun vs H Q E h => ?_) (fun cdv A_ outer s_ H_0 vs Q E hr h => ?_)
  · obtain ⟨ms, v_self, x_self, KM, rfl, _⟩ := h
    rfl
  · obtain ⟨ms, v_self, x_self, KM, rfl, hW, h_self, hM, hQ⟩ := h
    unfold M_Rule_turned at hM
    refine ⟨_, (pss_one (ps_ret (pe_fld (pv 0) rfl))), ?_⟩
    refine ⟨_, rfl, ?_⟩
    apply rep_fld (j := 3) h_self T.cl_Rule T.na_Rule__turned nd_Rule rfl rfl
    intro u2 h1
    obtain rfl := of_v h1
    exact hQ x_self.2.2.2 _ _ hM hW.out rep_v
def M_turned_if (x_rule : (Int × (Str × Str × Str) × Str × Bool)) (x_day : Int) (x_marks : Str) (KM : Str → Prop) : Prop :=
  (∃ KB1 : Str → Prop, (M_Rule_turned x_rule fun r5 => (if r5 = true then (if (decide (V.int (x_day % (2 : Int)) = V.int (1 : Int))) = true then (M_contrary_marks x_marks fun r10 => (KB1 r10)) else (KB1 x_marks)) else (KB1 x_marks))) ∧ ∀ r15 : Str, KB1 r15 → (KM r15))
def sp_turned_if (A : Ad) : Sp := fun vs H Q _ => ∃ (ms : List Addr) (v_rule : V) (x_rule : (Int × (Str × Str × Str) × Str × Bool)) (x_day : Int) (x_marks : Str) (KM : Str → Prop), vs = [v_rule, V.int x_day, V.str x_marks] ∧ Wd ms [] [] H H ∧ rep ms H (eRule A x_rule) v_rule ∧ M_turned_if x_rule x_day x_marks KM ∧ ∀ (r : Str) (u : V) (H1 : Hp), KM r → Ret [] H H1 → rep ms H1 (D.v (V.str r)) u → Q u H1
set_option maxHeartbeats 16000000 in
theorem ok_turned_if {P : Program} {w : World} {K : PySem.W.Frag} {mg : Str → Option Value} {base : Heap} {A : Ad} (T : Txt w K mg A) : FnOk P w K mg base CX0 3 A.a_turned_if A.d_turned_if ["rule", "day", "marks"] (sp_turned_if A) := by
  refine T.F_turned_if.ok sc_turned_if (fun vs H Q E h => ?_) (fun cdv A_ outer s_ H_0 vs Q E hr h => ?_)
  · obtain ⟨ms, v_rule, x_rule, x_day, x_marks, KM, rfl, _⟩ := h
    rfl
  · obtain ⟨ms, v_rule, x_rule, x_day, x_marks, KM, rfl, hW, h_rule, hM, hQ⟩ := h
    unfold M_turned_if at hM
    refine ⟨_, (pss_one (ps_ret (pe_up (pe_ifExp (PW.pt (pw_and (pt_val (pe_prop (pv 0) T.cl_Rule T.p_Rule_turned (ok_Rule_turned T) (hr.mono (by decide)) T.b_Rule_turned .nil pass0 rfl)) (pw_and1 (pt_cmpR op_eq (pe_op op_mod (pv 1) pe_int) pe_int (nomark _))))) (pe_call (ok_contrary_marks T) (hr.mono (by decide)) (by rfl) T.g_contrary_marks T.F_contrary_marks.kp T.b_contrary_marks .nil pass0 (pa_cons (pv 2) pa_nil)) (pv 2))))), ?_⟩
    obtain ⟨KB1, hM, hKKB1⟩ := hM
    refine ⟨fun v H1 => ∃ r : Str, KB1 r ∧ Wd ms [] [] H_0 H1 ∧ Keep ms H_0 H1 ∧ rep ms H1 (D.v (V.str r)) v, ?_, ?_⟩
    · skip
      have hj3 := Keep.refl (ms := ms) (H := H_0)
      refine ⟨_, rfl, ?_⟩
      apply rep_prop h_rule
      intro _ h4
      refine ⟨ms, _, x_rule, _, rfl, hW.enter0, h4, hM, fun r5 u8 H9 hM e7 h6 => ?_⟩
      replace h_rule := rep_ext e7 h_rule
      replace hj3 := keep_ext e7 hj3
      replace hW := hW.ret0 e7
      obtain rfl := of_v h6
      refine ⟨_, rfl, ?_⟩
      refine ite3 hM (fun hM => ?_) (fun hM => ?_)
      · skip
        refine ⟨_, rfl, ?_⟩
        refine ⟨_, _, rfl, rfl, (by show (0 : Int) < (2 : Int); decide), ?_⟩
        refine ⟨rfl, ?_⟩
        refine ⟨_, rfl, ?_⟩
        refine ite3 hM (fun hM => ?_) (fun hM => ?_)
        · skip
          refine ⟨_, rfl, ?_⟩
          refine ⟨ms, x_marks, _, rfl, hW.enter0, hM, fun r10 u13 H14 hM e12 h11 => ?_⟩
          replace h_rule := rep_ext e12 h_rule
          replace hj3 := keep_ext e12 hj3
          replace hW := hW.ret0 e12
          obtain rfl := of_v h11
          exact ⟨r10, hM, hW, hj3, rep_v⟩
        · skip
          refine ⟨_, rfl, ?_⟩
          exact ⟨x_marks, hM, hW, hj3, rep_v⟩
      · skip
        refine iteF ?_
        refine ⟨_, rfl, ?_⟩
        exact ⟨x_marks, hM, hW, hj3, rep_v⟩
    · skip
      rintro u17 Hj2 ⟨r15, hr, hW, hj3, h16⟩
      replace hM := hKKB1 r15 hr
      replace h_rule := rep_keep hj3 h_rule
      obtain rfl := of_v h16
      exact hQ r15 _ _ hM hW.out rep_v
def M_mark_at (x_rule : (Int × (Str × Str × Str) × Str × Bool)) (x_size : Int) (x_at : Int) (x_day : Int) (KM : Str → Prop) : Prop :=
  (if (decide (V.int x_at = V.int (0 : Int))) = true then (M_stander_mark x_rule x_day fun r1 => (M_contrary_marks r1 fun r6 => (KM r6))) else (M_Rule_word x_rule fun r12 => (M_Word_mark r12 ((x_size / (2 : Int)) - (1 : Int)) (if x_at < 0 then -x_at else x_at) fun r17 => (M_turned_if x_rule x_day r17 fun r22 => (∃ KB27 : Str → Prop, (if (decide ((0 : Int) < x_at)) = true then (KB27 r22) else (M_contrary_marks r22 fun r30 => (KB27 r30))) ∧ ∀ r35 : Str, KB27 r35 → (KM r35))))))
def sp_mark_at (A : Ad) : Sp := fun vs H Q _ => ∃ (ms : List Addr) (v_rule : V) (x_rule : (Int × (Str × Str × Str) × Str × Bool)) (x_size : Int) (x_at : Int) (x_day : Int) (KM : Str → Prop), vs = [v_rule, V.int x_size, V.int x_at, V.int x_day] ∧ Wd ms [] [] H H ∧ rep ms H (eRule A x_rule) v_rule ∧ M_mark_at x_rule x_size x_at x_day KM ∧ ∀ (r : Str) (u : V) (H1 : Hp), KM r → Ret [] H H1 → rep ms H1 (D.v (V.str r)) u → Q u H1
set_option maxHeartbeats 16000000 in
theorem ok_mark_at {P : Program} {w : World} {K : PySem.W.Frag} {mg : Str → Option Value} {base : Heap} {A : Ad} (T : Txt w K mg A) : FnOk P w K mg base CX0 5 A.a_mark_at A.d_mark_at ["rule", "size", "at", "day"] (sp_mark_at A) := by
  refine T.F_mark_at.ok sc_mark_at (fun vs H Q E h => ?_) (fun cdv A_ outer s_ H_0 vs Q E hr h => ?_)
  · obtain ⟨ms, v_rule, x_rule, x_size, x_at, x_day, KM, rfl, _⟩ := h
    rfl
  · obtain ⟨ms, v_rule, x_rule, x_size, x_at, x_day, KM, rfl, hW, h_rule, hM, hQ⟩ := h
    unfold M_mark_at at hM
    refine ⟨_, (pss_cons (ps_if (pt_cmpR op_eq (pv 2) pe_int (nomark _)) (pss_one (ps_ret (pe_call (ok_contrary_marks T) (hr.mono (by decide)) (by rfl) T.g_contrary_marks T.F_contrary_marks.kp T.b_contrary_marks .nil pass0 (pa_cons (pe_call (ok_stander_mark T) (hr.mono (by decide)) (by rfl) T.g_stander_mark T.F_stander_mark.kp T.b_stander_mark .nil pass0 (pa_cons (pv 0) (pa_cons (pv 3) pa_nil))) pa_nil)))) pss_nil) (pss_cons (ps_set (i := 4) sc_mark_at.nd rfl (by first | exact Or.inl rfl | exact Or.inr rfl) (pe_call (ok_turned_if T) (hr.mono (by decide)) (by rfl) T.g_turned_if T.F_turned_if.kp T.b_turned_if .nil pass0 (pa_cons (pv 0) (pa_cons (pv 3) (pa_cons (pe_meth (pe_prop (pv 0) T.cl_Rule T.p_Rule_word (ok_Rule_word T) (hr.mono (by decide)) T.b_Rule_word .nil pass0 rfl) T.cl_Word T.m_Word_mark (ok_Word_mark T) (hr.mono (by decide)) T.b_Word_mark .nil pass0 (pa_cons (pe_op op_sub (pe_op op_fdivW (pv 1) pe_int) pe_int) (pa_cons (pe_callB call_abs (by rfl) T.z_abs (by decide +kernel) (pa_cons (pv 2) pa_nil)) pa_nil))) pa_nil))))) (pss_one (ps_ret (pe_up (pe_ifExp (pt_cmpR op_gt (pv 2) pe_int (nomark _)) (pv 4) (pe_call (ok_contrary_marks T) (hr.mono (by decide)) (by rfl) T.g_contrary_marks T.F_contrary_marks.kp T.b_contrary_marks .nil pass0 (pa_cons (pv 4) pa_nil)))))))), ?_⟩
    refine ⟨_, rfl, ?_⟩
    refine ⟨rfl, ?_⟩
    refine ⟨_, rfl, ?_⟩
    refine ite3 hM (fun hM => ?_) (fun hM => ?_)
    · skip
      refine ⟨_, rfl, ?_⟩
      refine ⟨_, rfl, ?_⟩
      refine ⟨ms, _, x_rule, x_day, _, rfl, hW.enter0, h_rule, hM, fun r1 u4 H5 hM e3 h2 => ?_⟩
      replace h_rule := rep_ext e3 h_rule
      replace hW := hW.ret0 e3
      obtain rfl := of_v h2
      refine ⟨ms, r1, _, rfl, hW.enter0, hM, fun r6 u9 H10 hM e8 h7 => ?_⟩
      replace h_rule := rep_ext e8 h_rule
      replace hW := hW.ret0 e8
      obtain rfl := of_v h7
      exact hQ r6 _ _ hM hW.out rep_v
    · skip
      refine ⟨_, rfl, ?_⟩
      refine ⟨_, rfl, ?_⟩
      refine ⟨_, rfl, ?_⟩
      apply rep_prop h_rule
      intro _ h11
      refine ⟨ms, _, x_rule, _, rfl, hW.enter0, h11, hM, fun r12 u15 H16 hM e14 h13 => ?_⟩
      replace h_rule := rep_ext e14 h_rule
      replace hW := hW.ret0 e14
      apply rep_meth (m := "mark") h13 (by decide +kernel)
      refine ⟨_, rfl, ?_⟩
      refine ⟨_, _, rfl, rfl, ⟨by decide, by decide⟩, ?_⟩
      refine ⟨_, _, rfl, rfl, ?_⟩
      refine ⟨_, rfl, ?_⟩
      refine ⟨_, rfl, ?_⟩
      refine ⟨ms, _, r12, ((x_size / (2 : Int)) - (1 : Int)), (if x_at < 0 then -x_at else x_at), _, rfl, hW.enter0, h13, hM, fun r17 u20 H21 hM e19 h18 => ?_⟩
      replace h_rule := rep_ext e19 h_rule
      replace h13 := rep_ext e19 h13
      replace hW := hW.ret0 e19
      obtain rfl := of_v h18
      refine ⟨ms, _, x_rule, x_day, r17, _, rfl, hW.enter0, h_rule, hM, fun r22 u25 H26 hM e24 h23 => ?_⟩
      replace h_rule := rep_ext e24 h_rule
      replace h13 := rep_ext e24 h13
      replace hW := hW.ret0 e24
      obtain rfl := of_v h23
      obtain ⟨KB27, hM, hKKB27⟩ := hM
      refine ⟨fun v H1 => ∃ r : Str, KB27 r ∧ Wd ms [] [] H_0 H1 ∧ Keep ms H26 H1 ∧ rep ms H1 (D.v (V.str r)) v, ?_, ?_⟩
      · skip
        have hj29 := Keep.refl (ms := ms) (H := H26)
        refine ⟨_, rfl, ?_⟩
        refine ⟨_, _, rfl, rfl, ?_⟩
        refine ⟨_, rfl, ?_⟩
        refine ite3 hM (fun hM => ?_) (fun hM => ?_)
        · skip
          refine ⟨_, rfl, ?_⟩
          exact ⟨r22, hM, hW, hj29, rep_v⟩
        · skip
          refine ⟨_, rfl, ?_⟩
          refine ⟨ms, r22, _, rfl, hW.enter0, hM, fun r30 u33 H34 hM e32 h31 => ?_⟩
          replace h_rule := rep_ext e32 h_rule
          replace h13 := rep_ext e32 h13
          replace hj29 := keep_ext e32 hj29
          replace hW := hW.ret0 e32
          obtain rfl := of_v h31
          exact ⟨r30, hM, hW, hj29, rep_v⟩
      · skip
        rintro u37 Hj28 ⟨r35, hr, hW, hj29, h36⟩
        replace hM := hKKB27 r35 hr
        replace h_rule := rep_keep hj29 h_rule
        replace h13 := rep_keep hj29 h13
        obtain rfl := of_v h36
        exact hQ r35 _ _ hM hW.out rep_v
def M_mark_of (x_rule : (Int × (Str × Str × Str) × Str × Bool)) (x_size : Int) (x_team : Int) (x_day : Int) (KM : Str → Prop) : Prop :=
  (M_check x_rule x_size x_team x_day fun r1 => (if (decide (V.int x_team = V.int (x_size - (1 : Int)))) = true then (M_stander_mark x_rule x_day fun r6 => (KM r6)) else (M_seat x_rule x_size x_team x_day fun r11 => (M_mark_at x_rule x_size r11 x_day fun r16 => (KM r16)))))
def sp_mark_of (A : Ad) : Sp := fun vs H Q _ => ∃ (ms : List Addr) (v_rule : V) (x_rule : (Int × (Str × Str × Str) × Str × Bool)) (x_size : Int) (x_team : Int) (x_day : Int) (KM : Str → Prop), vs = [v_rule, V.int x_size, V.int x_team, V.int x_day] ∧ Wd ms [] [] H H ∧ rep ms H (eRule A x_rule) v_rule ∧ M_mark_of x_rule x_size x_team x_day KM ∧ ∀ (r : Str) (u : V) (H1 : Hp), KM r → Ret [] H H1 → rep ms H1 (D.v (V.str r)) u → Q u H1
set_option maxHeartbeats 16000000 in
theorem ok_mark_of {P : Program} {w : World} {K : PySem.W.Frag} {mg : Str → Option Value} {base : Heap} {A : Ad} (T : Txt w K mg A) : FnOk P w K mg base CX0 8 A.a_mark_of A.d_mark_of ["rule", "size", "team", "day"] (sp_mark_of A) := by
  refine T.F_mark_of.ok sc_mark_of (fun vs H Q E h => ?_) (fun cdv A_ outer s_ H_0 vs Q E hr h => ?_)
  · obtain ⟨ms, v_rule, x_rule, x_size, x_team, x_day, KM, rfl, _⟩ := h
    rfl
  · obtain ⟨ms, v_rule, x_rule, x_size, x_team, x_day, KM, rfl, hW, h_rule, hM, hQ⟩ := h
    unfold M_mark_of at hM
    refine ⟨_, (pss_cons (ps_expr (pe_call (ok_check T) (hr.mono (by decide)) (by rfl) T.g_check T.F_check.kp T.b_check .nil pass0 (pa_cons (pv 0) (pa_cons (pv 1) (pa_cons (pv 2) (pa_cons (pv 3) pa_nil)))))) (pss_cons (ps_if (pt_cmpR op_eq (pv 2) (pe_op op_sub (pv 1) pe_int) (nomark _)) (pss_one (ps_ret (pe_call (ok_stander_mark T) (hr.mono (by decide)) (by rfl) T.g_stander_mark T.F_stander_mark.kp T.b_stander_mark .nil pass0 (pa_cons (pv 0) (pa_cons (pv 3) pa_nil))))) pss_nil) (pss_one (ps_ret (pe_call (ok_mark_at T) (hr.mono (by decide)) (by rfl) T.g_mark_at T.F_mark_at.kp T.b_mark_at .nil pass0 (pa_cons (pv 0) (pa_cons (pv 1) (pa_cons (pe_call (ok_seat T) (hr.mono (by decide)) (by rfl) T.g_seat T.F_seat.kp T.b_seat .nil pass0 (pa_cons (pv 0) (pa_cons (pv 1) (pa_cons (pv 2) (pa_cons (pv 3) pa_nil))))) (pa_cons (pv 3) pa_nil))))))))), ?_⟩
    refine ⟨_, rfl, ?_⟩
    refine ⟨_, rfl, ?_⟩
    refine ⟨_, rfl, ?_⟩
    refine ⟨_, rfl, ?_⟩
    refine ⟨ms, _, x_rule, x_size, x_team, x_day, _, rfl, hW.enter0, h_rule, hM, fun r1 u4 H5 hM e3 h2 => ?_⟩
    replace h_rule := rep_ext e3 h_rule
    replace hW := hW.ret0 e3
    obtain rfl := of_v h2
    refine ⟨_, rfl, ?_⟩
    refine ⟨_, rfl, ?_⟩
    refine ⟨_, _, rfl, rfl, ?_⟩
    refine ⟨rfl, ?_⟩
    refine ⟨_, rfl, ?_⟩
    refine ite3 hM (fun hM => ?_) (fun hM => ?_)
    · skip
      refine ⟨_, rfl, ?_⟩
      refine ⟨_, rfl, ?_⟩
      refine ⟨ms, _, x_rule, x_day, _, rfl, hW.enter0, h_rule, hM, fun r6 u9 H10 hM e8 h7 => ?_⟩
      replace h_rule := rep_ext e8 h_rule
      replace hW := hW.ret0 e8
      obtain rfl := of_v h7
      exact hQ r6 _ _ hM hW.out rep_v
    · skip
      refine ⟨_, rfl, ?_⟩
      refine ⟨_, rfl, ?_⟩
      refine ⟨_, rfl, ?_⟩
      refine ⟨_, rfl, ?_⟩
      refine ⟨_, rfl, ?_⟩
      refine ⟨_, rfl, ?_⟩
      refine ⟨ms, _, x_rule, x_size, x_team, x_day, _, rfl, hW.enter0, h_rule, hM, fun r11 u14 H15 hM e13 h12 => ?_⟩
      replace h_rule := rep_ext e13 h_rule
      replace hW := hW.ret0 e13
      obtain rfl := of_v h12
      refine ⟨_, rfl, ?_⟩
      refine ⟨ms, _, x_rule, x_size, r11, x_day, _, rfl, hW.enter0, h_rule, hM, fun r16 u19 H20 hM e18 h17 => ?_⟩
      replace h_rule := rep_ext e18 h_rule
      replace hW := hW.ret0 e18
      obtain rfl := of_v h17
      exact hQ r16 _ _ hM hW.out rep_v
def M_pair_homes (x_rule : (Int × (Str × Str × Str) × Str × Bool)) (x_size : Int) (x_legs : (List (Int × Int × Bool))) (x_one : Int) (x_other : Int) (KM : Int → Prop) : Prop :=
  (M_check_size x_rule x_size fun r1 => (M_check_legs x_legs fun r6 => (M_rounds_of x_rule x_size x_one x_other fun r11 => (r11.length < 100000 ∧ mapC (fun (x32 : Int) (k25 : Str → Prop) => (M_mark_of x_rule x_size x_one x32 fun r38 => (k25 r38))) r11 [] fun ys48 => (x_legs.length < 100000 ∧ mapC (fun (x67 : (Int × Int × Bool)) (k60 : Int → Prop) => (∃ KB73 : Str → Prop, (if x67.2.2 = true then (KB73 ("a" : Str)) else (KB73 ("h" : Str))) ∧ ∀ r78 : Str, KB73 r78 → (k60 ((List.count r78 ys48 : Nat) : Int)))) x_legs [] fun ys87 => (KM (List.sum ys87)))))))
def sp_pair_homes (A : Ad) : Sp := fun vs H Q _ => ∃ (ms : List Addr) (v_rule : V) (v_legs : V) (x_rule : (Int × (Str × Str × Str) × Str × Bool)) (x_size : Int) (x_legs : (List (Int × Int × Bool))) (x_one : Int) (x_other : Int) (KM : Int → Prop), vs = [v_rule, V.int x_size, v_legs, V.int x_one, V.int x_other] ∧ Wd ms [] [] H H ∧ rep ms H (eRule A x_rule) v_rule ∧ rep ms H (D.lst (x_legs.map (fun y_ : (Int × Int × Bool) => (D.tup [(D.v (V.int y_.1)), (D.v (V.int y_.2.1)), (D.v (V.bl y_.2.2))])))) v_legs ∧ M_pair_homes x_rule x_size x_legs x_one x_other KM ∧ ∀ (r : Int) (u : V) (H1 : Hp), KM r → Ret [] H H1 → rep ms H1 (D.v (V.int r)) u → Q u H1
set_option maxHeartbeats 16000000 in
theorem ok_pair_homes {P : Program} {w : World} {K : PySem.W.Frag} {mg : Str → Option Value} {base : Heap} {A : Ad} (T : Txt w K mg A) : FnOk P w K mg base CX0 9 A.a_pair_homes A.d_pair_homes ["rule", "size", "legs", "one", "other"] (sp_pair_homes A) := by
  refine T.F_pair_homes.ok sc_pair_homes (fun vs H Q E h => ?_) (fun cdv A_ outer s_ H_0 vs Q E hr h => ?_)
  · obtain ⟨ms, v_rule, v_legs, x_rule, x_size, x_legs, x_one, x_other, KM, rfl, _⟩ := h
    rfl
  · obtain ⟨ms, v_rule, v_legs, x_rule, x_size, x_legs, x_one, x_other, KM, rfl, hW, h_rule, h_legs, hM, hQ⟩ := h
    unfold M_pair_homes at hM
    refine ⟨_, (pss_cons (ps_expr (pe_call (ok_check_size T) (hr.mono (by decide)) (by rfl) T.g_check_size T.F_check_size.kp T.b_check_size .nil pass0 (pa_cons (pv 0) (pa_cons (pv 1) pa_nil)))) (pss_cons (ps_expr (pe_call (ok_check_legs T) (hr.mono (by decide)) (by rfl) T.g_check_legs T.F_check_legs.kp T.b_check_legs .nil pass0 (pa_cons (pv 2) pa_nil))) (pss_cons (ps_set (i := 5) sc_pair_homes.nd rfl (by first | exact Or.inl rfl | exact Or.inr rfl) (pe_lc (own := [("day", 6)]) (g := gName 6) rfl sc_pair_homes.nd (pi_list (pe_call (ok_rounds_of T) (hr.mono (by decide)) (by rfl) T.g_rounds_of T.F_rounds_of.kp T.b_rounds_of .nil pass0 (pa_cons (pv 0) (pa_cons (pv 1) (pa_cons (pv 3) (pa_cons (pv 4) pa_nil)))))) (blkOk_by (N := ["rule", "size", "legs", "one", "other", "marks", "day", "leg"]) (sc := defScope s_pair_homes) (by decide +kernel)) (fun _ _ _ _ _ => pg_name (i := 6) sc_pair_homes.nd rfl (by first | exact Or.inl rfl | exact Or.inr rfl)) (fun _ _ _ _ _ => pts_nil) (fun _ _ _ _ _ => (pe_call (ok_mark_of T) (hr.mono (by decide)) (by rfl) T.g_mark_of T.F_mark_of.kp T.b_mark_of .nil pass0 (pa_cons (pv 0) (pa_cons (pv 1) (pa_cons (pv 3) (pa_cons (pv 6) pa_nil)))))))) (pss_one (ps_ret (pe_callB (cr_sumK (K := K) rfl rfl) (by rfl) T.z_sum (by decide +kernel) (pa_cons (pe_lc (own := [("leg", 7)]) (g := gName 7) rfl sc_pair_homes.nd (pi_list (pv 2)) (blkOk_by (N := ["rule", "size", "legs", "one", "other", "marks", "day", "leg"]) (sc := defScope s_pair_homes) (by decide +kernel)) (fun _ _ _ _ _ => pg_name (i := 7) sc_pair_homes.nd rfl (by first | exact Or.inl rfl | exact Or.inr rfl)) (fun _ _ _ _ _ => pts_nil) (fun _ _ _ _ _ => (pe_bmK (K := K) rfl PySem.F.plainAttrs_list PySem.F.slot_list_count PySem.F.type_list_count (mt_lcountSK (K := K) rfl) (pv 5) (pa_cons (pe_up (pe_ifExp (pt_val (pe_ix (ix_tupK (K := K) rfl) (pv 7) pe_int (fun _ _ => rfl))) pe_str pe_str)) pa_nil)))) pa_nil))))))), ?_⟩
    refine ⟨_, rfl, ?_⟩
    refine ⟨_, rfl, ?_⟩
    refine ⟨ms, _, x_rule, x_size, _, rfl, hW.enter0, h_rule, hM, fun r1 u4 H5 hM e3 h2 => ?_⟩
    replace h_rule := rep_ext e3 h_rule
    replace h_legs := rep_ext e3 h_legs
    replace hW := hW.ret0 e3
    obtain rfl := of_v h2
    refine ⟨_, rfl, ?_⟩
    refine ⟨ms, _, x_legs, _, rfl, hW.enter0, h_legs, hM, fun r6 u9 H10 hM e8 h7 => ?_⟩
    replace h_rule := rep_ext e8 h_rule
    replace h_legs := rep_ext e8 h_legs
    replace hW := hW.ret0 e8
    obtain rfl := of_v h7
    refine ⟨_, rfl, ?_⟩
    refine ⟨_, rfl, ?_⟩
    refine ⟨_, rfl, ?_⟩
    refine ⟨_, rfl, ?_⟩
    refine ⟨ms, _, x_rule, x_size, x_one, x_other, _, rfl, hW.enter0, h_rule, hM, fun r11 u14 H15 hM e13 h12 => ?_⟩
    replace h_rule := rep_ext e13 h_rule
    replace h_legs := rep_ext e13 h_legs
    replace hW := hW.ret0 e13
    apply rep_iter h12
    intro a16 xs17 _ an18 hp19 hl20
    refine fun L21 nl22 => ?_
    have nm36 := nm_new hW nl22
    refine lc_listG (L := L21) (fun n_ ys_ h_ => Wd (L21 :: ms) [] [] H_0 h_ ∧ Keep (L21 :: ms) H15 h_ ∧ MutO (L21 :: ms) [] H_0 h_ L21 (D.lst (ys_.map (fun y_ : Str => (D.v (V.str y_))))) ∧ ys_.length ≤ n_) (items := r11) (e := (fun y_ : Int => (D.v (V.int y_)))) an18 hp19 hl20 nl22 (fun _ _ _ q_ => q_.2.1) hM ⟨wd_cell hW nl22, keep_cell nl22 Keep.refl, mo_newL (ds := []) hW nl22 repL_nil, Nat.le_refl _⟩ ?_ ?_
    · skip
      rintro x32 u33 n23 ys24 k25 H37 hn ⟨hW, hk26, mu27, ln28⟩ h34 hM Nx31 hN29
      replace h_rule := rep_keep hk26 (rep_new nl22 h_rule)
      replace h_legs := rep_keep hk26 (rep_new nl22 h_legs)
      replace h12 := rep_keep hk26 (rep_new nl22 h12)
      obtain rfl := of_v h34
      refine ⟨rfl, ?_⟩
      refine tyes_of ?_
      refine ⟨_, rfl, ?_⟩
      refine ⟨_, rfl, ?_⟩
      refine ⟨_, rfl, ?_⟩
      refine ⟨_, rfl, ?_⟩
      refine ⟨(L21 :: ms), _, x_rule, x_size, x_one, x32, _, rfl, hW.enter0, h_rule, hM, fun r38 u41 H42 hM e40 h39 => ?_⟩
      replace h_rule := rep_ext e40 h_rule
      replace h_legs := rep_ext e40 h_legs
      replace h12 := rep_ext e40 h12
      replace hk26 := keep_ext e40 hk26
      replace mu27 := mo_ext e40 mu27
      replace hW := hW.ret0 e40
      obtain rfl := of_v h39
      refine mo_end mu27 hn (by rw [List.length_map]; exact ln28) fun vs43 hr44 => ?_
      have mk46 := mo_setL mu27 (repL_snoc (e := (fun y_ : Str => (D.v (V.str y_)))) (xs := ys24) (y := r38) hr44 rep_v)
      replace h_rule := rep_put (o := .lst (vs43 ++ [V.str r38])) mu27.im h_rule
      replace h_legs := rep_put (o := .lst (vs43 ++ [V.str r38])) mu27.im h_legs
      replace h12 := rep_put (o := .lst (vs43 ++ [V.str r38])) mu27.im h12
      replace hk26 := keep_put (o := .lst (vs43 ++ [V.str r38])) mu27.im hk26
      replace hW := wd_put (o := .lst (vs43 ++ [V.str r38])) hW mu27
      replace mu27 := mk46
      generalize upd H42 L21 (.lst (vs43 ++ [V.str r38])) = H47 at *
      replace mu27 : MutO (L21 :: ms) [] H_0 H47 L21 (D.lst ((ys24 ++ [r38]).map (fun y_ : Str => (D.v (V.str y_))))) := mu27
      clear mk46
      exact hN29 r38 _ hM ⟨hW, hk26, mu27, by rw [List.length_append]; exact Nat.add_le_add_right ln28 1⟩
    · skip
      rintro n23 ys48 H49 hM ⟨hW, hk26, mu27, ln28⟩
      replace h_rule := rep_keep hk26 (rep_new nl22 h_rule)
      replace h_legs := rep_keep hk26 (rep_new nl22 h_legs)
      replace h12 := rep_keep hk26 (rep_new nl22 h12)
      clear hk26 ln28
      have h50 := mo_rep_dr dr_here nm36 mu27
      replace hW := wd_dr dr_here mu27.hp hW
      replace h_rule := rep_dr dr_here h_rule
      replace h_legs := rep_dr dr_here h_legs
      replace h12 := rep_dr dr_here h12
      clear mu27
      refine ⟨_, rfl, ?_⟩
      apply rep_iter h_legs
      intro a51 xs52 _ an53 hp54 hl55
      refine fun L56 nl57 => ?_
      have nm71 := nm_new hW nl57
      refine lc_listG (L := L56) (fun n_ ys_ h_ => Wd (L56 :: ms) [] [] H_0 h_ ∧ Keep (L56 :: ms) H49 h_ ∧ MutO (L56 :: ms) [] H_0 h_ L56 (D.lst (ys_.map (fun y_ : Int => (D.v (V.int y_))))) ∧ ys_.length ≤ n_) (items := x_legs) (e := (fun y_ : (Int × Int × Bool) => (D.tup [(D.v (V.int y_.1)), (D.v (V.int y_.2.1)), (D.v (V.bl y_.2.2))]))) an53 hp54 hl55 nl57 (fun _ _ _ q_ => q_.2.1) hM ⟨wd_cell hW nl57, keep_cell nl57 Keep.refl, mo_newL (ds := []) hW nl57 repL_nil, Nat.le_refl _⟩ ?_ ?_
      · skip
        rintro x67 u68 n58 ys59 k60 H72 hn ⟨hW, hk61, mu62, ln63⟩ h69 hM Nx66 hN64
        replace h_rule := rep_keep hk61 (rep_new nl57 h_rule)
        replace h_legs := rep_keep hk61 (rep_new nl57 h_legs)
        replace h12 := rep_keep hk61 (rep_new nl57 h12)
        replace h50 := rep_keep hk61 (rep_new nl57 h50)
        refine ⟨rfl, ?_⟩
        refine tyes_of ?_
        refine ⟨_, rfl, ?_⟩
        refine ⟨rep_tyL h50, ?_⟩
        obtain ⟨KB73, hM, hKKB73⟩ := hM
        refine ⟨fun v H1 => ∃ r : Str, KB73 r ∧ Wd (L56 :: ms) [] [] H_0 H1 ∧ Keep (L56 :: ms) H72 H1 ∧ rep (L56 :: ms) H1 (D.v (V.str r)) v ∧ MutO (L56 :: ms) [] H_0 H1 L56 (D.lst (ys59.map (fun y_ : Int => (D.v (V.int y_))))), ?_, ?_⟩
        · skip
          have hj75 := Keep.refl (ms := (L56 :: ms)) (H := H72)
          refine ⟨_, rfl, ?_⟩
          apply rep_ixT 2 h69 rfl rfl
          intro u77 h76
          obtain rfl := of_v h76
          refine ⟨_, rfl, ?_⟩
          refine ite3 hM (fun hM => ?_) (fun hM => ?_)
          · skip
            exact ⟨("a" : Str), hM, hW, hj75, rep_v, mu62⟩
          · skip
            exact ⟨("h" : Str), hM, hW, hj75, rep_v, mu62⟩
        · skip
          clear mu62
          rintro u80 Hj74 ⟨r78, hr, hW, hj75, h79, mu81⟩
          replace hM := hKKB73 r78 hr
          replace h_rule := rep_keep hj75 h_rule
          replace h_legs := rep_keep hj75 h_legs
          replace h12 := rep_keep hj75 h12
          replace h50 := rep_keep hj75 h50
          replace hk61 := Keep.trans hk61 hj75
          replace h69 := rep_keep hj75 h69
          obtain rfl := of_v h79
          apply rep_lcountS h50
          refine mo_end mu81 hn (by rw [List.length_map]; exact ln63) fun vs82 hr83 => ?_
          have mk85 := mo_setL mu81 (repL_snoc (e := (fun y_ : Int => (D.v (V.int y_)))) (xs := ys59) (y := ((List.count r78 ys48 : Nat) : Int)) hr83 rep_v)
          replace h_rule := rep_put (o := .lst (vs82 ++ [V.int ((List.count r78 ys48 : Nat) : Int)])) mu81.im h_rule
          replace h_legs := rep_put (o := .lst (vs82 ++ [V.int ((List.count r78 ys48 : Nat) : Int)])) mu81.im h_legs
          replace h12 := rep_put (o := .lst (vs82 ++ [V.int ((List.count r78 ys48 : Nat) : Int)])) mu81.im h12
          replace h50 := rep_put (o := .lst (vs82 ++ [V.int ((List.count r78 ys48 : Nat) : Int)])) mu81.im h50
          replace hk61 := keep_put (o := .lst (vs82 ++ [V.int ((List.count r78 ys48 : Nat) : Int)])) mu81.im hk61
          replace h69 := rep_put (o := .lst (vs82 ++ [V.int ((List.count r78 ys48 : Nat) : Int)])) mu81.im h69
          replace hW := wd_put (o := .lst (vs82 ++ [V.int ((List.count r78 ys48 : Nat) : Int)])) hW mu81
          replace mu81 := mk85
          generalize upd Hj74 L56 (.lst (vs82 ++ [V.int ((List.count r78 ys48 : Nat) : Int)])) = H86 at *
          replace mu81 : MutO (L56 :: ms) [] H_0 H86 L56 (D.lst ((ys59 ++ [((List.count r78 ys48 : Nat) : Int)]).map (fun y_ : Int => (D.v (V.int y_))))) := mu81
          clear mk85
          exact hN64 ((List.count r78 ys48 : Nat) : Int) _ hM ⟨hW, hk61, mu81, by rw [List.length_append]; exact Nat.add_le_add_right ln63 1⟩
      · skip
        rintro n58 ys87 H88 hM ⟨hW, hk61, mu62, ln63⟩
        replace h_rule := rep_keep hk61 (rep_new nl57 h_rule)
        replace h_legs := rep_keep hk61 (rep_new nl57 h_legs)
        replace h12 := rep_keep hk61 (rep_new nl57 h12)
        replace h50 := rep_keep hk61 (rep_new nl57 h50)
        clear hk61 ln63
        have h89 := mo_rep_dr dr_here nm71 mu62
        replace hW := wd_dr dr_here mu62.hp hW
        replace h_rule := rep_dr dr_here h_rule
        replace h_legs := rep_dr dr_here h_legs
        replace h12 := rep_dr dr_here h12
        replace h50 := rep_dr dr_here h50
        clear mu62
        apply rep_sumL h89
        exact hQ (List.sum ys87) _ _ hM hW.out rep_v
def M_small_right (x_sheet_here : (Int × (Str × Str × Str) × Str × Bool)) (x_plan : (Int × (Str × Str × Str) × Str × Bool)) (x_ring : Int) (x_legs_now : (List (Int × Int × Bool))) (KM : Bool → Prop) : Prop :=
  (M_line x_sheet_here.2.1 (x_ring / (2 : Int)) fun r3 => (forC (fun (x8 : Int) (s10 : Unit) (k11 : Unit → Prop) => ((rangeI (0 : Int) (x_ring + (1 : Int))).length < 100000 ∧ filC (fun (x36 : Int) (k29 : Option Int → Prop) => (if (!(decide (V.int x36 = V.int x8))) = true then (k29 (some x36)) else (k29 none))) (rangeI (0 : Int) (x_ring + (1 : Int))) [] fun ys48 => (forC (fun (x56 : Int) (s58 : Unit) (k59 : Unit → Prop) => (forC (fun (x77 : (Int × Int × Bool)) (s79 : Int) (k80 : Int → Prop) => (M_days x77 x_ring fun r91 => (forC (fun (x101 : Int) (s103 : Int) (k104 : Int → Prop) => (([x8, x56] : List Int).length < 100000 ∧ mapC (fun (x136 : Int) (k129 : Int → Prop) => (CMulW x_sheet_here.1 x101 ∧ (0 < x_ring ∧ (k129 ((x136 - (x_sheet_here.1 * x101)) % x_ring))))) ([x8, x56] : List Int) [] fun ys155 => (0 < x_ring ∧ (if (decide (V.int ((List.sum ys155) % x_ring) = V.int (0 : Int))) = true then (if (!(decide (V.int x8 = V.int x_ring))) = true then (if (!(decide (V.int x56 = V.int x_ring))) = true then (M_sign x_sheet_here r3 x_ring x8 x101 fun r159 => (k104 ((s103 + (if (!(decide (V.bl (decide (V.str r159 = V.str ("h" : Str))) = V.bl x77.2.2))) then (1 : Int) else 0))))) else (if (decide (V.int x8 = V.int x_ring)) = true then (0 ≤ (1 : Int) ∧ ∃ g167 : Int.toNat (1 : Int) < ys155.length, ∀ x169, x169 = ys155[Int.toNat (1 : Int)]'g167 → (if (decide (V.int x169 = V.int (0 : Int))) = true then (M_sign x_sheet_here r3 x_ring x8 x101 fun r171 => (k104 ((s103 + (if (!(decide (V.bl (decide (V.str r171 = V.str ("h" : Str))) = V.bl x77.2.2))) then (1 : Int) else 0))))) else (if (decide (V.int x56 = V.int x_ring)) = true then (0 ≤ (0 : Int) ∧ ∃ g179 : Int.toNat (0 : Int) < ys155.length, ∀ x181, x181 = ys155[Int.toNat (0 : Int)]'g179 → (M_sign x_sheet_here r3 x_ring x8 x101 fun r183 => (if (decide (V.int x181 = V.int (0 : Int))) = true then (k104 ((s103 + (if (!(decide (V.bl (decide (V.str r183 = V.str ("h" : Str))) = V.bl x77.2.2))) then (1 : Int) else 0)))) else (k104 ((s103 + (if false then (1 : Int) else 0))))))) else (M_sign x_sheet_here r3 x_ring x8 x101 fun r190 => (k104 ((s103 + (if false then (1 : Int) else 0)))))))) else (if (decide (V.int x56 = V.int x_ring)) = true then (0 ≤ (0 : Int) ∧ ∃ g196 : Int.toNat (0 : Int) < ys155.length, ∀ x198, x198 = ys155[Int.toNat (0 : Int)]'g196 → (M_sign x_sheet_here r3 x_ring x8 x101 fun r200 => (if (decide (V.int x198 = V.int (0 : Int))) = true then (k104 ((s103 + (if (!(decide (V.bl (decide (V.str r200 = V.str ("h" : Str))) = V.bl x77.2.2))) then (1 : Int) else 0)))) else (k104 ((s103 + (if false then (1 : Int) else 0))))))) else (M_sign x_sheet_here r3 x_ring x8 x101 fun r207 => (k104 ((s103 + (if false then (1 : Int) else 0)))))))) else (if (decide (V.int x8 = V.int x_ring)) = true then (0 ≤ (1 : Int) ∧ ∃ g213 : Int.toNat (1 : Int) < ys155.length, ∀ x215, x215 = ys155[Int.toNat (1 : Int)]'g213 → (if (decide (V.int x215 = V.int (0 : Int))) = true then (M_sign x_sheet_here r3 x_ring x8 x101 fun r217 => (k104 ((s103 + (if (!(decide (V.bl (decide (V.str r217 = V.str ("h" : Str))) = V.bl x77.2.2))) then (1 : Int) else 0))))) else (if (decide (V.int x56 = V.int x_ring)) = true then (0 ≤ (0 : Int) ∧ ∃ g225 : Int.toNat (0 : Int) < ys155.length, ∀ x227, x227 = ys155[Int.toNat (0 : Int)]'g225 → (M_sign x_sheet_here r3 x_ring x8 x101 fun r229 => (if (decide (V.int x227 = V.int (0 : Int))) = true then (k104 ((s103 + (if (!(decide (V.bl (decide (V.str r229 = V.str ("h" : Str))) = V.bl x77.2.2))) then (1 : Int) else 0)))) else (k104 ((s103 + (if false then (1 : Int) else 0))))))) else (M_sign x_sheet_here r3 x_ring x8 x101 fun r236 => (k104 ((s103 + (if false then (1 : Int) else 0)))))))) else (if (decide (V.int x56 = V.int x_ring)) = true then (0 ≤ (0 : Int) ∧ ∃ g242 : Int.toNat (0 : Int) < ys155.length, ∀ x244, x244 = ys155[Int.toNat (0 : Int)]'g242 → (M_sign x_sheet_here r3 x_ring x8 x101 fun r246 => (if (decide (V.int x244 = V.int (0 : Int))) = true then (k104 ((s103 + (if (!(decide (V.bl (decide (V.str r246 = V.str ("h" : Str))) = V.bl x77.2.2))) then (1 : Int) else 0)))) else (k104 ((s103 + (if false then (1 : Int) else 0))))))) else (M_sign x_sheet_here r3 x_ring x8 x101 fun r253 => (k104 ((s103 + (if false then (1 : Int) else 0)))))))) else (if (decide (V.int x8 = V.int x_ring)) = true then (0 ≤ (1 : Int) ∧ ∃ g259 : Int.toNat (1 : Int) < ys155.length, ∀ x261, x261 = ys155[Int.toNat (1 : Int)]'g259 → (if (decide (V.int x261 = V.int (0 : Int))) = true then (M_sign x_sheet_here r3 x_ring x8 x101 fun r263 => (k104 ((s103 + (if (!(decide (V.bl (decide (V.str r263 = V.str ("h" : Str))) = V.bl x77.2.2))) then (1 : Int) else 0))))) else (if (decide (V.int x56 = V.int x_ring)) = true then (0 ≤ (0 : Int) ∧ ∃ g271 : Int.toNat (0 : Int) < ys155.length, ∀ x273, x273 = ys155[Int.toNat (0 : Int)]'g271 → (M_sign x_sheet_here r3 x_ring x8 x101 fun r275 => (if (decide (V.int x273 = V.int (0 : Int))) = true then (k104 ((s103 + (if (!(decide (V.bl (decide (V.str r275 = V.str ("h" : Str))) = V.bl x77.2.2))) then (1 : Int) else 0)))) else (k104 ((s103 + (if false then (1 : Int) else 0))))))) else (M_sign x_sheet_here r3 x_ring x8 x101 fun r282 => (k104 ((s103 + (if false then (1 : Int) else 0)))))))) else (if (decide (V.int x56 = V.int x_ring)) = true then (0 ≤ (0 : Int) ∧ ∃ g288 : Int.toNat (0 : Int) < ys155.length, ∀ x290, x290 = ys155[Int.toNat (0 : Int)]'g288 → (M_sign x_sheet_here r3 x_ring x8 x101 fun r292 => (if (decide (V.int x290 = V.int (0 : Int))) = true then (k104 ((s103 + (if (!(decide (V.bl (decide (V.str r292 = V.str ("h" : Str))) = V.bl x77.2.2))) then (1 : Int) else 0)))) else (k104 ((s103 + (if false then (1 : Int) else 0))))))) else (M_sign x_sheet_here r3 x_ring x8 x101 fun r299 => (k104 ((s103 + (if false then (1 : Int) else 0))))))))))) r91 (s79) fun s304 => (k80 (s304))))) x_legs_now ((0 : Int)) fun s311 => (M_pair_homes x_plan (x_ring + (1 : Int)) x_legs_now x8 x56 fun r319 => (if (!(decide (V.int r319 = V.int s311))) = true then (KM false) else (k59 ()))))) ys48 () fun s324 => (k11 ())))) (rangeI (0 : Int) (x_ring + (1 : Int))) () fun s334 => (KM true)))
def sp_small_right (A : Ad) : Sp := fun vs H Q _ => ∃ (ms : List Addr) (v_sheet_here : V) (v_plan : V) (v_legs_now : V) (x_sheet_here : (Int × (Str × Str × Str) × Str × Bool)) (x_plan : (Int × (Str × Str × Str) × Str × Bool)) (x_ring : Int) (x_legs_now : (List (Int × Int × Bool))) (KM : Bool → Prop), vs = [v_sheet_here, v_plan, V.int x_ring, v_legs_now] ∧ Wd ms [] [] H H ∧ rep ms H (D.tup [(D.v (V.int x_sheet_here.1)), (D.tup [(D.v (V.str x_sheet_here.2.1.1)), (D.v (V.str x_sheet_here.2.1.2.1)), (D.v (V.str x_sheet_here.2.1.2.2))]), (D.v (V.str x_sheet_here.2.2.1)), (D.v (V.bl x_sheet_here.2.2.2))]) v_sheet_here ∧ rep ms H (eRule A x_plan) v_plan ∧ rep ms H (D.lst (x_legs_now.map (fun y_ : (Int × Int × Bool) => (D.tup [(D.v (V.int y_.1)), (D.v (V.int y_.2.1)), (D.v (V.bl y_.2.2))])))) v_legs_now ∧ M_small_right x_sheet_here x_plan x_ring x_legs_now KM ∧ ∀ (r : Bool) (u : V) (H1 : Hp), KM r → Ret [] H H1 → rep ms H1 (D.v (V.bl r)) u → Q u H1
set_option maxHeartbeats 16000000 in
theorem ok_small_right {P : Program} {w : World} {K : PySem.W.Frag} {mg : Str → Option Value} {base : Heap} {A : Ad} (T : Txt w K mg A) : FnOk P w K mg base CX0 10 A.a_small_right A.d_small_right ["_law_sheet_here", "_law_plan", "_law_ring", "_law_legs_now"] (sp_small_right A) := by
  refine T.F_small_right.ok sc_small_right (fun vs H Q E h => ?_) (fun cdv A_ outer s_ H_0 vs Q E hr h => ?_)
  · obtain ⟨ms, v_sheet_here, v_plan, v_legs_now, x_sheet_here, x_plan, x_ring, x_legs_now, KM, rfl, _⟩ := h
    rfl
  · obtain ⟨ms, v_sheet_here, v_plan, v_legs_now, x_sheet_here, x_plan, x_ring, x_legs_now, KM, rfl, hW, h_sheet_here, h_plan, h_legs_now, hM, hQ⟩ := h
    unfold M_small_right at hM
    refine ⟨_, (pss_cons (ps_set (i := 4) sc_small_right.nd rfl (by first | exact Or.inl rfl | exact Or.inr rfl) (pe_call (ok_line T) (hr.mono (by decide)) (by rfl) T.g_line T.F_line.kp T.b_line .nil pass0 (pa_cons (pe_ix (ix_tupK (K := K) rfl) (pv 0) pe_int (fun _ _ => rfl)) (pa_cons (pe_op op_fdivW (pv 2) pe_int) pa_nil)))) (pss_cons (ps_for PassesOwn.never rfl (pi_rangeW1 (by rfl) T.z_range (pa_cons (pe_op op_add (pv 2) pe_int) pa_nil)) (pg_name (i := 5) sc_small_right.nd rfl (by first | exact Or.inl rfl | exact Or.inr rfl)) (pss_one (ps_for PassesOwn.never rfl (pi_list (pe_lc (own := [("_law_other_team", 13)]) (g := gName 13) rfl sc_small_right.nd (pi_rangeW1 (by rfl) T.z_range (pa_cons (pe_op op_add (pv 2) pe_int) pa_nil)) (blkOk_by (N := ["_law_sheet_here", "_law_plan", "_law_ring", "_law_legs_now", "_law_line_here", "_law_who", "_law_mate", "_law_due", "_law_leg", "_law_day_now", "_law_seats", "_law_do_meet", "_law_sign_here", "_law_other_team", "_law_team_no"]) (sc := defScope s_small_right) (by decide +kernel)) (fun _ _ _ _ _ => pg_name (i := 13) sc_small_right.nd rfl (by first | exact Or.inl rfl | exact Or.inr rfl)) (fun _ _ _ _ _ => (pts_one (pt_cmpR op_ne (pv 13) (pv 5) (nomark _)))) (fun _ _ _ _ _ => (pv 13)))) (pg_name (i := 6) sc_small_right.nd rfl (by first | exact Or.inl rfl | exact Or.inr rfl)) (pss_cons (ps_set (i := 7) sc_small_right.nd rfl (by first | exact Or.inl rfl | exact Or.inr rfl) pe_int) (pss_cons (ps_for PassesOwn.never rfl (pi_list (pv 3)) (pg_name (i := 8) sc_small_right.nd rfl (by first | exact Or.inl rfl | exact Or.inr rfl)) (pss_one (ps_for PassesOwn.never rfl (pi_list (pe_call (ok_days T) (hr.mono (by decide)) (by rfl) T.g_days T.F_days.kp T.b_days .nil pass0 (pa_cons (pv 8) (pa_cons (pv 2) pa_nil)))) (pg_name (i := 9) sc_small_right.nd rfl (by first | exact Or.inl rfl | exact Or.inr rfl)) (pss_cons (ps_setLc (i := 10) (own := [("_law_team_no", 14)]) (g := gName 14) rfl sc_small_right.nd rfl rfl (sw_true rfl rfl rfl (by decide +kernel)) (pi_tup (pe_tup (pa_cons (pv 5) (pa_cons (pv 6) pa_nil)))) (blkOk_by (N := ["_law_sheet_here", "_law_plan", "_law_ring", "_law_legs_now", "_law_line_here", "_law_who", "_law_mate", "_law_due", "_law_leg", "_law_day_now", "_law_seats", "_law_do_meet", "_law_sign_here", "_law_other_team", "_law_team_no"]) (sc := defScope s_small_right) (by decide +kernel)) (fun _ _ _ _ _ => pg_name (i := 14) sc_small_right.nd rfl (by first | exact Or.inl rfl | exact Or.inr rfl)) (fun _ _ _ _ _ => pts_nil) (fun _ _ _ _ _ => (pe_op op_mod (pe_op op_sub (pv 14) (pe_op op_mulW (pe_ix (ix_tupK (K := K) rfl) (pv 0) pe_int (fun _ _ => rfl)) (pv 9))) (pv 2)))) (pss_cons (ps_set (i := 11) sc_small_right.nd rfl (by first | exact Or.inl rfl | exact Or.inr rfl) (pe_and (pe_cmpR op_eq (pe_op op_mod (pe_callB (cr_sumK (K := K) rfl rfl) (by rfl) T.z_sum (by decide +kernel) (pa_cons (pv 10) pa_nil)) (pv 2)) pe_int (nomark _)) (pe_and (pe_cmpR op_ne (pv 5) (pv 2) (nomark _)) (pe_one (pe_cmpR op_ne (pv 6) (pv 2) (nomark _)))))) (pss_cons (ps_set (i := 11) sc_small_right.nd rfl (by first | exact Or.inl rfl | exact Or.inr rfl) (pe_or (pv 11) (pe_or (pe_and (pe_cmpR op_eq (pv 5) (pv 2) (nomark _)) (pe_one (pe_cmpR op_eq (pe_ix (ix_listK (K := K) rfl) (pv 10) pe_int (fun _ _ => rfl)) pe_int (nomark _)))) (pe_one (pe_and (pe_cmpR op_eq (pv 6) (pv 2) (nomark _)) (pe_one (pe_cmpR op_eq (pe_ix (ix_listK (K := K) rfl) (pv 10) pe_int (fun _ _ => rfl)) pe_int (nomark _)))))))) (pss_cons (ps_set (i := 12) sc_small_right.nd rfl (by first | exact Or.inl rfl | exact Or.inr rfl) (pe_call (ok_sign T) (hr.mono (by decide)) (by rfl) T.g_sign T.F_sign.kp T.b_sign .nil pass0 (pa_cons (pv 0) (pa_cons (pv 4) (pa_cons (pv 2) (pa_cons (pv 5) (pa_cons (pv 9) pa_nil))))))) (pss_one (ps_set (i := 7) sc_small_right.nd rfl (by first | exact Or.inl rfl | exact Or.inr rfl) (pe_op op_add (pv 7) (pe_callTy call_int1 (by rfl) T.z_int (by decide +kernel) (pa_cons (pe_and (pv 11) (pe_one (pe_cmpR op_ne (pe_cmpR op_eq (pv 12) pe_str (nomark _)) (pe_ix (ix_tupK (K := K) rfl) (pv 8) pe_int (fun _ _ => rfl)) (nomark _)))) pa_nil)))))))))))) (pss_one (ps_if (pt_cmpR op_ne (pe_call (ok_pair_homes T) (hr.mono (by decide)) (by rfl) T.g_pair_homes T.F_pair_homes.kp T.b_pair_homes .nil pass0 (pa_cons (pv 1) (pa_cons (pe_op op_add (pv 2) pe_int) (pa_cons (pv 3) (pa_cons (pv 5) (pa_cons (pv 6) pa_nil)))))) (pv 7) (nomark _)) (pss_one (ps_ret pe_bl)) pss_nil))))))) (pss_one (ps_ret pe_bl)))), ?_⟩
    refine ⟨_, rfl, ?_⟩
    apply rep_ixT 1 h_sheet_here rfl rfl
    intro u2 h1
    refine ⟨_, rfl, ?_⟩
    refine ⟨_, _, rfl, rfl, ⟨by decide, by decide⟩, ?_⟩
    refine ⟨ms, _, x_sheet_here.2.1, (x_ring / (2 : Int)), _, rfl, hW.enter0, h1, hM, fun r3 u6 H7 hM e5 h4 => ?_⟩
    replace h_sheet_here := rep_ext e5 h_sheet_here
    replace h_plan := rep_ext e5 h_plan
    replace h_legs_now := rep_ext e5 h_legs_now
    replace h1 := rep_ext e5 h1
    replace hW := hW.ret0 e5
    obtain rfl := of_v h4
    refine ⟨_, rfl, ?_⟩
    refine ⟨_, _, rfl, rfl, ?_⟩
    refine ⟨_, rfl, ?_⟩
    refine for_rangeG (S := Unit) (lo := (0 : Int)) (hi := (x_ring + (1 : Int))) (N := Int.toNat (x_ring + (1 : Int))) (fun (s : Unit) σ_ h_ => ∃ (w_0 : Option V), ∃ (w_1 : Option V), ∃ (w_2 : Option V), ∃ (w_3 : Option V), ∃ (w_4 : Option V), ∃ (w_5 : Option V), ∃ (w_6 : Option V), ∃ (w_7 : Option V), σ_ = [some v_sheet_here, some v_plan, some (V.int x_ring), some v_legs_now, some (V.str r3), w_0, w_1, w_2, w_3, w_4, w_5, w_6, w_7, none, none] ∧ Wd ms [] [] H_0 h_ ∧ Keep ms H7 h_) () (by simp) hM ⟨_, _, _, _, _, _, _, _, rfl, hW, Keep.refl⟩ ?_ ?_
    · skip
      rintro x8 s10 k11 _ H24 ⟨w16, w17, w18, w19, w20, w21, w22, w23, rfl, hW, hk12⟩ hM Nx14 hN15
      replace h_sheet_here := rep_keep hk12 h_sheet_here
      replace h_plan := rep_keep hk12 h_plan
      replace h_legs_now := rep_keep hk12 h_legs_now
      replace h1 := rep_keep hk12 h1
      refine ⟨_, rfl, ?_⟩
      refine ⟨_, _, rfl, rfl, ?_⟩
      refine ⟨_, rfl, ?_⟩
      refine fun L25 nl26 => ?_
      have nm40 := nm_new hW nl26
      have kn41 := keep_none (w := hW) nl26 hk12
      refine lf_rangeG (L := L25) (fun n_ ys_ h_ => Wd (L25 :: ms) [] [] H_0 h_ ∧ Keep (L25 :: ms) H24 h_ ∧ MutO (L25 :: ms) [] H_0 h_ L25 (D.lst (ys_.map (fun y_ : Int => (D.v (V.int y_))))) ∧ ys_.length ≤ n_) (lo := (0 : Int)) (hi := (x_ring + (1 : Int))) (N := Int.toNat (x_ring + (1 : Int))) (by simp) hM ⟨wd_cell hW nl26, keep_cell nl26 Keep.refl, mo_newL (ds := []) hW nl26 repL_nil, Nat.le_refl _⟩ ?_ ?_
      · skip
        rintro x36  n27 ys28 k29 H42 hn ⟨hW, hk30, mu31, ln32⟩ hM Nx35 hN33 hNn34
        replace h_sheet_here := rep_keep hk30 (rep_new nl26 h_sheet_here)
        replace h_plan := rep_keep hk30 (rep_new nl26 h_plan)
        replace h_legs_now := rep_keep hk30 (rep_new nl26 h_legs_now)
        replace h1 := rep_keep hk30 (rep_new nl26 h1)
        replace hk12 := Keep.trans (Keep.new hk12) hk30
        refine ⟨rfl, ?_⟩
        refine ⟨_, rfl, ?_⟩
        refine ⟨_, rfl, ?_⟩
        refine ⟨rfl, ?_⟩
        refine ⟨_, rfl, ?_⟩
        refine ite3 hM (fun hM => ?_) (fun hM => ?_)
        · skip
          refine ⟨_, rfl, ?_⟩
          refine mo_end mu31 hn (by rw [List.length_map]; exact ln32) fun vs43 hr44 => ?_
          have mk46 := mo_setL mu31 (repL_snoc (e := (fun y_ : Int => (D.v (V.int y_)))) (xs := ys28) (y := x36) hr44 rep_v)
          replace h_sheet_here := rep_put (o := .lst (vs43 ++ [V.int x36])) mu31.im h_sheet_here
          replace h_plan := rep_put (o := .lst (vs43 ++ [V.int x36])) mu31.im h_plan
          replace h_legs_now := rep_put (o := .lst (vs43 ++ [V.int x36])) mu31.im h_legs_now
          replace h1 := rep_put (o := .lst (vs43 ++ [V.int x36])) mu31.im h1
          replace hk12 := keep_put (o := .lst (vs43 ++ [V.int x36])) mu31.im hk12
          replace hk30 := keep_put (o := .lst (vs43 ++ [V.int x36])) mu31.im hk30
          replace hW := wd_put (o := .lst (vs43 ++ [V.int x36])) hW mu31
          replace mu31 := mk46
          generalize upd H42 L25 (.lst (vs43 ++ [V.int x36])) = H47 at *
          replace mu31 : MutO (L25 :: ms) [] H_0 H47 L25 (D.lst ((ys28 ++ [x36]).map (fun y_ : Int => (D.v (V.int y_))))) := mu31
          clear mk46
          exact hN33 x36 _ hM ⟨hW, hk30, mu31, by rw [List.length_append]; exact Nat.add_le_add_right ln32 1⟩
        · skip
          exact hNn34 _ hM ⟨hW, hk30, mu31, Nat.le_succ_of_le ln32⟩
      · skip
        rintro n27 ys48 H49 hM ⟨hW, hk30, mu31, ln32⟩
        replace h_sheet_here := rep_keep hk30 (rep_new nl26 h_sheet_here)
        replace h_plan := rep_keep hk30 (rep_new nl26 h_plan)
        replace h_legs_now := rep_keep hk30 (rep_new nl26 h_legs_now)
        replace h1 := rep_keep hk30 (rep_new nl26 h1)
        replace hk12 := Keep.trans (Keep.new hk12) hk30
        clear hk30 ln32
        have h50 := mo_rep_dr dr_here nm40 mu31
        replace hW := wd_dr dr_here mu31.hp hW
        replace h_sheet_here := rep_dr dr_here h_sheet_here
        replace h_plan := rep_dr dr_here h_plan
        replace h_legs_now := rep_dr dr_here h_legs_now
        replace h1 := rep_dr dr_here h1
        replace hk12 := keep_dr dr_here kn41 hk12
        clear mu31
        apply rep_iter h50
        intro a51 xs52 _ an53 hp54 hl55
        refine for_listG (S := Unit) (items := ys48) (e := (fun y_ : Int => (D.v (V.int y_)))) (ms := ms) (fun (s : Unit) σ_ h_ => ∃ (w_0 : Option V), ∃ (w_1 : Option V), ∃ (w_2 : Option V), ∃ (w_3 : Option V), ∃ (w_4 : Option V), ∃ (w_5 : Option V), ∃ (w_6 : Option V), σ_ = [some v_sheet_here, some v_plan, some (V.int x_ring), some v_legs_now, some (V.str r3), some (V.int x8), w_0, w_1, w_2, w_3, w_4, w_5, w_6, none, none] ∧ Wd ms [] [] H_0 h_ ∧ Keep ms H49 h_) () an53 hp54 hl55 (fun _ _ _ z_ => by obtain ⟨_, _, _, _, _, _, _, _, _, q_⟩ := z_; exact q_) hM ⟨_, _, _, _, _, _, _, rfl, hW, Keep.refl⟩ ?_ ?_
        · skip
          rintro x56 u57 s58 k59 _ H71 ⟨w64, w65, w66, w67, w68, w69, w70, rfl, hW, hk60⟩ h61 hM Nx62 hN63
          replace h_sheet_here := rep_keep hk60 h_sheet_here
          replace h_plan := rep_keep hk60 h_plan
          replace h_legs_now := rep_keep hk60 h_legs_now
          replace h1 := rep_keep hk60 h1
          replace hk12 := Keep.trans hk12 hk60
          replace h50 := rep_keep hk60 h50
          obtain rfl := of_v h61
          refine ⟨_, rfl, ?_⟩
          apply rep_iter h_legs_now
          intro a72 xs73 _ an74 hp75 hl76
          refine for_listG (S := Int) (items := x_legs_now) (e := (fun y_ : (Int × Int × Bool) => (D.tup [(D.v (V.int y_.1)), (D.v (V.int y_.2.1)), (D.v (V.bl y_.2.2))]))) (ms := ms) (fun (s : Int) σ_ h_ => ∃ (w_0 : Option V), ∃ (w_1 : Option V), ∃ (w_2 : Option V), ∃ (w_3 : Option V), ∃ (w_4 : Option V), σ_ = [some v_sheet_here, some v_plan, some (V.int x_ring), some v_legs_now, some (V.str r3), some (V.int x8), some (V.int x56), some (V.int s), w_0, w_1, w_2, w_3, w_4, none, none] ∧ Wd ms [] [] H_0 h_ ∧ Keep ms H71 h_) ((0 : Int)) an74 hp75 hl76 (fun _ _ _ z_ => by obtain ⟨_, _, _, _, _, _, _, q_⟩ := z_; exact q_) hM ⟨_, _, _, _, _, rfl, hW, Keep.refl⟩ ?_ ?_
          · skip
            rintro x77 u78 s79 k80 _ H90 ⟨w85, w86, w87, w88, w89, rfl, hW, hk81⟩ h82 hM Nx83 hN84
            replace h_sheet_here := rep_keep hk81 h_sheet_here
            replace h_plan := rep_keep hk81 h_plan
            replace h_legs_now := rep_keep hk81 h_legs_now
            replace h1 := rep_keep hk81 h1
            replace hk12 := Keep.trans hk12 hk81
            replace h50 := rep_keep hk81 h50
            replace hk60 := Keep.trans hk60 hk81
            refine ⟨_, rfl, ?_⟩
            refine ⟨_, rfl, ?_⟩
            refine ⟨ms, _, x77, x_ring, _, rfl, hW.enter0, h82, hM, fun r91 u94 H95 hM e93 h92 => ?_⟩
            replace h_sheet_here := rep_ext e93 h_sheet_here
            replace h_plan := rep_ext e93 h_plan
            replace h_legs_now := rep_ext e93 h_legs_now
            replace h1 := rep_ext e93 h1
            replace hk12 := keep_ext e93 hk12
            replace h50 := rep_ext e93 h50
            replace hk60 := keep_ext e93 hk60
            replace hk81 := keep_ext e93 hk81
            replace h82 := rep_ext e93 h82
            replace hW := hW.ret0 e93
            apply rep_iter h92
            intro a96 xs97 _ an98 hp99 hl100
            refine for_listG (S := Int) (items := r91) (e := (fun y_ : Int => (D.v (V.int y_)))) (ms := ms) (fun (s : Int) σ_ h_ => ∃ (w_0 : Option V), ∃ (w_1 : Option V), ∃ (w_2 : Option V), ∃ (w_3 : Option V), σ_ = [some v_sheet_here, some v_plan, some (V.int x_ring), some v_legs_now, some (V.str r3), some (V.int x8), some (V.int x56), some (V.int s), some u78, w_0, w_1, w_2, w_3, none, none] ∧ Wd ms [] [] H_0 h_ ∧ Keep ms H95 h_) (s79) an98 hp99 hl100 (fun _ _ _ z_ => by obtain ⟨_, _, _, _, _, _, q_⟩ := z_; exact q_) hM ⟨_, _, _, _, rfl, hW, Keep.refl⟩ ?_ ?_
            · skip
              rintro x101 u102 s103 k104 _ H113 ⟨w109, w110, w111, w112, rfl, hW, hk105⟩ h106 hM Nx107 hN108
              replace h_sheet_here := rep_keep hk105 h_sheet_here
              replace h_plan := rep_keep hk105 h_plan
              replace h_legs_now := rep_keep hk105 h_legs_now
              replace h1 := rep_keep hk105 h1
              replace hk12 := Keep.trans hk12 hk105
              replace h50 := rep_keep hk105 h50
              replace hk60 := Keep.trans hk60 hk105
              replace hk81 := Keep.trans hk81 hk105
              replace h82 := rep_keep hk105 h82
              replace h92 := rep_keep hk105 h92
              obtain rfl := of_v h106
              refine ⟨_, rfl, ?_⟩
              refine ⟨_, rfl, ?_⟩
              refine ⟨(by show 2 ≤ sizeLine; decide), ?_⟩
              intro p114 n118
              have e115 := Rx.Ext.new (H := H113) (o := (HO.tup [V.int x8, V.int x56])) n118
              have hp116 : upd H113 p114 (HO.tup [V.int x8, V.int x56]) p114 = some (HO.tup [V.int x8, V.int x56]) := upd_same
              generalize upd H113 p114 (HO.tup [V.int x8, V.int x56]) = H119 at e115 hp116 ⊢
              have h117 : rep ms H119 (D.tup [(D.v (V.int x8)), (D.v (V.int x56))]) (.ref p114) := rep_tup_mk hW n118 e115 hp116 (repL_cons rep_v (repL_cons rep_v repL_nil))
              replace h_sheet_here := rep_ext e115 h_sheet_here
              replace h_plan := rep_ext e115 h_plan
              replace h_legs_now := rep_ext e115 h_legs_now
              replace h1 := rep_ext e115 h1
              replace hk12 := keep_ext e115 hk12
              replace h50 := rep_ext e115 h50
              replace hk60 := keep_ext e115 hk60
              replace hk81 := keep_ext e115 hk81
              replace h82 := rep_ext e115 h82
              replace h92 := rep_ext e115 h92
              replace hk105 := keep_ext e115 hk105
              replace hW := hW.ret0 e115
              apply rep_iterT h117
              intro a120 xs121 _ an122 hp123 hl124
              refine fun L125 nl126 => ?_
              have nm140 := nm_new hW nl126
              have kn141 := keep_none (w := hW) nl126 hk12
              have kn142 := keep_none (w := hW) nl126 hk60
              have kn143 := keep_none (w := hW) nl126 hk81
              have kn144 := keep_none (w := hW) nl126 hk105
              refine lc_tupG (L := L125) (fun n_ ys_ h_ => Wd (L125 :: ms) [] [] H_0 h_ ∧ Keep (L125 :: ms) H119 h_ ∧ MutO (L125 :: ms) [] H_0 h_ L125 (D.lst (ys_.map (fun y_ : Int => (D.v (V.int y_))))) ∧ ys_.length ≤ n_) (items := ([x8, x56] : List Int)) (e := (fun y_ : Int => (D.v (V.int y_)))) an122 hp123 hl124 nl126 (fun _ _ _ q_ => q_.2.1) hM ⟨wd_cell hW nl126, keep_cell nl126 Keep.refl, mo_newL (ds := []) hW nl126 repL_nil, Nat.le_refl _⟩ ?_ ?_
              · skip
                rintro x136 u137 n127 ys128 k129 H145 hn ⟨hW, hk130, mu131, ln132⟩ h138 hM Nx135 hN133
                replace h_sheet_here := rep_keep hk130 (rep_new nl126 h_sheet_here)
                replace h_plan := rep_keep hk130 (rep_new nl126 h_plan)
                replace h_legs_now := rep_keep hk130 (rep_new nl126 h_legs_now)
                replace h1 := rep_keep hk130 (rep_new nl126 h1)
                replace hk12 := Keep.trans (Keep.new hk12) hk130
                replace h50 := rep_keep hk130 (rep_new nl126 h50)
                replace hk60 := Keep.trans (Keep.new hk60) hk130
                replace hk81 := Keep.trans (Keep.new hk81) hk130
                replace h82 := rep_keep hk130 (rep_new nl126 h82)
                replace h92 := rep_keep hk130 (rep_new nl126 h92)
                replace hk105 := Keep.trans (Keep.new hk105) hk130
                replace h117 := rep_keep hk130 (rep_new nl126 h117)
                obtain rfl := of_v h138
                refine ⟨rfl, ?_⟩
                refine tyes_of ?_
                refine ⟨_, rfl, ?_⟩
                refine ⟨_, rfl, ?_⟩
                apply rep_ixT 0 h_sheet_here rfl rfl
                intro u147 h146
                obtain rfl := of_v h146
                refine ⟨_, rfl, ?_⟩
                obtain ⟨g148, hM⟩ := hM
                refine ⟨_, _, rfl, rfl, g148, ?_⟩
                refine ⟨_, _, rfl, rfl, ?_⟩
                refine ⟨_, rfl, ?_⟩
                obtain ⟨g149, hM⟩ := hM
                refine ⟨_, _, rfl, rfl, g149, ?_⟩
                refine mo_end mu131 hn (by rw [List.length_map]; exact ln132) fun vs150 hr151 => ?_
                have mk153 := mo_setL mu131 (repL_snoc (e := (fun y_ : Int => (D.v (V.int y_)))) (xs := ys128) (y := ((x136 - (x_sheet_here.1 * x101)) % x_ring)) hr151 rep_v)
                replace h_sheet_here := rep_put (o := .lst (vs150 ++ [V.int ((x136 - (x_sheet_here.1 * x101)) % x_ring)])) mu131.im h_sheet_here
                replace h_plan := rep_put (o := .lst (vs150 ++ [V.int ((x136 - (x_sheet_here.1 * x101)) % x_ring)])) mu131.im h_plan
                replace h_legs_now := rep_put (o := .lst (vs150 ++ [V.int ((x136 - (x_sheet_here.1 * x101)) % x_ring)])) mu131.im h_legs_now
                replace h1 := rep_put (o := .lst (vs150 ++ [V.int ((x136 - (x_sheet_here.1 * x101)) % x_ring)])) mu131.im h1
                replace hk12 := keep_put (o := .lst (vs150 ++ [V.int ((x136 - (x_sheet_here.1 * x101)) % x_ring)])) mu131.im hk12
                replace h50 := rep_put (o := .lst (vs150 ++ [V.int ((x136 - (x_sheet_here.1 * x101)) % x_ring)])) mu131.im h50
                replace hk60 := keep_put (o := .lst (vs150 ++ [V.int ((x136 - (x_sheet_here.1 * x101)) % x_ring)])) mu131.im hk60
                replace hk81 := keep_put (o := .lst (vs150 ++ [V.int ((x136 - (x_sheet_here.1 * x101)) % x_ring)])) mu131.im hk81
                replace h82 := rep_put (o := .lst (vs150 ++ [V.int ((x136 - (x_sheet_here.1 * x101)) % x_ring)])) mu131.im h82
                replace h92 := rep_put (o := .lst (vs150 ++ [V.int ((x136 - (x_sheet_here.1 * x101)) % x_ring)])) mu131.im h92
                replace hk105 := keep_put (o := .lst (vs150 ++ [V.int ((x136 - (x_sheet_here.1 * x101)) % x_ring)])) mu131.im hk105
                replace h117 := rep_put (o := .lst (vs150 ++ [V.int ((x136 - (x_sheet_here.1 * x101)) % x_ring)])) mu131.im h117
                replace hk130 := keep_put (o := .lst (vs150 ++ [V.int ((x136 - (x_sheet_here.1 * x101)) % x_ring)])) mu131.im hk130
                replace hW := wd_put (o := .lst (vs150 ++ [V.int ((x136 - (x_sheet_here.1 * x101)) % x_ring)])) hW mu131
                replace mu131 := mk153
                generalize upd H145 L125 (.lst (vs150 ++ [V.int ((x136 - (x_sheet_here.1 * x101)) % x_ring)])) = H154 at *
                replace mu131 : MutO (L125 :: ms) [] H_0 H154 L125 (D.lst ((ys128 ++ [((x136 - (x_sheet_here.1 * x101)) % x_ring)]).map (fun y_ : Int => (D.v (V.int y_))))) := mu131
                clear mk153
                exact hN133 ((x136 - (x_sheet_here.1 * x101)) % x_ring) _ hM ⟨hW, hk130, mu131, by rw [List.length_append]; exact Nat.add_le_add_right ln132 1⟩
              · skip
                rintro n127 ys155 H156 hM ⟨hW, hk130, mu131, ln132⟩
                replace h_sheet_here := rep_keep hk130 (rep_new nl126 h_sheet_here)
                replace h_plan := rep_keep hk130 (rep_new nl126 h_plan)
                replace h_legs_now := rep_keep hk130 (rep_new nl126 h_legs_now)
                replace h1 := rep_keep hk130 (rep_new nl126 h1)
                replace hk12 := Keep.trans (Keep.new hk12) hk130
                replace h50 := rep_keep hk130 (rep_new nl126 h50)
                replace hk60 := Keep.trans (Keep.new hk60) hk130
                replace hk81 := Keep.trans (Keep.new hk81) hk130
                replace h82 := rep_keep hk130 (rep_new nl126 h82)
                replace h92 := rep_keep hk130 (rep_new nl126 h92)
                replace hk105 := Keep.trans (Keep.new hk105) hk130
                replace h117 := rep_keep hk130 (rep_new nl126 h117)
                clear hk130 ln132
                have h157 := mo_rep_dr dr_here nm140 mu131
                replace hW := wd_dr dr_here mu131.hp hW
                replace h_sheet_here := rep_dr dr_here h_sheet_here
                replace h_plan := rep_dr dr_here h_plan
                replace h_legs_now := rep_dr dr_here h_legs_now
                replace h1 := rep_dr dr_here h1
                replace hk12 := keep_dr dr_here kn141 hk12
                replace h50 := rep_dr dr_here h50
                replace hk60 := keep_dr dr_here kn142 hk60
                replace hk81 := keep_dr dr_here kn143 hk81
                replace h82 := rep_dr dr_here h82
                replace h92 := rep_dr dr_here h92
                replace hk105 := keep_dr dr_here kn144 hk105
                replace h117 := rep_dr dr_here h117
                clear mu131
                refine ⟨_, rfl, ?_⟩
                apply rep_sumL h157
                refine ⟨_, rfl, ?_⟩
                obtain ⟨g158, hM⟩ := hM
                refine ⟨_, _, rfl, rfl, g158, ?_⟩
                refine ⟨rfl, ?_⟩
                refine ⟨_, rfl, ?_⟩
                refine ite3 hM (fun hM => ?_) (fun hM => ?_)
                · skip
                  refine ⟨_, rfl, ?_⟩
                  refine ⟨_, rfl, ?_⟩
                  refine ⟨rfl, ?_⟩
                  refine ⟨_, rfl, ?_⟩
                  refine ite3 hM (fun hM => ?_) (fun hM => ?_)
                  · skip
                    refine ⟨_, rfl, ?_⟩
                    refine ⟨_, rfl, ?_⟩
                    refine ⟨rfl, ?_⟩
                    refine ⟨_, rfl, ?_⟩
                    refine ⟨_, rfl, ?_⟩
                    refine ite3 hM (fun hM => ?_) (fun hM => ?_)
                    · skip
                      refine ⟨_, rfl, ?_⟩
                      refine ⟨_, rfl, ?_⟩
                      refine ⟨_, rfl, ?_⟩
                      refine ⟨_, rfl, ?_⟩
                      refine ⟨_, rfl, ?_⟩
                      refine ⟨ms, _, x_sheet_here, r3, x_ring, x8, x101, _, rfl, hW.enter0, h_sheet_here, hM, fun r159 u162 H163 hM e161 h160 => ?_⟩
                      replace h_sheet_here := rep_ext e161 h_sheet_here
                      replace h_plan := rep_ext e161 h_plan
                      replace h_legs_now := rep_ext e161 h_legs_now
                      replace h1 := rep_ext e161 h1
                      replace hk12 := keep_ext e161 hk12
                      replace h50 := rep_ext e161 h50
                      replace hk60 := keep_ext e161 hk60
                      replace hk81 := keep_ext e161 hk81
                      replace h82 := rep_ext e161 h82
                      replace h92 := rep_ext e161 h92
                      replace hk105 := keep_ext e161 hk105
                      replace h117 := rep_ext e161 h117
                      replace h157 := rep_ext e161 h157
                      replace hW := hW.ret0 e161
                      obtain rfl := of_v h160
                      refine ⟨_, rfl, ?_⟩
                      refine ⟨_, rfl, ?_⟩
                      refine ⟨_, rfl, ?_⟩
                      refine iteT ?_
                      refine ⟨_, rfl, ?_⟩
                      refine ⟨rfl, ?_⟩
                      refine ⟨_, rfl, ?_⟩
                      apply rep_ixT 2 h82 rfl rfl
                      intro u165 h164
                      obtain rfl := of_v h164
                      refine ⟨rfl, ?_⟩
                      refine .inr ⟨_, rfl, ?_⟩
                      refine ⟨_, _, rfl, rfl, ?_⟩
                      exact hN108 ((s103 + (if (!(decide (V.bl (decide (V.str r159 = V.str ("h" : Str))) = V.bl x77.2.2))) then (1 : Int) else 0))) _ _ hM ⟨_, _, _, _, rfl, hW, hk105⟩
                    · skip
                      refine ⟨_, rfl, ?_⟩
                      refine ⟨_, rfl, ?_⟩
                      refine ⟨rfl, ?_⟩
                      refine ⟨_, rfl, ?_⟩
                      refine ite3 hM (fun hM => ?_) (fun hM => ?_)
                      · skip
                        refine ⟨_, rfl, ?_⟩
                        obtain ⟨g166, g167, hM⟩ := hM
                        apply rep_ixL (e := (fun y_ : Int => (D.v (V.int y_)))) (xs := ys155) h157 g166 g167
                        intro u170 h168
                        obtain ⟨x169, x169e⟩ : ∃ x_, x_ = ys155[Int.toNat (1 : Int)]'g167 := ⟨_, rfl⟩
                        rw [← x169e] at h168
                        replace hM := hM x169 x169e
                        obtain rfl := of_v h168
                        refine ⟨rfl, ?_⟩
                        refine ⟨_, rfl, ?_⟩
                        refine ite3 hM (fun hM => ?_) (fun hM => ?_)
                        · skip
                          refine ⟨_, rfl, ?_⟩
                          refine ⟨_, rfl, ?_⟩
                          refine ⟨_, rfl, ?_⟩
                          refine ⟨_, rfl, ?_⟩
                          refine ⟨_, rfl, ?_⟩
                          refine ⟨ms, _, x_sheet_here, r3, x_ring, x8, x101, _, rfl, hW.enter0, h_sheet_here, hM, fun r171 u174 H175 hM e173 h172 => ?_⟩
                          replace h_sheet_here := rep_ext e173 h_sheet_here
                          replace h_plan := rep_ext e173 h_plan
                          replace h_legs_now := rep_ext e173 h_legs_now
                          replace h1 := rep_ext e173 h1
                          replace hk12 := keep_ext e173 hk12
                          replace h50 := rep_ext e173 h50
                          replace hk60 := keep_ext e173 hk60
                          replace hk81 := keep_ext e173 hk81
                          replace h82 := rep_ext e173 h82
                          replace h92 := rep_ext e173 h92
                          replace hk105 := keep_ext e173 hk105
                          replace h117 := rep_ext e173 h117
                          replace h157 := rep_ext e173 h157
                          replace hW := hW.ret0 e173
                          obtain rfl := of_v h172
                          refine ⟨_, rfl, ?_⟩
                          refine ⟨_, rfl, ?_⟩
                          refine ⟨_, rfl, ?_⟩
                          refine iteT ?_
                          refine ⟨_, rfl, ?_⟩
                          refine ⟨rfl, ?_⟩
                          refine ⟨_, rfl, ?_⟩
                          apply rep_ixT 2 h82 rfl rfl
                          intro u177 h176
                          obtain rfl := of_v h176
                          refine ⟨rfl, ?_⟩
                          refine .inr ⟨_, rfl, ?_⟩
                          refine ⟨_, _, rfl, rfl, ?_⟩
                          exact hN108 ((s103 + (if (!(decide (V.bl (decide (V.str r171 = V.str ("h" : Str))) = V.bl x77.2.2))) then (1 : Int) else 0))) _ _ hM ⟨_, _, _, _, rfl, hW, hk105⟩
                        · skip
                          refine ⟨_, rfl, ?_⟩
                          refine ⟨_, rfl, ?_⟩
                          refine ⟨rfl, ?_⟩
                          refine ⟨_, rfl, ?_⟩
                          refine ite3 hM (fun hM => ?_) (fun hM => ?_)
                          · skip
                            refine ⟨_, rfl, ?_⟩
                            obtain ⟨g178, g179, hM⟩ := hM
                            apply rep_ixL (e := (fun y_ : Int => (D.v (V.int y_)))) (xs := ys155) h157 g178 g179
                            intro u182 h180
                            obtain ⟨x181, x181e⟩ : ∃ x_, x_ = ys155[Int.toNat (0 : Int)]'g179 := ⟨_, rfl⟩
                            rw [← x181e] at h180
                            replace hM := hM x181 x181e
                            obtain rfl := of_v h180
                            refine ⟨rfl, ?_⟩
                            refine ⟨_, rfl, ?_⟩
                            refine ⟨_, rfl, ?_⟩
                            refine ⟨_, rfl, ?_⟩
                            refine ⟨_, rfl, ?_⟩
                            refine ⟨_, rfl, ?_⟩
                            refine ⟨ms, _, x_sheet_here, r3, x_ring, x8, x101, _, rfl, hW.enter0, h_sheet_here, hM, fun r183 u186 H187 hM e185 h184 => ?_⟩
                            replace h_sheet_here := rep_ext e185 h_sheet_here
                            replace h_plan := rep_ext e185 h_plan
                            replace h_legs_now := rep_ext e185 h_legs_now
                            replace h1 := rep_ext e185 h1
                            replace hk12 := keep_ext e185 hk12
                            replace h50 := rep_ext e185 h50
                            replace hk60 := keep_ext e185 hk60
                            replace hk81 := keep_ext e185 hk81
                            replace h82 := rep_ext e185 h82
                            replace h92 := rep_ext e185 h92
                            replace hk105 := keep_ext e185 hk105
                            replace h117 := rep_ext e185 h117
                            replace h157 := rep_ext e185 h157
                            replace hW := hW.ret0 e185
                            obtain rfl := of_v h184
                            refine ⟨_, rfl, ?_⟩
                            refine ⟨_, rfl, ?_⟩
                            refine ⟨_, rfl, ?_⟩
                            refine ite3 hM (fun hM => ?_) (fun hM => ?_)
                            · skip
                              refine ⟨_, rfl, ?_⟩
                              refine ⟨rfl, ?_⟩
                              refine ⟨_, rfl, ?_⟩
                              apply rep_ixT 2 h82 rfl rfl
                              intro u189 h188
                              obtain rfl := of_v h188
                              refine ⟨rfl, ?_⟩
                              refine .inr ⟨_, rfl, ?_⟩
                              refine ⟨_, _, rfl, rfl, ?_⟩
                              exact hN108 ((s103 + (if (!(decide (V.bl (decide (V.str r183 = V.str ("h" : Str))) = V.bl x77.2.2))) then (1 : Int) else 0))) _ _ hM ⟨_, _, _, _, rfl, hW, hk105⟩
                            · skip
                              refine .inr ⟨_, rfl, ?_⟩
                              refine ⟨_, _, rfl, rfl, ?_⟩
                              exact hN108 ((s103 + (if false then (1 : Int) else 0))) _ _ hM ⟨_, _, _, _, rfl, hW, hk105⟩
                          · skip
                            refine ⟨_, rfl, ?_⟩
                            refine ⟨_, rfl, ?_⟩
                            refine ⟨_, rfl, ?_⟩
                            refine ⟨_, rfl, ?_⟩
                            refine ⟨_, rfl, ?_⟩
                            refine ⟨ms, _, x_sheet_here, r3, x_ring, x8, x101, _, rfl, hW.enter0, h_sheet_here, hM, fun r190 u193 H194 hM e192 h191 => ?_⟩
                            replace h_sheet_here := rep_ext e192 h_sheet_here
                            replace h_plan := rep_ext e192 h_plan
                            replace h_legs_now := rep_ext e192 h_legs_now
                            replace h1 := rep_ext e192 h1
                            replace hk12 := keep_ext e192 hk12
                            replace h50 := rep_ext e192 h50
                            replace hk60 := keep_ext e192 hk60
                            replace hk81 := keep_ext e192 hk81
                            replace h82 := rep_ext e192 h82
                            replace h92 := rep_ext e192 h92
                            replace hk105 := keep_ext e192 hk105
                            replace h117 := rep_ext e192 h117
                            replace h157 := rep_ext e192 h157
                            replace hW := hW.ret0 e192
                            obtain rfl := of_v h191
                            refine ⟨_, rfl, ?_⟩
                            refine ⟨_, rfl, ?_⟩
                            refine ⟨_, rfl, ?_⟩
                            refine iteF ?_
                            refine .inr ⟨_, rfl, ?_⟩
                            refine ⟨_, _, rfl, rfl, ?_⟩
                            exact hN108 ((s103 + (if false then (1 : Int) else 0))) _ _ hM ⟨_, _, _, _, rfl, hW, hk105⟩
                      · skip
                        refine ⟨_, rfl, ?_⟩
                        refine iteF ?_
                        refine ⟨_, rfl, ?_⟩
                        refine ⟨_, rfl, ?_⟩
                        refine ⟨rfl, ?_⟩
                        refine ⟨_, rfl, ?_⟩
                        refine ite3 hM (fun hM => ?_) (fun hM => ?_)
                        · skip
                          refine ⟨_, rfl, ?_⟩
                          obtain ⟨g195, g196, hM⟩ := hM
                          apply rep_ixL (e := (fun y_ : Int => (D.v (V.int y_)))) (xs := ys155) h157 g195 g196
                          intro u199 h197
                          obtain ⟨x198, x198e⟩ : ∃ x_, x_ = ys155[Int.toNat (0 : Int)]'g196 := ⟨_, rfl⟩
                          rw [← x198e] at h197
                          replace hM := hM x198 x198e
                          obtain rfl := of_v h197
                          refine ⟨rfl, ?_⟩
                          refine ⟨_, rfl, ?_⟩
                          refine ⟨_, rfl, ?_⟩
                          refine ⟨_, rfl, ?_⟩
                          refine ⟨_, rfl, ?_⟩
                          refine ⟨_, rfl, ?_⟩
                          refine ⟨ms, _, x_sheet_here, r3, x_ring, x8, x101, _, rfl, hW.enter0, h_sheet_here, hM, fun r200 u203 H204 hM e202 h201 => ?_⟩
                          replace h_sheet_here := rep_ext e202 h_sheet_here
                          replace h_plan := rep_ext e202 h_plan
                          replace h_legs_now := rep_ext e202 h_legs_now
                          replace h1 := rep_ext e202 h1
                          replace hk12 := keep_ext e202 hk12
                          replace h50 := rep_ext e202 h50
                          replace hk60 := keep_ext e202 hk60
                          replace hk81 := keep_ext e202 hk81
                          replace h82 := rep_ext e202 h82
                          replace h92 := rep_ext e202 h92
                          replace hk105 := keep_ext e202 hk105
                          replace h117 := rep_ext e202 h117
                          replace h157 := rep_ext e202 h157
                          replace hW := hW.ret0 e202
                          obtain rfl := of_v h201
                          refine ⟨_, rfl, ?_⟩
                          refine ⟨_, rfl, ?_⟩
                          refine ⟨_, rfl, ?_⟩
                          refine ite3 hM (fun hM => ?_) (fun hM => ?_)
                          · skip
                            refine ⟨_, rfl, ?_⟩
                            refine ⟨rfl, ?_⟩
                            refine ⟨_, rfl, ?_⟩
                            apply rep_ixT 2 h82 rfl rfl
                            intro u206 h205
                            obtain rfl := of_v h205
                            refine ⟨rfl, ?_⟩
                            refine .inr ⟨_, rfl, ?_⟩
                            refine ⟨_, _, rfl, rfl, ?_⟩
                            exact hN108 ((s103 + (if (!(decide (V.bl (decide (V.str r200 = V.str ("h" : Str))) = V.bl x77.2.2))) then (1 : Int) else 0))) _ _ hM ⟨_, _, _, _, rfl, hW, hk105⟩
                          · skip
                            refine .inr ⟨_, rfl, ?_⟩
                            refine ⟨_, _, rfl, rfl, ?_⟩
                            exact hN108 ((s103 + (if false then (1 : Int) else 0))) _ _ hM ⟨_, _, _, _, rfl, hW, hk105⟩
                        · skip
                          refine ⟨_, rfl, ?_⟩
                          refine ⟨_, rfl, ?_⟩
                          refine ⟨_, rfl, ?_⟩
                          refine ⟨_, rfl, ?_⟩
                          refine ⟨_, rfl, ?_⟩
                          refine ⟨ms, _, x_sheet_here, r3, x_ring, x8, x101, _, rfl, hW.enter0, h_sheet_here, hM, fun r207 u210 H211 hM e209 h208 => ?_⟩
                          replace h_sheet_here := rep_ext e209 h_sheet_here
                          replace h_plan := rep_ext e209 h_plan
                          replace h_legs_now := rep_ext e209 h_legs_now
                          replace h1 := rep_ext e209 h1
                          replace hk12 := keep_ext e209 hk12
                          replace h50 := rep_ext e209 h50
                          replace hk60 := keep_ext e209 hk60
                          replace hk81 := keep_ext e209 hk81
                          replace h82 := rep_ext e209 h82
                          replace h92 := rep_ext e209 h92
                          replace hk105 := keep_ext e209 hk105
                          replace h117 := rep_ext e209 h117
                          replace h157 := rep_ext e209 h157
                          replace hW := hW.ret0 e209
                          obtain rfl := of_v h208
                          refine ⟨_, rfl, ?_⟩
                          refine ⟨_, rfl, ?_⟩
                          refine ⟨_, rfl, ?_⟩
                          refine iteF ?_
                          refine .inr ⟨_, rfl, ?_⟩
                          refine ⟨_, _, rfl, rfl, ?_⟩
                          exact hN108 ((s103 + (if false then (1 : Int) else 0))) _ _ hM ⟨_, _, _, _, rfl, hW, hk105⟩
                  · skip
                    refine ⟨_, rfl, ?_⟩
                    refine ⟨_, rfl, ?_⟩
                    refine iteF ?_
                    refine ⟨_, rfl, ?_⟩
                    refine ⟨_, rfl, ?_⟩
                    refine ⟨rfl, ?_⟩
                    refine ⟨_, rfl, ?_⟩
                    refine ite3 hM (fun hM => ?_) (fun hM => ?_)
                    · skip
                      refine ⟨_, rfl, ?_⟩
                      obtain ⟨g212, g213, hM⟩ := hM
                      apply rep_ixL (e := (fun y_ : Int => (D.v (V.int y_)))) (xs := ys155) h157 g212 g213
                      intro u216 h214
                      obtain ⟨x215, x215e⟩ : ∃ x_, x_ = ys155[Int.toNat (1 : Int)]'g213 := ⟨_, rfl⟩
                      rw [← x215e] at h214
                      replace hM := hM x215 x215e
                      obtain rfl := of_v h214
                      refine ⟨rfl, ?_⟩
                      refine ⟨_, rfl, ?_⟩
                      refine ite3 hM (fun hM => ?_) (fun hM => ?_)
                      · skip
                        refine ⟨_, rfl, ?_⟩
                        refine ⟨_, rfl, ?_⟩
                        refine ⟨_, rfl, ?_⟩
                        refine ⟨_, rfl, ?_⟩
                        refine ⟨_, rfl, ?_⟩
                        refine ⟨ms, _, x_sheet_here, r3, x_ring, x8, x101, _, rfl, hW.enter0, h_sheet_here, hM, fun r217 u220 H221 hM e219 h218 => ?_⟩
                        replace h_sheet_here := rep_ext e219 h_sheet_here
                        replace h_plan := rep_ext e219 h_plan
                        replace h_legs_now := rep_ext e219 h_legs_now
                        replace h1 := rep_ext e219 h1
                        replace hk12 := keep_ext e219 hk12
                        replace h50 := rep_ext e219 h50
                        replace hk60 := keep_ext e219 hk60
                        replace hk81 := keep_ext e219 hk81
                        replace h82 := rep_ext e219 h82
                        replace h92 := rep_ext e219 h92
                        replace hk105 := keep_ext e219 hk105
                        replace h117 := rep_ext e219 h117
                        replace h157 := rep_ext e219 h157
                        replace hW := hW.ret0 e219
                        obtain rfl := of_v h218
                        refine ⟨_, rfl, ?_⟩
                        refine ⟨_, rfl, ?_⟩
                        refine ⟨_, rfl, ?_⟩
                        refine iteT ?_
                        refine ⟨_, rfl, ?_⟩
                        refine ⟨rfl, ?_⟩
                        refine ⟨_, rfl, ?_⟩
                        apply rep_ixT 2 h82 rfl rfl
                        intro u223 h222
                        obtain rfl := of_v h222
                        refine ⟨rfl, ?_⟩
                        refine .inr ⟨_, rfl, ?_⟩
                        refine ⟨_, _, rfl, rfl, ?_⟩
                        exact hN108 ((s103 + (if (!(decide (V.bl (decide (V.str r217 = V.str ("h" : Str))) = V.bl x77.2.2))) then (1 : Int) else 0))) _ _ hM ⟨_, _, _, _, rfl, hW, hk105⟩
                      · skip
                        refine ⟨_, rfl, ?_⟩
                        refine ⟨_, rfl, ?_⟩
                        refine ⟨rfl, ?_⟩
                        refine ⟨_, rfl, ?_⟩
                        refine ite3 hM (fun hM => ?_) (fun hM => ?_)
                        · skip
                          refine ⟨_, rfl, ?_⟩
                          obtain ⟨g224, g225, hM⟩ := hM
                          apply rep_ixL (e := (fun y_ : Int => (D.v (V.int y_)))) (xs := ys155) h157 g224 g225
                          intro u228 h226
                          obtain ⟨x227, x227e⟩ : ∃ x_, x_ = ys155[Int.toNat (0 : Int)]'g225 := ⟨_, rfl⟩
                          rw [← x227e] at h226
                          replace hM := hM x227 x227e
                          obtain rfl := of_v h226
                          refine ⟨rfl, ?_⟩
                          refine ⟨_, rfl, ?_⟩
                          refine ⟨_, rfl, ?_⟩
                          refine ⟨_, rfl, ?_⟩
                          refine ⟨_, rfl, ?_⟩
                          refine ⟨_, rfl, ?_⟩
                          refine ⟨ms, _, x_sheet_here, r3, x_ring, x8, x101, _, rfl, hW.enter0, h_sheet_here, hM, fun r229 u232 H233 hM e231 h230 => ?_⟩
                          replace h_sheet_here := rep_ext e231 h_sheet_here
                          replace h_plan := rep_ext e231 h_plan
                          replace h_legs_now := rep_ext e231 h_legs_now
                          replace h1 := rep_ext e231 h1
                          replace hk12 := keep_ext e231 hk12
                          replace h50 := rep_ext e231 h50
                          replace hk60 := keep_ext e231 hk60
                          replace hk81 := keep_ext e231 hk81
                          replace h82 := rep_ext e231 h82
                          replace h92 := rep_ext e231 h92
                          replace hk105 := keep_ext e231 hk105
                          replace h117 := rep_ext e231 h117
                          replace h157 := rep_ext e231 h157
                          replace hW := hW.ret0 e231
                          obtain rfl := of_v h230
                          refine ⟨_, rfl, ?_⟩
                          refine ⟨_, rfl, ?_⟩
                          refine ⟨_, rfl, ?_⟩
                          refine ite3 hM (fun hM => ?_) (fun hM => ?_)
                          · skip
                            refine ⟨_, rfl, ?_⟩
                            refine ⟨rfl, ?_⟩
                            refine ⟨_, rfl, ?_⟩
                            apply rep_ixT 2 h82 rfl rfl
                            intro u235 h234
                            obtain rfl := of_v h234
                            refine ⟨rfl, ?_⟩
                            refine .inr ⟨_, rfl, ?_⟩
                            refine ⟨_, _, rfl, rfl, ?_⟩
                            exact hN108 ((s103 + (if (!(decide (V.bl (decide (V.str r229 = V.str ("h" : Str))) = V.bl x77.2.2))) then (1 : Int) else 0))) _ _ hM ⟨_, _, _, _, rfl, hW, hk105⟩
                          · skip
                            refine .inr ⟨_, rfl, ?_⟩
                            refine ⟨_, _, rfl, rfl, ?_⟩
                            exact hN108 ((s103 + (if false then (1 : Int) else 0))) _ _ hM ⟨_, _, _, _, rfl, hW, hk105⟩
                        · skip
                          refine ⟨_, rfl, ?_⟩
                          refine ⟨_, rfl, ?_⟩
                          refine ⟨_, rfl, ?_⟩
                          refine ⟨_, rfl, ?_⟩
                          refine ⟨_, rfl, ?_⟩
                          refine ⟨ms, _, x_sheet_here, r3, x_ring, x8, x101, _, rfl, hW.enter0, h_sheet_here, hM, fun r236 u239 H240 hM e238 h237 => ?_⟩
                          replace h_sheet_here := rep_ext e238 h_sheet_here
                          replace h_plan := rep_ext e238 h_plan
                          replace h_legs_now := rep_ext e238 h_legs_now
                          replace h1 := rep_ext e238 h1
                          replace hk12 := keep_ext e238 hk12
                          replace h50 := rep_ext e238 h50
                          replace hk60 := keep_ext e238 hk60
                          replace hk81 := keep_ext e238 hk81
                          replace h82 := rep_ext e238 h82
                          replace h92 := rep_ext e238 h92
                          replace hk105 := keep_ext e238 hk105
                          replace h117 := rep_ext e238 h117
                          replace h157 := rep_ext e238 h157
                          replace hW := hW.ret0 e238
                          obtain rfl := of_v h237
                          refine ⟨_, rfl, ?_⟩
                          refine ⟨_, rfl, ?_⟩
                          refine ⟨_, rfl, ?_⟩
                          refine iteF ?_
                          refine .inr ⟨_, rfl, ?_⟩
                          refine ⟨_, _, rfl, rfl, ?_⟩
                          exact hN108 ((s103 + (if false then (1 : Int) else 0))) _ _ hM ⟨_, _, _, _, rfl, hW, hk105⟩
                    · skip
                      refine ⟨_, rfl, ?_⟩
                      refine iteF ?_
                      refine ⟨_, rfl, ?_⟩
                      refine ⟨_, rfl, ?_⟩
                      refine ⟨rfl, ?_⟩
                      refine ⟨_, rfl, ?_⟩
                      refine ite3 hM (fun hM => ?_) (fun hM => ?_)
                      · skip
                        refine ⟨_, rfl, ?_⟩
                        obtain ⟨g241, g242, hM⟩ := hM
                        apply rep_ixL (e := (fun y_ : Int => (D.v (V.int y_)))) (xs := ys155) h157 g241 g242
                        intro u245 h243
                        obtain ⟨x244, x244e⟩ : ∃ x_, x_ = ys155[Int.toNat (0 : Int)]'g242 := ⟨_, rfl⟩
                        rw [← x244e] at h243
                        replace hM := hM x244 x244e
                        obtain rfl := of_v h243
                        refine ⟨rfl, ?_⟩
                        refine ⟨_, rfl, ?_⟩
                        refine ⟨_, rfl, ?_⟩
                        refine ⟨_, rfl, ?_⟩
                        refine ⟨_, rfl, ?_⟩
                        refine ⟨_, rfl, ?_⟩
                        refine ⟨ms, _, x_sheet_here, r3, x_ring, x8, x101, _, rfl, hW.enter0, h_sheet_here, hM, fun r246 u249 H250 hM e248 h247 => ?_⟩
                        replace h_sheet_here := rep_ext e248 h_sheet_here
                        replace h_plan := rep_ext e248 h_plan
                        replace h_legs_now := rep_ext e248 h_legs_now
                        replace h1 := rep_ext e248 h1
                        replace hk12 := keep_ext e248 hk12
                        replace h50 := rep_ext e248 h50
                        replace hk60 := keep_ext e248 hk60
                        replace hk81 := keep_ext e248 hk81
                        replace h82 := rep_ext e248 h82
                        replace h92 := rep_ext e248 h92
                        replace hk105 := keep_ext e248 hk105
                        replace h117 := rep_ext e248 h117
                        replace h157 := rep_ext e248 h157
                        replace hW := hW.ret0 e248
                        obtain rfl := of_v h247
                        refine ⟨_, rfl, ?_⟩
                        refine ⟨_, rfl, ?_⟩
                        refine ⟨_, rfl, ?_⟩
                        refine ite3 hM (fun hM => ?_) (fun hM => ?_)
                        · skip
                          refine ⟨_, rfl, ?_⟩
                          refine ⟨rfl, ?_⟩
                          refine ⟨_, rfl, ?_⟩
                          apply rep_ixT 2 h82 rfl rfl
                          intro u252 h251
                          obtain rfl := of_v h251
                          refine ⟨rfl, ?_⟩
                          refine .inr ⟨_, rfl, ?_⟩
                          refine ⟨_, _, rfl, rfl, ?_⟩
                          exact hN108 ((s103 + (if (!(decide (V.bl (decide (V.str r246 = V.str ("h" : Str))) = V.bl x77.2.2))) then (1 : Int) else 0))) _ _ hM ⟨_, _, _, _, rfl, hW, hk105⟩
                        · skip
                          refine .inr ⟨_, rfl, ?_⟩
                          refine ⟨_, _, rfl, rfl, ?_⟩
                          exact hN108 ((s103 + (if false then (1 : Int) else 0))) _ _ hM ⟨_, _, _, _, rfl, hW, hk105⟩
                      · skip
                        refine ⟨_, rfl, ?_⟩
                        refine ⟨_, rfl, ?_⟩
                        refine ⟨_, rfl, ?_⟩
                        refine ⟨_, rfl, ?_⟩
                        refine ⟨_, rfl, ?_⟩
                        refine ⟨ms, _, x_sheet_here, r3, x_ring, x8, x101, _, rfl, hW.enter0, h_sheet_here, hM, fun r253 u256 H257 hM e255 h254 => ?_⟩
                        replace h_sheet_here := rep_ext e255 h_sheet_here
                        replace h_plan := rep_ext e255 h_plan
                        replace h_legs_now := rep_ext e255 h_legs_now
                        replace h1 := rep_ext e255 h1
                        replace hk12 := keep_ext e255 hk12
                        replace h50 := rep_ext e255 h50
                        replace hk60 := keep_ext e255 hk60
                        replace hk81 := keep_ext e255 hk81
                        replace h82 := rep_ext e255 h82
                        replace h92 := rep_ext e255 h92
                        replace hk105 := keep_ext e255 hk105
                        replace h117 := rep_ext e255 h117
                        replace h157 := rep_ext e255 h157
                        replace hW := hW.ret0 e255
                        obtain rfl := of_v h254
                        refine ⟨_, rfl, ?_⟩
                        refine ⟨_, rfl, ?_⟩
                        refine ⟨_, rfl, ?_⟩
                        refine iteF ?_
                        refine .inr ⟨_, rfl, ?_⟩
                        refine ⟨_, _, rfl, rfl, ?_⟩
                        exact hN108 ((s103 + (if false then (1 : Int) else 0))) _ _ hM ⟨_, _, _, _, rfl, hW, hk105⟩
                · skip
                  refine ⟨_, rfl, ?_⟩
                  refine ⟨_, rfl, ?_⟩
                  refine iteF ?_
                  refine ⟨_, rfl, ?_⟩
                  refine ⟨_, rfl, ?_⟩
                  refine ⟨rfl, ?_⟩
                  refine ⟨_, rfl, ?_⟩
                  refine ite3 hM (fun hM => ?_) (fun hM => ?_)
                  · skip
                    refine ⟨_, rfl, ?_⟩
                    obtain ⟨g258, g259, hM⟩ := hM
                    apply rep_ixL (e := (fun y_ : Int => (D.v (V.int y_)))) (xs := ys155) h157 g258 g259
                    intro u262 h260
                    obtain ⟨x261, x261e⟩ : ∃ x_, x_ = ys155[Int.toNat (1 : Int)]'g259 := ⟨_, rfl⟩
                    rw [← x261e] at h260
                    replace hM := hM x261 x261e
                    obtain rfl := of_v h260
                    refine ⟨rfl, ?_⟩
                    refine ⟨_, rfl, ?_⟩
                    refine ite3 hM (fun hM => ?_) (fun hM => ?_)
                    · skip
                      refine ⟨_, rfl, ?_⟩
                      refine ⟨_, rfl, ?_⟩
                      refine ⟨_, rfl, ?_⟩
                      refine ⟨_, rfl, ?_⟩
                      refine ⟨_, rfl, ?_⟩
                      refine ⟨ms, _, x_sheet_here, r3, x_ring, x8, x101, _, rfl, hW.enter0, h_sheet_here, hM, fun r263 u266 H267 hM e265 h264 => ?_⟩
                      replace h_sheet_here := rep_ext e265 h_sheet_here
                      replace h_plan := rep_ext e265 h_plan
                      replace h_legs_now := rep_ext e265 h_legs_now
                      replace h1 := rep_ext e265 h1
                      replace hk12 := keep_ext e265 hk12
                      replace h50 := rep_ext e265 h50
                      replace hk60 := keep_ext e265 hk60
                      replace hk81 := keep_ext e265 hk81
                      replace h82 := rep_ext e265 h82
                      replace h92 := rep_ext e265 h92
                      replace hk105 := keep_ext e265 hk105
                      replace h117 := rep_ext e265 h117
                      replace h157 := rep_ext e265 h157
                      replace hW := hW.ret0 e265
                      obtain rfl := of_v h264
                      refine ⟨_, rfl, ?_⟩
                      refine ⟨_, rfl, ?_⟩
                      refine ⟨_, rfl, ?_⟩
                      refine iteT ?_
                      refine ⟨_, rfl, ?_⟩
                      refine ⟨rfl, ?_⟩
                      refine ⟨_, rfl, ?_⟩
                      apply rep_ixT 2 h82 rfl rfl
                      intro u269 h268
                      obtain rfl := of_v h268
                      refine ⟨rfl, ?_⟩
                      refine .inr ⟨_, rfl, ?_⟩
                      refine ⟨_, _, rfl, rfl, ?_⟩
                      exact hN108 ((s103 + (if (!(decide (V.bl (decide (V.str r263 = V.str ("h" : Str))) = V.bl x77.2.2))) then (1 : Int) else 0))) _ _ hM ⟨_, _, _, _, rfl, hW, hk105⟩
                    · skip
                      refine ⟨_, rfl, ?_⟩
                      refine ⟨_, rfl, ?_⟩
                      refine ⟨rfl, ?_⟩
                      refine ⟨_, rfl, ?_⟩
                      refine ite3 hM (fun hM => ?_) (fun hM => ?_)
                      · skip
                        refine ⟨_, rfl, ?_⟩
                        obtain ⟨g270, g271, hM⟩ := hM
                        apply rep_ixL (e := (fun y_ : Int => (D.v (V.int y_)))) (xs := ys155) h157 g270 g271
                        intro u274 h272
                        obtain ⟨x273, x273e⟩ : ∃ x_, x_ = ys155[Int.toNat (0 : Int)]'g271 := ⟨_, rfl⟩
                        rw [← x273e] at h272
                        replace hM := hM x273 x273e
                        obtain rfl := of_v h272
                        refine ⟨rfl, ?_⟩
                        refine ⟨_, rfl, ?_⟩
                        refine ⟨_, rfl, ?_⟩
                        refine ⟨_, rfl, ?_⟩
                        refine ⟨_, rfl, ?_⟩
                        refine ⟨_, rfl, ?_⟩
                        refine ⟨ms, _, x_sheet_here, r3, x_ring, x8, x101, _, rfl, hW.enter0, h_sheet_here, hM, fun r275 u278 H279 hM e277 h276 => ?_⟩
                        replace h_sheet_here := rep_ext e277 h_sheet_here
                        replace h_plan := rep_ext e277 h_plan
                        replace h_legs_now := rep_ext e277 h_legs_now
                        replace h1 := rep_ext e277 h1
                        replace hk12 := keep_ext e277 hk12
                        replace h50 := rep_ext e277 h50
                        replace hk60 := keep_ext e277 hk60
                        replace hk81 := keep_ext e277 hk81
                        replace h82 := rep_ext e277 h82
                        replace h92 := rep_ext e277 h92
                        replace hk105 := keep_ext e277 hk105
                        replace h117 := rep_ext e277 h117
                        replace h157 := rep_ext e277 h157
                        replace hW := hW.ret0 e277
                        obtain rfl := of_v h276
                        refine ⟨_, rfl, ?_⟩
                        refine ⟨_, rfl, ?_⟩
                        refine ⟨_, rfl, ?_⟩
                        refine ite3 hM (fun hM => ?_) (fun hM => ?_)
                        · skip
                          refine ⟨_, rfl, ?_⟩
                          refine ⟨rfl, ?_⟩
                          refine ⟨_, rfl, ?_⟩
                          apply rep_ixT 2 h82 rfl rfl
                          intro u281 h280
                          obtain rfl := of_v h280
                          refine ⟨rfl, ?_⟩
                          refine .inr ⟨_, rfl, ?_⟩
                          refine ⟨_, _, rfl, rfl, ?_⟩
                          exact hN108 ((s103 + (if (!(decide (V.bl (decide (V.str r275 = V.str ("h" : Str))) = V.bl x77.2.2))) then (1 : Int) else 0))) _ _ hM ⟨_, _, _, _, rfl, hW, hk105⟩
                        · skip
                          refine .inr ⟨_, rfl, ?_⟩
                          refine ⟨_, _, rfl, rfl, ?_⟩
                          exact hN108 ((s103 + (if false then (1 : Int) else 0))) _ _ hM ⟨_, _, _, _, rfl, hW, hk105⟩
                      · skip
                        refine ⟨_, rfl, ?_⟩
                        refine ⟨_, rfl, ?_⟩
                        refine ⟨_, rfl, ?_⟩
                        refine ⟨_, rfl, ?_⟩
                        refine ⟨_, rfl, ?_⟩
                        refine ⟨ms, _, x_sheet_here, r3, x_ring, x8, x101, _, rfl, hW.enter0, h_sheet_here, hM, fun r282 u285 H286 hM e284 h283 => ?_⟩
                        replace h_sheet_here := rep_ext e284 h_sheet_here
                        replace h_plan := rep_ext e284 h_plan
                        replace h_legs_now := rep_ext e284 h_legs_now
                        replace h1 := rep_ext e284 h1
                        replace hk12 := keep_ext e284 hk12
                        replace h50 := rep_ext e284 h50
                        replace hk60 := keep_ext e284 hk60
                        replace hk81 := keep_ext e284 hk81
                        replace h82 := rep_ext e284 h82
                        replace h92 := rep_ext e284 h92
                        replace hk105 := keep_ext e284 hk105
                        replace h117 := rep_ext e284 h117
                        replace h157 := rep_ext e284 h157
                        replace hW := hW.ret0 e284
                        obtain rfl := of_v h283
                        refine ⟨_, rfl, ?_⟩
                        refine ⟨_, rfl, ?_⟩
                        refine ⟨_, rfl, ?_⟩
                        refine iteF ?_
                        refine .inr ⟨_, rfl, ?_⟩
                        refine ⟨_, _, rfl, rfl, ?_⟩
                        exact hN108 ((s103 + (if false then (1 : Int) else 0))) _ _ hM ⟨_, _, _, _, rfl, hW, hk105⟩
                  · skip
                    refine ⟨_, rfl, ?_⟩
                    refine iteF ?_
                    refine ⟨_, rfl, ?_⟩
                    refine ⟨_, rfl, ?_⟩
                    refine ⟨rfl, ?_⟩
                    refine ⟨_, rfl, ?_⟩
                    refine ite3 hM (fun hM => ?_) (fun hM => ?_)
                    · skip
                      refine ⟨_, rfl, ?_⟩
                      obtain ⟨g287, g288, hM⟩ := hM
                      apply rep_ixL (e := (fun y_ : Int => (D.v (V.int y_)))) (xs := ys155) h157 g287 g288
                      intro u291 h289
                      obtain ⟨x290, x290e⟩ : ∃ x_, x_ = ys155[Int.toNat (0 : Int)]'g288 := ⟨_, rfl⟩
                      rw [← x290e] at h289
                      replace hM := hM x290 x290e
                      obtain rfl := of_v h289
                      refine ⟨rfl, ?_⟩
                      refine ⟨_, rfl, ?_⟩
                      refine ⟨_, rfl, ?_⟩
                      refine ⟨_, rfl, ?_⟩
                      refine ⟨_, rfl, ?_⟩
                      refine ⟨_, rfl, ?_⟩
                      refine ⟨ms, _, x_sheet_here, r3, x_ring, x8, x101, _, rfl, hW.enter0, h_sheet_here, hM, fun r292 u295 H296 hM e294 h293 => ?_⟩
                      replace h_sheet_here := rep_ext e294 h_sheet_here
                      replace h_plan := rep_ext e294 h_plan
                      replace h_legs_now := rep_ext e294 h_legs_now
                      replace h1 := rep_ext e294 h1
                      replace hk12 := keep_ext e294 hk12
                      replace h50 := rep_ext e294 h50
                      replace hk60 := keep_ext e294 hk60
                      replace hk81 := keep_ext e294 hk81
                      replace h82 := rep_ext e294 h82
                      replace h92 := rep_ext e294 h92
                      replace hk105 := keep_ext e294 hk105
                      replace h117 := rep_ext e294 h117
                      replace h157 := rep_ext e294 h157
                      replace hW := hW.ret0 e294
                      obtain rfl := of_v h293
                      refine ⟨_, rfl, ?_⟩
                      refine ⟨_, rfl, ?_⟩
                      refine ⟨_, rfl, ?_⟩
                      refine ite3 hM (fun hM => ?_) (fun hM => ?_)
                      · skip
                        refine ⟨_, rfl, ?_⟩
                        refine ⟨rfl, ?_⟩
                        refine ⟨_, rfl, ?_⟩
                        apply rep_ixT 2 h82 rfl rfl
                        intro u298 h297
                        obtain rfl := of_v h297
                        refine ⟨rfl, ?_⟩
                        refine .inr ⟨_, rfl, ?_⟩
                        refine ⟨_, _, rfl, rfl, ?_⟩
                        exact hN108 ((s103 + (if (!(decide (V.bl (decide (V.str r292 = V.str ("h" : Str))) = V.bl x77.2.2))) then (1 : Int) else 0))) _ _ hM ⟨_, _, _, _, rfl, hW, hk105⟩
                      · skip
                        refine .inr ⟨_, rfl, ?_⟩
                        refine ⟨_, _, rfl, rfl, ?_⟩
                        exact hN108 ((s103 + (if false then (1 : Int) else 0))) _ _ hM ⟨_, _, _, _, rfl, hW, hk105⟩
                    · skip
                      refine ⟨_, rfl, ?_⟩
                      refine ⟨_, rfl, ?_⟩
                      refine ⟨_, rfl, ?_⟩
                      refine ⟨_, rfl, ?_⟩
                      refine ⟨_, rfl, ?_⟩
                      refine ⟨ms, _, x_sheet_here, r3, x_ring, x8, x101, _, rfl, hW.enter0, h_sheet_here, hM, fun r299 u302 H303 hM e301 h300 => ?_⟩
                      replace h_sheet_here := rep_ext e301 h_sheet_here
                      replace h_plan := rep_ext e301 h_plan
                      replace h_legs_now := rep_ext e301 h_legs_now
                      replace h1 := rep_ext e301 h1
                      replace hk12 := keep_ext e301 hk12
                      replace h50 := rep_ext e301 h50
                      replace hk60 := keep_ext e301 hk60
                      replace hk81 := keep_ext e301 hk81
                      replace h82 := rep_ext e301 h82
                      replace h92 := rep_ext e301 h92
                      replace hk105 := keep_ext e301 hk105
                      replace h117 := rep_ext e301 h117
                      replace h157 := rep_ext e301 h157
                      replace hW := hW.ret0 e301
                      obtain rfl := of_v h300
                      refine ⟨_, rfl, ?_⟩
                      refine ⟨_, rfl, ?_⟩
                      refine ⟨_, rfl, ?_⟩
                      refine iteF ?_
                      refine .inr ⟨_, rfl, ?_⟩
                      refine ⟨_, _, rfl, rfl, ?_⟩
                      exact hN108 ((s103 + (if false then (1 : Int) else 0))) _ _ hM ⟨_, _, _, _, rfl, hW, hk105⟩
            · skip
              rintro s304 _ H310 hM ⟨w306, w307, w308, w309, rfl, hW, hk305⟩
              replace h_sheet_here := rep_keep hk305 h_sheet_here
              replace h_plan := rep_keep hk305 h_plan
              replace h_legs_now := rep_keep hk305 h_legs_now
              replace h1 := rep_keep hk305 h1
              replace hk12 := Keep.trans hk12 hk305
              replace h50 := rep_keep hk305 h50
              replace hk60 := Keep.trans hk60 hk305
              replace hk81 := Keep.trans hk81 hk305
              replace h82 := rep_keep hk305 h82
              replace h92 := rep_keep hk305 h92
              exact hN84 (s304) _ _ hM ⟨_, _, _, _, _, rfl, hW, hk81⟩
          · skip
            rintro s311 _ H318 hM ⟨w313, w314, w315, w316, w317, rfl, hW, hk312⟩
            replace h_sheet_here := rep_keep hk312 h_sheet_here
            replace h_plan := rep_keep hk312 h_plan
            replace h_legs_now := rep_keep hk312 h_legs_now
            replace h1 := rep_keep hk312 h1
            replace hk12 := Keep.trans hk12 hk312
            replace h50 := rep_keep hk312 h50
            replace hk60 := Keep.trans hk60 hk312
            refine ⟨_, rfl, ?_⟩
            refine ⟨_, rfl, ?_⟩
            refine ⟨_, _, rfl, rfl, ?_⟩
            refine ⟨_, rfl, ?_⟩
            refine ⟨_, rfl, ?_⟩
            refine ⟨_, rfl, ?_⟩
            refine ⟨ms, _, _, x_plan, (x_ring + (1 : Int)), x_legs_now, x8, x56, _, rfl, hW.enter0, h_plan, h_legs_now, hM, fun r319 u322 H323 hM e321 h320 => ?_⟩
            replace h_sheet_here := rep_ext e321 h_sheet_here
            replace h_plan := rep_ext e321 h_plan
            replace h_legs_now := rep_ext e321 h_legs_now
            replace h1 := rep_ext e321 h1
            replace hk12 := keep_ext e321 hk12
            replace h50 := rep_ext e321 h50
            replace hk60 := keep_ext e321 hk60
            replace hW := hW.ret0 e321
            obtain rfl := of_v h320
            refine ⟨_, rfl, ?_⟩
            refine ⟨rfl, ?_⟩
            refine ⟨_, rfl, ?_⟩
            refine ite3 hM (fun hM => ?_) (fun hM => ?_)
            · skip
              exact hQ false _ _ hM hW.out rep_v
            · skip
              exact hN63 () _ _ hM ⟨_, _, _, _, _, _, _, rfl, hW, hk60⟩
        · skip
          rintro s324 _ H333 hM ⟨w326, w327, w328, w329, w330, w331, w332, rfl, hW, hk325⟩
          replace h_sheet_here := rep_keep hk325 h_sheet_here
          replace h_plan := rep_keep hk325 h_plan
          replace h_legs_now := rep_keep hk325 h_legs_now
          replace h1 := rep_keep hk325 h1
          replace hk12 := Keep.trans hk12 hk325
          replace h50 := rep_keep hk325 h50
          exact hN15 () _ _ hM ⟨_, _, _, _, _, _, _, _, rfl, hW, hk12⟩
    · skip
      rintro s334 _ H344 hM ⟨w336, w337, w338, w339, w340, w341, w342, w343, rfl, hW, hk335⟩
      replace h_sheet_here := rep_keep hk335 h_sheet_here
      replace h_plan := rep_keep hk335 h_plan
      replace h_legs_now := rep_keep hk335 h_legs_now
      replace h1 := rep_keep hk335 h1
      exact hQ true _ _ hM hW.out rep_v
def M_days_of (x_sheet_here : (Int × (Str × Str × Str) × Str × Bool)) (x_ring : Int) (x_who : Int) (x_mate : Int) (KM : (List Int) → Prop) : Prop :=
  (∃ KB1 : (Int × Int) → Prop, (if (inV (V.int x_ring) (([x_who, x_mate] : List Int).map V.int)) = true then (KB1 (x_sheet_here.1, (if x_mate < x_who then x_mate else x_who))) else (KB1 (((2 : Int) * x_sheet_here.1), (x_who + x_mate)))) ∧ ∀ r26 : (Int × Int), KB1 r26 → (forC (fun (x44 : Int) (s46 : (List Int)) (k47 : ((List Int)) → Prop) => (CMulW x44 x_ring ∧ (r26.1 ≠ 0 ∧ (if (decide (V.int (Int.fmod (r26.2 + (x44 * x_ring)) r26.1) = V.int (0 : Int))) = true then (CMulW x44 x_ring ∧ (CDivN (r26.2 + (x44 * x_ring)) r26.1 ∧ (if (decide ((0 : Int) ≤ (Int.fdiv (r26.2 + (x44 * x_ring)) r26.1))) = true then (if (decide ((Int.fdiv (r26.2 + (x44 * x_ring)) r26.1) < x_ring)) = true then (CMulW x44 x_ring ∧ (CDivN (r26.2 + (x44 * x_ring)) r26.1 ∧ (s46.length < 16777216 ∧ (k47 ((s46 ++ [(Int.fdiv (r26.2 + (x44 * x_ring)) r26.1)])))))) else (k47 (s46))) else (k47 (s46))))) else (k47 (s46)))))) (rangeI (-(20 : Int)) (21 : Int)) (([] : List Int)) fun s68 => (∀ ys74 : List Int, ys74.Perm s68 → ys74.Pairwise (· ≤ ·) → (KM ys74))))
def sp_days_of (A : Ad) : Sp := fun vs H Q _ => ∃ (ms : List Addr) (v_sheet_here : V) (x_sheet_here : (Int × (Str × Str × Str) × Str × Bool)) (x_ring : Int) (x_who : Int) (x_mate : Int) (KM : (List Int) → Prop), vs = [v_sheet_here, V.int x_ring, V.int x_who, V.int x_mate] ∧ Wd ms [] [] H H ∧ rep ms H (D.tup [(D.v (V.int x_sheet_here.1)), (D.tup [(D.v (V.str x_sheet_here.2.1.1)), (D.v (V.str x_sheet_here.2.1.2.1)), (D.v (V.str x_sheet_here.2.1.2.2))]), (D.v (V.str x_sheet_here.2.2.1)), (D.v (V.bl x_sheet_here.2.2.2))]) v_sheet_here ∧ M_days_of x_sheet_here x_ring x_who x_mate KM ∧ ∀ (r : (List Int)) (u : V) (H1 : Hp), KM r → Ret [] H H1 → rep ms H1 (D.lst (r.map (fun y_ : Int => (D.v (V.int y_))))) u → Q u H1
set_option maxHeartbeats 16000000 in
theorem ok_days_of {P : Program} {w : World} {K : PySem.W.Frag} {mg : Str → Option Value} {base : Heap} {A : Ad} (T : Txt w K mg A) : FnOk P w K mg base CX0 1 A.a_days_of A.d_days_of ["_law_sheet_here", "_law_ring", "_law_who", "_law_mate"] (sp_days_of A) := by
  refine T.F_days_of.ok sc_days_of (fun vs H Q E h => ?_) (fun cdv A_ outer s_ H_0 vs Q E hr h => ?_)
  · obtain ⟨ms, v_sheet_here, x_sheet_here, x_ring, x_who, x_mate, KM, rfl, _⟩ := h
    rfl
  · obtain ⟨ms, v_sheet_here, x_sheet_here, x_ring, x_who, x_mate, KM, rfl, hW, h_sheet_here, hM, hQ⟩ := h
    unfold M_days_of at hM
    refine ⟨_, (pss_cons (ps_asg (pe_up (pe_ifExp (pt_cmpR (op_inSK (K := K) rfl) (pv 1) (pe_tup (pa_cons (pv 2) (pa_cons (pv 3) pa_nil))) (by rfl)) (pe_tup (pa_cons (pe_ix (ix_tupK (K := K) rfl) (pv 0) pe_int (fun _ _ => rfl)) (pa_cons (pe_callB (call_min2 rfl) (by rfl) T.z_min (by decide +kernel) (pa_cons (pv 2) (pa_cons (pv 3) pa_nil))) pa_nil))) (pe_tup (pa_cons (pe_op op_mul pe_int (pe_ix (ix_tupK (K := K) rfl) (pv 0) pe_int (fun _ _ => rfl))) (pa_cons (pe_op op_add (pv 2) (pv 3)) pa_nil))))) (pg_tup rfl (pgs_cons (pg_name (i := 4) sc_days_of.nd rfl (by first | exact Or.inl rfl | exact Or.inr rfl)) (pgs_cons (pg_name (i := 5) sc_days_of.nd rfl (by first | exact Or.inl rfl | exact Or.inr rfl)) pgs_nil)))) (pss_cons (ps_set (i := 6) sc_days_of.nd rfl (by first | exact Or.inl rfl | exact Or.inr rfl) (pe_lst pa_nil)) (pss_cons (ps_for PassesOwn.never rfl (pi_rangeW2 (by rfl) T.z_range (pa_cons (pe_un un_neg pe_int) (pa_cons pe_int pa_nil))) (pg_name (i := 7) sc_days_of.nd rfl (by first | exact Or.inl rfl | exact Or.inr rfl)) (pss_one (ps_if (PW.pt (pw_and (pt_cmpR op_eq (pe_op op_modN (pe_op op_add (pv 5) (pe_op op_mulW (pv 7) (pv 1))) (pv 4)) pe_int (nomark _)) (pw_and1 (pt_chain op_le op_lt pe_int (pe_op op_fdivN (pe_op op_add (pv 5) (pe_op op_mulW (pv 7) (pv 1))) (pv 4)) (pv 1))))) (pss_one (ps_expr (pe_bmK (K := K) rfl PySem.F.plainAttrs_list PySem.F.slot_list_append PySem.F.type_list_append mt_append (pv 6) (pa_cons (pe_op op_fdivN (pe_op op_add (pv 5) (pe_op op_mulW (pv 7) (pv 1))) (pv 4)) pa_nil)))) pss_nil))) (pss_one (ps_ret (pe_callB (cr_sortedIK (K := K) rfl) (by rfl) T.z_sorted (by decide +kernel) (pa_cons (pv 6) pa_nil))))))), ?_⟩
    obtain ⟨KB1, hM, hKKB1⟩ := hM
    refine ⟨fun v H1 => ∃ r : (Int × Int), KB1 r ∧ Wd ms [] [] H_0 H1 ∧ Keep ms H_0 H1 ∧ rep ms H1 (D.tup [(D.v (V.int r.1)), (D.v (V.int r.2))]) v, ?_, ?_⟩
    · skip
      have hj3 := Keep.refl (ms := ms) (H := H_0)
      refine ⟨_, rfl, ?_⟩
      refine ⟨_, rfl, ?_⟩
      refine ⟨_, rfl, ?_⟩
      refine ⟨(by show 2 ≤ sizeLine; decide), ?_⟩
      intro p4 n8
      have e5 := Rx.Ext.new (H := H_0) (o := (HO.tup [V.int x_who, V.int x_mate])) n8
      have hp6 : upd H_0 p4 (HO.tup [V.int x_who, V.int x_mate]) p4 = some (HO.tup [V.int x_who, V.int x_mate]) := upd_same
      generalize upd H_0 p4 (HO.tup [V.int x_who, V.int x_mate]) = H9 at e5 hp6 ⊢
      have h7 : rep ms H9 (D.tup [(D.v (V.int x_who)), (D.v (V.int x_mate))]) (.ref p4) := rep_tup_mk hW n8 e5 hp6 (repL_cons rep_v (repL_cons rep_v repL_nil))
      replace h_sheet_here := rep_ext e5 h_sheet_here
      replace hj3 := keep_ext e5 hj3
      replace hW := hW.ret0 e5
      apply rep_inT (f := V.int) (xs := ([x_who, x_mate] : List Int)) h7 rfl (fun _ => rfl)
      refine ⟨_, rfl, ?_⟩
      refine ite3 hM (fun hM => ?_) (fun hM => ?_)
      · skip
        refine ⟨_, rfl, ?_⟩
        apply rep_ixT 0 h_sheet_here rfl rfl
        intro u11 h10
        obtain rfl := of_v h10
        refine ⟨_, rfl, ?_⟩
        refine ⟨_, rfl, ?_⟩
        refine ⟨_, _, rfl, ?_⟩
        refine ⟨(by show 2 ≤ sizeLine; decide), ?_⟩
        intro p12 n16
        have e13 := Rx.Ext.new (H := H9) (o := (HO.tup [V.int x_sheet_here.1, V.int (if x_mate < x_who then x_mate else x_who)])) n16
        have hp14 : upd H9 p12 (HO.tup [V.int x_sheet_here.1, V.int (if x_mate < x_who then x_mate else x_who)]) p12 = some (HO.tup [V.int x_sheet_here.1, V.int (if x_mate < x_who then x_mate else x_who)]) := upd_same
        generalize upd H9 p12 (HO.tup [V.int x_sheet_here.1, V.int (if x_mate < x_who then x_mate else x_who)]) = H17 at e13 hp14 ⊢
        have h15 : rep ms H17 (D.tup [(D.v (V.int x_sheet_here.1)), (D.v (V.int (if x_mate < x_who then x_mate else x_who)))]) (.ref p12) := rep_tup_mk hW n16 e13 hp14 (repL_cons rep_v (repL_cons rep_v repL_nil))
        replace h_sheet_here := rep_ext e13 h_sheet_here
        replace hj3 := keep_ext e13 hj3
        replace h7 := rep_ext e13 h7
        replace hW := hW.ret0 e13
        exact ⟨(x_sheet_here.1, (if x_mate < x_who then x_mate else x_who)), hM, hW, hj3, h15⟩
      · skip
        refine ⟨_, rfl, ?_⟩
        apply rep_ixT 0 h_sheet_here rfl rfl
        intro u19 h18
        obtain rfl := of_v h18
        refine ⟨_, _, rfl, rfl, .inl ⟨by decide, by decide⟩, ?_⟩
        refine ⟨_, rfl, ?_⟩
        refine ⟨_, rfl, ?_⟩
        refine ⟨_, _, rfl, rfl, ?_⟩
        refine ⟨(by show 2 ≤ sizeLine; decide), ?_⟩
        intro p20 n24
        have e21 := Rx.Ext.new (H := H9) (o := (HO.tup [V.int ((2 : Int) * x_sheet_here.1), V.int (x_who + x_mate)])) n24
        have hp22 : upd H9 p20 (HO.tup [V.int ((2 : Int) * x_sheet_here.1), V.int (x_who + x_mate)]) p20 = some (HO.tup [V.int ((2 : Int) * x_sheet_here.1), V.int (x_who + x_mate)]) := upd_same
        generalize upd H9 p20 (HO.tup [V.int ((2 : Int) * x_sheet_here.1), V.int (x_who + x_mate)]) = H25 at e21 hp22 ⊢
        have h23 : rep ms H25 (D.tup [(D.v (V.int ((2 : Int) * x_sheet_here.1))), (D.v (V.int (x_who + x_mate)))]) (.ref p20) := rep_tup_mk hW n24 e21 hp22 (repL_cons rep_v (repL_cons rep_v repL_nil))
        replace h_sheet_here := rep_ext e21 h_sheet_here
        replace hj3 := keep_ext e21 hj3
        replace h7 := rep_ext e21 h7
        replace hW := hW.ret0 e21
        exact ⟨(((2 : Int) * x_sheet_here.1), (x_who + x_mate)), hM, hW, hj3, h23⟩
    · skip
      rintro u28 Hj2 ⟨r26, hr, hW, hj3, h27⟩
      replace hM := hKKB1 r26 hr
      replace h_sheet_here := rep_keep hj3 h_sheet_here
      apply rep_gtup h27 rfl
      intro vs29 hv30
      obtain ⟨u31, us32, rfl, h33, hv34⟩ := repL_uncons hv30
      obtain rfl := of_v h33
      obtain ⟨u35, us36, rfl, h37, hv38⟩ := repL_uncons hv34
      obtain rfl := of_v h37
      obtain rfl := repL_empty hv38
      refine ⟨_, _, rfl, ?_⟩
      refine ⟨_, _, rfl, ?_⟩
      refine ⟨rfl, ?_⟩
      refine ⟨(by show 0 ≤ sizeLine; decide), ?_⟩
      intro L39 nl40
      have nm41 := nm_new hW nl40
      have mu42 := mo_newL (ds := ([] : List Int).map (fun y_ : Int => (D.v (V.int y_)))) (vs := []) hW nl40 repL_nil
      replace h_sheet_here := rep_cell (o := .lst []) nl40 h_sheet_here
      replace h27 := rep_cell (o := .lst []) nl40 h27
      replace hW := wd_cell (o := .lst []) hW nl40
      generalize upd Hj2 L39 (.lst []) = H43 at *
      replace mu42 : MutO (L39 :: ms) [] H_0 H43 L39 (D.lst (([] : List Int).map (fun y_ : Int => (D.v (V.int y_))))) := mu42
      refine ⟨_, rfl, ?_⟩
      refine ⟨_, _, rfl, ?_⟩
      refine for_rangeG (S := (List Int)) (lo := (-(20 : Int))) (hi := (21 : Int)) (N := Int.toNat ((21 : Int) - (-(20 : Int)))) (fun (s : (List Int)) σ_ h_ => ∃ (w_0 : Option V), σ_ = [some v_sheet_here, some (V.int x_ring), some (V.int x_who), some (V.int x_mate), some (V.int r26.1), some (V.int r26.2), some (V.ref L39), w_0] ∧ Wd (L39 :: ms) [] [] H_0 h_ ∧ Keep (L39 :: ms) H43 h_ ∧ MutO (L39 :: ms) [] H_0 h_ L39 (D.lst (s.map (fun y_ : Int => (D.v (V.int y_)))))) (([] : List Int)) (by simp) hM ⟨_, rfl, hW, Keep.refl, mu42⟩ ?_ ?_
      · skip
        clear mu42
        rintro x44 s46 k47 _ H54 ⟨w52, rfl, hW, hk48, mu53⟩ hM Nx50 hN51
        replace h_sheet_here := rep_keep hk48 h_sheet_here
        replace h27 := rep_keep hk48 h27
        refine ⟨_, rfl, ?_⟩
        refine ⟨_, rfl, ?_⟩
        refine ⟨_, rfl, ?_⟩
        obtain ⟨g55, hM⟩ := hM
        refine ⟨_, _, rfl, rfl, g55, ?_⟩
        refine ⟨_, _, rfl, rfl, ?_⟩
        refine ⟨_, rfl, ?_⟩
        obtain ⟨g56, hM⟩ := hM
        refine ⟨_, _, rfl, rfl, g56, ?_⟩
        refine ⟨rfl, ?_⟩
        refine ⟨_, rfl, ?_⟩
        refine ite3 hM (fun hM => ?_) (fun hM => ?_)
        · skip
          refine ⟨_, rfl, ?_⟩
          refine ⟨_, rfl, ?_⟩
          refine ⟨_, rfl, ?_⟩
          obtain ⟨g57, hM⟩ := hM
          refine ⟨_, _, rfl, rfl, g57, ?_⟩
          refine ⟨_, _, rfl, rfl, ?_⟩
          refine ⟨_, rfl, ?_⟩
          obtain ⟨g58, hM⟩ := hM
          refine ⟨_, _, rfl, rfl, g58, ?_⟩
          refine ⟨_, _, rfl, rfl, ?_⟩
          refine ⟨_, rfl, ?_⟩
          refine ite3 hM (fun hM => ?_) (fun hM => ?_)
          · skip
            refine ⟨_, rfl, ?_⟩
            refine ⟨_, _, rfl, rfl, ?_⟩
            refine ⟨_, rfl, ?_⟩
            refine ite3 hM (fun hM => ?_) (fun hM => ?_)
            · skip
              refine ⟨_, rfl, ?_⟩
              refine ⟨mo_tyL mu53, ?_⟩
              refine ⟨_, rfl, ?_⟩
              refine ⟨_, rfl, ?_⟩
              refine ⟨_, rfl, ?_⟩
              obtain ⟨g59, hM⟩ := hM
              refine ⟨_, _, rfl, rfl, g59, ?_⟩
              refine ⟨_, _, rfl, rfl, ?_⟩
              refine ⟨_, rfl, ?_⟩
              obtain ⟨g60, hM⟩ := hM
              refine ⟨_, _, rfl, rfl, g60, ?_⟩
              obtain ⟨g61, hM⟩ := hM
              apply mo_appU mu53 (by rw [List.length_map]; exact g61)
              intro vs62 hr64
              have mk66 := mo_setL mu53 (repL_snoc (e := (fun y_ : Int => (D.v (V.int y_)))) (xs := s46) (y := (Int.fdiv (r26.2 + (x44 * x_ring)) r26.1)) hr64 rep_v)
              replace h_sheet_here := rep_put (o := .lst (vs62 ++ [V.int (Int.fdiv (r26.2 + (x44 * x_ring)) r26.1)])) mu53.im h_sheet_here
              replace h27 := rep_put (o := .lst (vs62 ++ [V.int (Int.fdiv (r26.2 + (x44 * x_ring)) r26.1)])) mu53.im h27
              replace hk48 := keep_put (o := .lst (vs62 ++ [V.int (Int.fdiv (r26.2 + (x44 * x_ring)) r26.1)])) mu53.im hk48
              replace hW := wd_put (o := .lst (vs62 ++ [V.int (Int.fdiv (r26.2 + (x44 * x_ring)) r26.1)])) hW mu53
              replace mu53 := mk66
              generalize upd H54 L39 (.lst (vs62 ++ [V.int (Int.fdiv (r26.2 + (x44 * x_ring)) r26.1)])) = H67 at *
              replace mu53 : MutO (L39 :: ms) [] H_0 H67 L39 (D.lst ((s46 ++ [(Int.fdiv (r26.2 + (x44 * x_ring)) r26.1)]).map (fun y_ : Int => (D.v (V.int y_))))) := mu53
              clear mk66
              exact hN51 ((s46 ++ [(Int.fdiv (r26.2 + (x44 * x_ring)) r26.1)])) _ _ hM ⟨_, rfl, hW, hk48, mu53⟩
            · skip
              exact hN51 (s46) _ _ hM ⟨_, rfl, hW, hk48, mu53⟩
          · skip
            refine ⟨_, rfl, ?_⟩
            refine iteF ?_
            exact hN51 (s46) _ _ hM ⟨_, rfl, hW, hk48, mu53⟩
        · skip
          refine iteF ?_
          exact hN51 (s46) _ _ hM ⟨_, rfl, hW, hk48, mu53⟩
      · skip
        clear mu42
        rintro s68 _ H72 hM ⟨w70, rfl, hW, hk69, mu71⟩
        replace h_sheet_here := rep_keep hk69 h_sheet_here
        replace h27 := rep_keep hk69 h27
        have h73 := mo_rep_dr dr_here nm41 mu71
        replace hW := wd_dr dr_here mu71.hp hW
        replace h_sheet_here := rep_dr dr_here h_sheet_here
        replace h27 := rep_dr dr_here h27
        clear mu71
        refine ⟨_, rfl, ?_⟩
        apply rep_sortI (xs := s68) h73
        intro ys74 hpm75 hst76
        replace hM := hM ys74 hpm75 hst76
        intro p77 n81
        have e78 := Rx.Ext.new (H := H72) (o := (HO.lst (ys74.map V.int))) n81
        have hp79 : upd H72 p77 (HO.lst (ys74.map V.int)) p77 = some (HO.lst (ys74.map V.int)) := upd_same
        generalize upd H72 p77 (HO.lst (ys74.map V.int)) = H82 at e78 hp79 ⊢
        have h80 : rep ms H82 (D.lst (ys74.map (fun y_ : Int => (D.v (V.int y_))))) (.ref p77) := rep_lst_mk hW n81 e78 hp79 repL_intsM
        replace h_sheet_here := rep_ext e78 h_sheet_here
        replace h27 := rep_ext e78 h27
        replace h73 := rep_ext e78 h73
        replace hW := hW.ret0 e78
        exact hQ ys74 _ _ hM hW.out h80
def M_mark (x_parts : (Str × Str × Str)) (x_places : Int) (x_place : Int) (KM : Str → Prop) : Prop :=
  (x_parts.1.length ≤ sizeLine ∧ (if (decide (x_place ≤ (x_parts.1.length : Int))) = true then (x_parts.1.length ≤ sizeLine ∧ ∃ c7, atI x_parts.1.cps.toList (x_place - (1 : Int)) = some c7 ∧ (KM (Str.mk #[c7]))) else (x_parts.2.2.length ≤ sizeLine ∧ (if (decide ((x_places - x_place) < (x_parts.2.2.length : Int))) = true then (x_parts.2.2.length ≤ sizeLine ∧ ∃ c14, atI x_parts.2.2.cps.toList ((x_place - x_places) - (1 : Int)) = some c14 ∧ (KM (Str.mk #[c14]))) else (x_parts.1.length ≤ sizeLine ∧ (x_parts.2.1.length ≤ sizeLine ∧ (0 < (x_parts.2.1.length : Int) ∧ (x_parts.2.1.length ≤ sizeLine ∧ ∃ c25, atI x_parts.2.1.cps.toList (((x_place - (1 : Int)) - (x_parts.1.length : Int)) % (x_parts.2.1.length : Int)) = some c25 ∧ (KM (Str.mk #[c25]))))))))))
def sp_mark (A : Ad) : Sp := fun vs H Q _ => ∃ (ms : List Addr) (v_parts : V) (x_parts : (Str × Str × Str)) (x_places : Int) (x_place : Int) (KM : Str → Prop), vs = [v_parts, V.int x_places, V.int x_place] ∧ Wd ms [] [] H H ∧ rep ms H (D.tup [(D.v (V.str x_parts.1)), (D.v (V.str x_parts.2.1)), (D.v (V.str x_parts.2.2))]) v_parts ∧ M_mark x_parts x_places x_place KM ∧ ∀ (r : Str) (u : V) (H1 : Hp), KM r → Ret [] H H1 → rep ms H1 (D.v (V.str r)) u → Q u H1
set_option maxHeartbeats 16000000 in
theorem ok_mark {P : Program} {w : World} {K : PySem.W.Frag} {mg : Str → Option Value} {base : Heap} {A : Ad} (T : Txt w K mg A) : FnOk P w K mg base CX0 1 A.a_mark A.d_mark ["_law_parts", "_law_places", "_law_place"] (sp_mark A) := by
  refine T.F_mark.ok sc_mark (fun vs H Q E h => ?_) (fun cdv A_ outer s_ H_0 vs Q E hr h => ?_)
  · obtain ⟨ms, v_parts, x_parts, x_places, x_place, KM, rfl, _⟩ := h
    rfl
  · obtain ⟨ms, v_parts, x_parts, x_places, x_place, KM, rfl, hW, h_parts, hM, hQ⟩ := h
    unfold M_mark at hM
    refine ⟨_, (pss_cons (ps_if (pt_cmpR op_le (pv 2) (pe_callB call_len_str (by rfl) T.z_len PySem.boot_len (pa_cons (pe_ix (ix_tupK (K := K) rfl) (pv 0) pe_int (fun _ _ => rfl)) pa_nil)) (nomark _)) (pss_one (ps_ret (pe_ix ix_str (pe_ix (ix_tupK (K := K) rfl) (pv 0) pe_int (fun _ _ => rfl)) (pe_op op_sub (pv 2) pe_int) (fun _ _ => rfl)))) pss_nil) (pss_cons (ps_if (pt_cmpR op_lt (pe_op op_sub (pv 1) (pv 2)) (pe_callB call_len_str (by rfl) T.z_len PySem.boot_len (pa_cons (pe_ix (ix_tupK (K := K) rfl) (pv 0) pe_int (fun _ _ => rfl)) pa_nil)) (nomark _)) (pss_one (ps_ret (pe_ix ix_str (pe_ix (ix_tupK (K := K) rfl) (pv 0) pe_int (fun _ _ => rfl)) (pe_op op_sub (pe_op op_sub (pv 2) (pv 1)) pe_int) (fun _ _ => rfl)))) pss_nil) (pss_one (ps_ret (pe_ix ix_str (pe_ix (ix_tupK (K := K) rfl) (pv 0) pe_int (fun _ _ => rfl)) (pe_op op_mod (pe_op op_sub (pe_op op_sub (pv 2) pe_int) (pe_callB call_len_str (by rfl) T.z_len PySem.boot_len (pa_cons (pe_ix (ix_tupK (K := K) rfl) (pv 0) pe_int (fun _ _ => rfl)) pa_nil))) (pe_callB call_len_str (by rfl) T.z_len PySem.boot_len (pa_cons (pe_ix (ix_tupK (K := K) rfl) (pv 0) pe_int (fun _ _ => rfl)) pa_nil))) (fun _ _ => rfl)))))), ?_⟩
    refine ⟨_, rfl, ?_⟩
    refine ⟨_, rfl, ?_⟩
    apply rep_ixT 0 h_parts rfl rfl
    intro u2 h1
    obtain rfl := of_v h1
    obtain ⟨g3, hM⟩ := hM
    refine ⟨_, rfl, g3, ?_⟩
    refine ⟨_, _, rfl, rfl, ?_⟩
    refine ⟨_, rfl, ?_⟩
    refine ite3 hM (fun hM => ?_) (fun hM => ?_)
    · skip
      refine ⟨_, rfl, ?_⟩
      apply rep_ixT 0 h_parts rfl rfl
      intro u5 h4
      obtain rfl := of_v h4
      refine ⟨_, rfl, ?_⟩
      refine ⟨_, _, rfl, rfl, ?_⟩
      obtain ⟨g6, hM⟩ := hM
      obtain ⟨c7, c7h, hM⟩ := hM
      refine ⟨_, _, _, rfl, rfl, g6, c7h, ?_⟩
      exact hQ (Str.mk #[c7]) _ _ hM hW.out rep_v
    · skip
      refine ⟨_, rfl, ?_⟩
      refine ⟨_, rfl, ?_⟩
      refine ⟨_, _, rfl, rfl, ?_⟩
      refine ⟨_, rfl, ?_⟩
      apply rep_ixT 2 h_parts rfl rfl
      intro u9 h8
      obtain rfl := of_v h8
      obtain ⟨g10, hM⟩ := hM
      refine ⟨_, rfl, g10, ?_⟩
      refine ⟨_, _, rfl, rfl, ?_⟩
      refine ⟨_, rfl, ?_⟩
      refine ite3 hM (fun hM => ?_) (fun hM => ?_)
      · skip
        refine ⟨_, rfl, ?_⟩
        apply rep_ixT 2 h_parts rfl rfl
        intro u12 h11
        obtain rfl := of_v h11
        refine ⟨_, rfl, ?_⟩
        refine ⟨_, rfl, ?_⟩
        refine ⟨_, _, rfl, rfl, ?_⟩
        refine ⟨_, _, rfl, rfl, ?_⟩
        obtain ⟨g13, hM⟩ := hM
        obtain ⟨c14, c14h, hM⟩ := hM
        refine ⟨_, _, _, rfl, rfl, g13, c14h, ?_⟩
        exact hQ (Str.mk #[c14]) _ _ hM hW.out rep_v
      · skip
        refine ⟨_, rfl, ?_⟩
        apply rep_ixT 1 h_parts rfl rfl
        intro u16 h15
        obtain rfl := of_v h15
        refine ⟨_, rfl, ?_⟩
        refine ⟨_, _, rfl, rfl, ?_⟩
        refine ⟨_, rfl, ?_⟩
        apply rep_ixT 0 h_parts rfl rfl
        intro u18 h17
        obtain rfl := of_v h17
        obtain ⟨g19, hM⟩ := hM
        refine ⟨_, rfl, g19, ?_⟩
        refine ⟨_, _, rfl, rfl, ?_⟩
        refine ⟨_, rfl, ?_⟩
        apply rep_ixT 1 h_parts rfl rfl
        intro u21 h20
        obtain rfl := of_v h20
        obtain ⟨g22, hM⟩ := hM
        refine ⟨_, rfl, g22, ?_⟩
        obtain ⟨g23, hM⟩ := hM
        refine ⟨_, _, rfl, rfl, g23, ?_⟩
        obtain ⟨g24, hM⟩ := hM
        obtain ⟨c25, c25h, hM⟩ := hM
        refine ⟨_, _, _, rfl, rfl, g24, c25h, ?_⟩
        exact hQ (Str.mk #[c25]) _ _ hM hW.out rep_v
def M_far_sign (x_sheet_here : (Int × (Str × Str × Str) × Str × Bool)) (x_ring : Int) (x_who : Int) (x_day_now : Int) (KM : Str → Prop) : Prop :=
  (CMulW x_sheet_here.1 x_day_now ∧ (0 < x_ring ∧ (if (decide (V.int x_who = V.int x_ring)) = true then (M_host x_sheet_here.2.2.1 x_day_now fun r21 => (KM r21)) else (if (decide (V.int ((x_who - (x_sheet_here.1 * x_day_now)) % x_ring) = V.int (0 : Int))) = true then (M_host x_sheet_here.2.2.1 x_day_now fun r26 => (M_contrary r26 fun r31 => (KM r31))) else (∃ KB36 : Int → Prop, (if (decide (x_ring < ((2 : Int) * ((x_who - (x_sheet_here.1 * x_day_now)) % x_ring)))) = true then (KB36 (x_ring - ((x_who - (x_sheet_here.1 * x_day_now)) % x_ring))) else (KB36 ((x_who - (x_sheet_here.1 * x_day_now)) % x_ring))) ∧ ∀ r39 : Int, KB36 r39 → (M_mark x_sheet_here.2.1 (x_ring / (2 : Int)) r39 fun r42 => (∃ KB47 : Str → Prop, (if x_sheet_here.2.2.2 = true then (if (!(decide (V.bl (decide (x_ring < ((2 : Int) * ((x_who - (x_sheet_here.1 * x_day_now)) % x_ring)))) = V.bl (decide (V.int (x_day_now % (2 : Int)) = V.int (1 : Int)))))) = true then (M_contrary r42 fun r50 => (KB47 r50)) else (KB47 r42)) else (if (!(decide (V.bl (decide (x_ring < ((2 : Int) * ((x_who - (x_sheet_here.1 * x_day_now)) % x_ring)))) = V.bl false))) = true then (M_contrary r42 fun r55 => (KB47 r55)) else (KB47 r42))) ∧ ∀ r60 : Str, KB47 r60 → (KM r60))))))))
def sp_far_sign (A : Ad) : Sp := fun vs H Q _ => ∃ (ms : List Addr) (v_sheet_here : V) (x_sheet_here : (Int × (Str × Str × Str) × Str × Bool)) (x_ring : Int) (x_who : Int) (x_day_now : Int) (KM : Str → Prop), vs = [v_sheet_here, V.int x_ring, V.int x_who, V.int x_day_now] ∧ Wd ms [] [] H H ∧ rep ms H (D.tup [(D.v (V.int x_sheet_here.1)), (D.tup [(D.v (V.str x_sheet_here.2.1.1)), (D.v (V.str x_sheet_here.2.1.2.1)), (D.v (V.str x_sheet_here.2.1.2.2))]), (D.v (V.str x_sheet_here.2.2.1)), (D.v (V.bl x_sheet_here.2.2.2))]) v_sheet_here ∧ M_far_sign x_sheet_here x_ring x_who x_day_now KM ∧ ∀ (r : Str) (u : V) (H1 : Hp), KM r → Ret [] H H1 → rep ms H1 (D.v (V.str r)) u → Q u H1
set_option maxHeartbeats 16000000 in
theorem ok_far_sign {P : Program} {w : World} {K : PySem.W.Frag} {mg : Str → Option Value} {base : Heap} {A : Ad} (T : Txt w K mg A) : FnOk P w K mg base CX0 2 A.a_far_sign A.d_far_sign ["_law_sheet_here", "_law_ring", "_law_who", "_law_day_now"] (sp_far_sign A) := by
  refine T.F_far_sign.ok sc_far_sign (fun vs H Q E h => ?_) (fun cdv A_ outer s_ H_0 vs Q E hr h => ?_)
  · obtain ⟨ms, v_sheet_here, x_sheet_here, x_ring, x_who, x_day_now, KM, rfl, _⟩ := h
    rfl
  · obtain ⟨ms, v_sheet_here, x_sheet_here, x_ring, x_who, x_day_now, KM, rfl, hW, h_sheet_here, hM, hQ⟩ := h
    unfold M_far_sign at hM
    refine ⟨_, (pss_cons (ps_asg (pv 0) (pg_tup rfl (pgs_cons (pg_name (i := 4) sc_far_sign.nd rfl (by first | exact Or.inl rfl | exact Or.inr rfl)) (pgs_cons (pg_name (i := 5) sc_far_sign.nd rfl (by first | exact Or.inl rfl | exact Or.inr rfl)) (pgs_cons (pg_name (i := 6) sc_far_sign.nd rfl (by first | exact Or.inl rfl | exact Or.inr rfl)) (pgs_cons (pg_name (i := 7) sc_far_sign.nd rfl (by first | exact Or.inl rfl | exact Or.inr rfl)) pgs_nil)))))) (pss_cons (ps_set (i := 8) sc_far_sign.nd rfl (by first | exact Or.inl rfl | exact Or.inr rfl) (pe_op op_mod (pe_op op_sub (pv 2) (pe_op op_mulW (pv 4) (pv 3))) (pv 1))) (pss_cons (ps_if (pt_cmpR op_eq (pv 2) (pv 1) (nomark _)) (pss_one (ps_ret (pe_call (ok_host T) (hr.mono (by decide)) (by rfl) T.g_host T.F_host.kp T.b_host .nil pass0 (pa_cons (pv 6) (pa_cons (pv 3) pa_nil))))) pss_nil) (pss_cons (ps_if (pt_cmpR op_eq (pv 8) pe_int (nomark _)) (pss_one (ps_ret (pe_call (ok_contrary T) (hr.mono (by decide)) (by rfl) T.g_contrary T.F_contrary.kp T.b_contrary .nil pass0 (pa_cons (pe_call (ok_host T) (hr.mono (by decide)) (by rfl) T.g_host T.F_host.kp T.b_host .nil pass0 (pa_cons (pv 6) (pa_cons (pv 3) pa_nil))) pa_nil)))) pss_nil) (pss_cons (ps_set (i := 9) sc_far_sign.nd rfl (by first | exact Or.inl rfl | exact Or.inr rfl) (pe_cmpR op_gt (pe_op op_mul pe_int (pv 8)) (pv 1) (nomark _))) (pss_cons (ps_set (i := 10) sc_far_sign.nd rfl (by first | exact Or.inl rfl | exact Or.inr rfl) (pe_call (ok_mark T) (hr.mono (by decide)) (by rfl) T.g_mark T.F_mark.kp T.b_mark .nil pass0 (pa_cons (pv 5) (pa_cons (pe_op op_fdivW (pv 1) pe_int) (pa_cons (pe_up (pe_ifExp (pt_val (pv 9)) (pe_op op_sub (pv 1) (pv 8)) (pv 8))) pa_nil))))) (pss_one (ps_ret (pe_up (pe_ifExp (pt_cmpR op_ne (pv 9) (pe_and (pv 7) (pe_one (pe_cmpR op_eq (pe_op op_mod (pv 3) pe_int) pe_int (nomark _)))) (nomark _)) (pe_call (ok_contrary T) (hr.mono (by decide)) (by rfl) T.g_contrary T.F_contrary.kp T.b_contrary .nil pass0 (pa_cons (pv 10) pa_nil)) (pv 10))))))))))), ?_⟩
    refine ⟨_, rfl, ?_⟩
    apply rep_gtup h_sheet_here rfl
    intro vs1 hv2
    obtain ⟨u3, us4, rfl, h5, hv6⟩ := repL_uncons hv2
    obtain rfl := of_v h5
    obtain ⟨u7, us8, rfl, h9, hv10⟩ := repL_uncons hv6
    obtain ⟨u11, us12, rfl, h13, hv14⟩ := repL_uncons hv10
    obtain rfl := of_v h13
    obtain ⟨u15, us16, rfl, h17, hv18⟩ := repL_uncons hv14
    obtain rfl := of_v h17
    obtain rfl := repL_empty hv18
    refine ⟨_, _, rfl, ?_⟩
    refine ⟨_, _, rfl, ?_⟩
    refine ⟨_, _, rfl, ?_⟩
    refine ⟨_, _, rfl, ?_⟩
    refine ⟨rfl, ?_⟩
    refine ⟨_, rfl, ?_⟩
    refine ⟨_, rfl, ?_⟩
    refine ⟨_, rfl, ?_⟩
    obtain ⟨g19, hM⟩ := hM
    refine ⟨_, _, rfl, rfl, g19, ?_⟩
    refine ⟨_, _, rfl, rfl, ?_⟩
    refine ⟨_, rfl, ?_⟩
    obtain ⟨g20, hM⟩ := hM
    refine ⟨_, _, rfl, rfl, g20, ?_⟩
    refine ⟨_, rfl, ?_⟩
    refine ⟨_, rfl, ?_⟩
    refine ⟨rfl, ?_⟩
    refine ⟨_, rfl, ?_⟩
    refine ite3 hM (fun hM => ?_) (fun hM => ?_)
    · skip
      refine ⟨_, rfl, ?_⟩
      refine ⟨_, rfl, ?_⟩
      refine ⟨ms, x_sheet_here.2.2.1, x_day_now, _, rfl, hW.enter0, hM, fun r21 u24 H25 hM e23 h22 => ?_⟩
      replace h_sheet_here := rep_ext e23 h_sheet_here
      replace h9 := rep_ext e23 h9
      replace hW := hW.ret0 e23
      obtain rfl := of_v h22
      exact hQ r21 _ _ hM hW.out rep_v
    · skip
      refine ⟨_, rfl, ?_⟩
      refine ⟨rfl, ?_⟩
      refine ⟨_, rfl, ?_⟩
      refine ite3 hM (fun hM => ?_) (fun hM => ?_)
      · skip
        refine ⟨_, rfl, ?_⟩
        refine ⟨_, rfl, ?_⟩
        refine ⟨ms, x_sheet_here.2.2.1, x_day_now, _, rfl, hW.enter0, hM, fun r26 u29 H30 hM e28 h27 => ?_⟩
        replace h_sheet_here := rep_ext e28 h_sheet_here
        replace h9 := rep_ext e28 h9
        replace hW := hW.ret0 e28
        obtain rfl := of_v h27
        refine ⟨ms, r26, _, rfl, hW.enter0, hM, fun r31 u34 H35 hM e33 h32 => ?_⟩
        replace h_sheet_here := rep_ext e33 h_sheet_here
        replace h9 := rep_ext e33 h9
        replace hW := hW.ret0 e33
        obtain rfl := of_v h32
        exact hQ r31 _ _ hM hW.out rep_v
      · skip
        refine ⟨_, rfl, ?_⟩
        refine ⟨_, _, rfl, rfl, .inl ⟨by decide, by decide⟩, ?_⟩
        refine ⟨_, rfl, ?_⟩
        refine ⟨_, _, rfl, rfl, ?_⟩
        refine ⟨_, rfl, ?_⟩
        refine ⟨_, rfl, ?_⟩
        refine ⟨_, _, rfl, rfl, ⟨by decide, by decide⟩, ?_⟩
        obtain ⟨KB36, hM, hKKB36⟩ := hM
        refine ⟨fun v H1 => ∃ r : Int, KB36 r ∧ Wd ms [] [] H_0 H1 ∧ Keep ms H_0 H1 ∧ rep ms H1 (D.v (V.int r)) v, ?_, ?_⟩
        · skip
          have hj38 := Keep.refl (ms := ms) (H := H_0)
          refine ⟨_, rfl, ?_⟩
          refine ⟨_, rfl, ?_⟩
          refine ite3 hM (fun hM => ?_) (fun hM => ?_)
          · skip
            refine ⟨_, rfl, ?_⟩
            refine ⟨_, rfl, ?_⟩
            refine ⟨_, _, rfl, rfl, ?_⟩
            exact ⟨(x_ring - ((x_who - (x_sheet_here.1 * x_day_now)) % x_ring)), hM, hW, hj38, rep_v⟩
          · skip
            refine ⟨_, rfl, ?_⟩
            exact ⟨((x_who - (x_sheet_here.1 * x_day_now)) % x_ring), hM, hW, hj38, rep_v⟩
        · skip
          rintro u41 Hj37 ⟨r39, hr, hW, hj38, h40⟩
          replace hM := hKKB36 r39 hr
          replace h_sheet_here := rep_keep hj38 h_sheet_here
          replace h9 := rep_keep hj38 h9
          obtain rfl := of_v h40
          refine ⟨ms, _, x_sheet_here.2.1, (x_ring / (2 : Int)), r39, _, rfl, hW.enter0, h9, hM, fun r42 u45 H46 hM e44 h43 => ?_⟩
          replace h_sheet_here := rep_ext e44 h_sheet_here
          replace h9 := rep_ext e44 h9
          replace hW := hW.ret0 e44
          obtain rfl := of_v h43
          obtain ⟨KB47, hM, hKKB47⟩ := hM
          refine ⟨fun v H1 => ∃ r : Str, KB47 r ∧ Wd ms [] [] H_0 H1 ∧ Keep ms H46 H1 ∧ rep ms H1 (D.v (V.str r)) v, ?_, ?_⟩
          · skip
            have hj49 := Keep.refl (ms := ms) (H := H46)
            refine ⟨_, rfl, ?_⟩
            refine ⟨_, rfl, ?_⟩
            refine ⟨_, rfl, ?_⟩
            refine ite3 hM (fun hM => ?_) (fun hM => ?_)
            · skip
              refine ⟨_, rfl, ?_⟩
              refine ⟨_, _, rfl, rfl, (by show (0 : Int) < (2 : Int); decide), ?_⟩
              refine ⟨rfl, ?_⟩
              refine ⟨rfl, ?_⟩
              refine ⟨_, rfl, ?_⟩
              refine ite3 hM (fun hM => ?_) (fun hM => ?_)
              · skip
                refine ⟨_, rfl, ?_⟩
                refine ⟨ms, r42, _, rfl, hW.enter0, hM, fun r50 u53 H54 hM e52 h51 => ?_⟩
                replace h_sheet_here := rep_ext e52 h_sheet_here
                replace h9 := rep_ext e52 h9
                replace hj49 := keep_ext e52 hj49
                replace hW := hW.ret0 e52
                obtain rfl := of_v h51
                exact ⟨r50, hM, hW, hj49, rep_v⟩
              · skip
                refine ⟨_, rfl, ?_⟩
                exact ⟨r42, hM, hW, hj49, rep_v⟩
            · skip
              refine ⟨rfl, ?_⟩
              refine ⟨_, rfl, ?_⟩
              refine ite3 hM (fun hM => ?_) (fun hM => ?_)
              · skip
                refine ⟨_, rfl, ?_⟩
                refine ⟨ms, r42, _, rfl, hW.enter0, hM, fun r55 u58 H59 hM e57 h56 => ?_⟩
                replace h_sheet_here := rep_ext e57 h_sheet_here
                replace h9 := rep_ext e57 h9
                replace hj49 := keep_ext e57 hj49
                replace hW := hW.ret0 e57
                obtain rfl := of_v h56
                exact ⟨r55, hM, hW, hj49, rep_v⟩
              · skip
                refine ⟨_, rfl, ?_⟩
                exact ⟨r42, hM, hW, hj49, rep_v⟩
          · skip
            rintro u62 Hj48 ⟨r60, hr, hW, hj49, h61⟩
            replace hM := hKKB47 r60 hr
            replace h_sheet_here := rep_keep hj49 h_sheet_here
            replace h9 := rep_keep hj49 h9
            obtain rfl := of_v h61
            exact hQ r60 _ _ hM hW.out rep_v
def M_homes (x_sheet_here : (Int × (Str × Str × Str) × Str × Bool)) (x_ring : Int) (x_legs_now : (List (Int × Int × Bool))) (x_days_here : (List Int)) (x_who : Int) (KM : Int → Prop) : Prop :=
  (x_days_here.length < 100000 ∧ mapC (fun (x17 : Int) (k10 : Str → Prop) => (M_far_sign x_sheet_here x_ring x_who x17 fun r23 => (k10 r23))) x_days_here [] fun ys33 => (ys33.length < 100000 ∧ filC (fun (x52 : Str) (k45 : Option Str → Prop) => (if (decide (V.str x52 = V.str ("h" : Str))) = true then (k45 (some x52)) else (k45 none))) ys33 [] fun ys63 => (x_legs_now.length < 100000 ∧ mapC (fun (x82 : (Int × Int × Bool)) (k75 : Int → Prop) => (∃ KB88 : Int → Prop, (if x82.2.2 = true then (KB88 ((ys33.length : Int) - (ys63.length : Int))) else (KB88 (ys63.length : Int))) ∧ ∀ r93 : Int, KB88 r93 → (k75 r93))) x_legs_now [] fun ys102 => (KM (List.sum ys102)))))
def sp_homes (A : Ad) : Sp := fun vs H Q _ => ∃ (ms : List Addr) (v_sheet_here : V) (v_legs_now : V) (v_days_here : V) (x_sheet_here : (Int × (Str × Str × Str) × Str × Bool)) (x_ring : Int) (x_legs_now : (List (Int × Int × Bool))) (x_days_here : (List Int)) (x_who : Int) (KM : Int → Prop), vs = [v_sheet_here, V.int x_ring, v_legs_now, v_days_here, V.int x_who] ∧ Wd ms [] [] H H ∧ rep ms H (D.tup [(D.v (V.int x_sheet_here.1)), (D.tup [(D.v (V.str x_sheet_here.2.1.1)), (D.v (V.str x_sheet_here.2.1.2.1)), (D.v (V.str x_sheet_here.2.1.2.2))]), (D.v (V.str x_sheet_here.2.2.1)), (D.v (V.bl x_sheet_here.2.2.2))]) v_sheet_here ∧ rep ms H (D.lst (x_legs_now.map (fun y_ : (Int × Int × Bool) => (D.tup [(D.v (V.int y_.1)), (D.v (V.int y_.2.1)), (D.v (V.bl y_.2.2))])))) v_legs_now ∧ rep ms H (D.lst (x_days_here.map (fun y_ : Int => (D.v (V.int y_))))) v_days_here ∧ M_homes x_sheet_here x_ring x_legs_now x_days_here x_who KM ∧ ∀ (r : Int) (u : V) (H1 : Hp), KM r → Ret [] H H1 → rep ms H1 (D.v (V.int r)) u → Q u H1
set_option maxHeartbeats 16000000 in
theorem ok_homes {P : Program} {w : World} {K : PySem.W.Frag} {mg : Str → Option Value} {base : Heap} {A : Ad} (T : Txt w K mg A) : FnOk P w K mg base CX0 3 A.a_homes A.d_homes ["_law_sheet_here", "_law_ring", "_law_legs_now", "_law_days_here", "_law_who"] (sp_homes A) := by
  refine T.F_homes.ok sc_homes (fun vs H Q E h => ?_) (fun cdv A_ outer s_ H_0 vs Q E hr h => ?_)
  · obtain ⟨ms, v_sheet_here, v_legs_now, v_days_here, x_sheet_here, x_ring, x_legs_now, x_days_here, x_who, KM, rfl, _⟩ := h
    rfl
  · obtain ⟨ms, v_sheet_here, v_legs_now, v_days_here, x_sheet_here, x_ring, x_legs_now, x_days_here, x_who, KM, rfl, hW, h_sheet_here, h_legs_now, h_days_here, hM, hQ⟩ := h
    unfold M_homes at hM
    refine ⟨_, (pss_cons (ps_set (i := 5) sc_homes.nd rfl (by first | exact Or.inl rfl | exact Or.inr rfl) (pe_lc (own := [("_law_day_now", 7)]) (g := gName 7) rfl sc_homes.nd (pi_list (pv 3)) (blkOk_by (N := ["_law_sheet_here", "_law_ring", "_law_legs_now", "_law_days_here", "_law_who", "_law_signs", "_law_many", "_law_day_now", "_law_sign_here", "_law_leg"]) (sc := defScope s_homes) (by decide +kernel)) (fun _ _ _ _ _ => pg_name (i := 7) sc_homes.nd rfl (by first | exact Or.inl rfl | exact Or.inr rfl)) (fun _ _ _ _ _ => pts_nil) (fun _ _ _ _ _ => (pe_call (ok_far_sign T) (hr.mono (by decide)) (by rfl) T.g_far_sign T.F_far_sign.kp T.b_far_sign .nil pass0 (pa_cons (pv 0) (pa_cons (pv 1) (pa_cons (pv 4) (pa_cons (pv 7) pa_nil)))))))) (pss_cons (ps_set (i := 6) sc_homes.nd rfl (by first | exact Or.inl rfl | exact Or.inr rfl) (pe_callB (call_lenK (K := K) rfl) (by rfl) T.z_len PySem.boot_len (pa_cons (pe_lc (own := [("_law_sign_here", 8)]) (g := gName 8) rfl sc_homes.nd (pi_list (pv 5)) (blkOk_by (N := ["_law_sheet_here", "_law_ring", "_law_legs_now", "_law_days_here", "_law_who", "_law_signs", "_law_many", "_law_day_now", "_law_sign_here", "_law_leg"]) (sc := defScope s_homes) (by decide +kernel)) (fun _ _ _ _ _ => pg_name (i := 8) sc_homes.nd rfl (by first | exact Or.inl rfl | exact Or.inr rfl)) (fun _ _ _ _ _ => (pts_one (pt_cmpR op_eq (pv 8) pe_str (nomark _)))) (fun _ _ _ _ _ => (pv 8))) pa_nil))) (pss_one (ps_ret (pe_callB (cr_sumK (K := K) rfl rfl) (by rfl) T.z_sum (by decide +kernel) (pa_cons (pe_lc (own := [("_law_leg", 9)]) (g := gName 9) rfl sc_homes.nd (pi_list (pv 2)) (blkOk_by (N := ["_law_sheet_here", "_law_ring", "_law_legs_now", "_law_days_here", "_law_who", "_law_signs", "_law_many", "_law_day_now", "_law_sign_here", "_law_leg"]) (sc := defScope s_homes) (by decide +kernel)) (fun _ _ _ _ _ => pg_name (i := 9) sc_homes.nd rfl (by first | exact Or.inl rfl | exact Or.inr rfl)) (fun _ _ _ _ _ => pts_nil) (fun _ _ _ _ _ => (pe_up (pe_ifExp (pt_val (pe_ix (ix_tupK (K := K) rfl) (pv 9) pe_int (fun _ _ => rfl))) (pe_op op_sub (pe_callB (call_lenK (K := K) rfl) (by rfl) T.z_len PySem.boot_len (pa_cons (pv 5) pa_nil)) (pv 6)) (pv 6))))) pa_nil)))))), ?_⟩
    refine ⟨_, rfl, ?_⟩
    apply rep_iter h_days_here
    intro a1 xs2 _ an3 hp4 hl5
    refine fun L6 nl7 => ?_
    have nm21 := nm_new hW nl7
    refine lc_listG (L := L6) (fun n_ ys_ h_ => Wd (L6 :: ms) [] [] H_0 h_ ∧ Keep (L6 :: ms) H_0 h_ ∧ MutO (L6 :: ms) [] H_0 h_ L6 (D.lst (ys_.map (fun y_ : Str => (D.v (V.str y_))))) ∧ ys_.length ≤ n_) (items := x_days_here) (e := (fun y_ : Int => (D.v (V.int y_)))) an3 hp4 hl5 nl7 (fun _ _ _ q_ => q_.2.1) hM ⟨wd_cell hW nl7, keep_cell nl7 Keep.refl, mo_newL (ds := []) hW nl7 repL_nil, Nat.le_refl _⟩ ?_ ?_
    · skip
      rintro x17 u18 n8 ys9 k10 H22 hn ⟨hW, hk11, mu12, ln13⟩ h19 hM Nx16 hN14
      replace h_sheet_here := rep_keep hk11 (rep_new nl7 h_sheet_here)
      replace h_legs_now := rep_keep hk11 (rep_new nl7 h_legs_now)
      replace h_days_here := rep_keep hk11 (rep_new nl7 h_days_here)
      obtain rfl := of_v h19
      refine ⟨rfl, ?_⟩
      refine tyes_of ?_
      refine ⟨_, rfl, ?_⟩
      refine ⟨_, rfl, ?_⟩
      refine ⟨_, rfl, ?_⟩
      refine ⟨_, rfl, ?_⟩
      refine ⟨(L6 :: ms), _, x_sheet_here, x_ring, x_who, x17, _, rfl, hW.enter0, h_sheet_here, hM, fun r23 u26 H27 hM e25 h24 => ?_⟩
      replace h_sheet_here := rep_ext e25 h_sheet_here
      replace h_legs_now := rep_ext e25 h_legs_now
      replace h_days_here := rep_ext e25 h_days_here
      replace hk11 := keep_ext e25 hk11
      replace mu12 := mo_ext e25 mu12
      replace hW := hW.ret0 e25
      obtain rfl := of_v h24
      refine mo_end mu12 hn (by rw [List.length_map]; exact ln13) fun vs28 hr29 => ?_
      have mk31 := mo_setL mu12 (repL_snoc (e := (fun y_ : Str => (D.v (V.str y_)))) (xs := ys9) (y := r23) hr29 rep_v)
      replace h_sheet_here := rep_put (o := .lst (vs28 ++ [V.str r23])) mu12.im h_sheet_here
      replace h_legs_now := rep_put (o := .lst (vs28 ++ [V.str r23])) mu12.im h_legs_now
      replace h_days_here := rep_put (o := .lst (vs28 ++ [V.str r23])) mu12.im h_days_here
      replace hk11 := keep_put (o := .lst (vs28 ++ [V.str r23])) mu12.im hk11
      replace hW := wd_put (o := .lst (vs28 ++ [V.str r23])) hW mu12
      replace mu12 := mk31
      generalize upd H27 L6 (.lst (vs28 ++ [V.str r23])) = H32 at *
      replace mu12 : MutO (L6 :: ms) [] H_0 H32 L6 (D.lst ((ys9 ++ [r23]).map (fun y_ : Str => (D.v (V.str y_))))) := mu12
      clear mk31
      exact hN14 r23 _ hM ⟨hW, hk11, mu12, by rw [List.length_append]; exact Nat.add_le_add_right ln13 1⟩
    · skip
      rintro n8 ys33 H34 hM ⟨hW, hk11, mu12, ln13⟩
      replace h_sheet_here := rep_keep hk11 (rep_new nl7 h_sheet_here)
      replace h_legs_now := rep_keep hk11 (rep_new nl7 h_legs_now)
      replace h_days_here := rep_keep hk11 (rep_new nl7 h_days_here)
      clear hk11 ln13
      have h35 := mo_rep_dr dr_here nm21 mu12
      replace hW := wd_dr dr_here mu12.hp hW
      replace h_sheet_here := rep_dr dr_here h_sheet_here
      replace h_legs_now := rep_dr dr_here h_legs_now
      replace h_days_here := rep_dr dr_here h_days_here
      clear mu12
      refine ⟨_, rfl, ?_⟩
      apply rep_iter h35
      intro a36 xs37 _ an38 hp39 hl40
      refine fun L41 nl42 => ?_
      have nm56 := nm_new hW nl42
      refine lf_listG (L := L41) (fun n_ ys_ h_ => Wd (L41 :: ms) [] [] H_0 h_ ∧ Keep (L41 :: ms) H34 h_ ∧ MutO (L41 :: ms) [] H_0 h_ L41 (D.lst (ys_.map (fun y_ : Str => (D.v (V.str y_))))) ∧ ys_.length ≤ n_) (items := ys33) (e := (fun y_ : Str => (D.v (V.str y_)))) an38 hp39 hl40 nl42 (fun _ _ _ q_ => q_.2.1) hM ⟨wd_cell hW nl42, keep_cell nl42 Keep.refl, mo_newL (ds := []) hW nl42 repL_nil, Nat.le_refl _⟩ ?_ ?_
      · skip
        rintro x52 u53 n43 ys44 k45 H57 hn ⟨hW, hk46, mu47, ln48⟩ h54 hM Nx51 hN49 hNn50
        replace h_sheet_here := rep_keep hk46 (rep_new nl42 h_sheet_here)
        replace h_legs_now := rep_keep hk46 (rep_new nl42 h_legs_now)
        replace h_days_here := rep_keep hk46 (rep_new nl42 h_days_here)
        replace h35 := rep_keep hk46 (rep_new nl42 h35)
        obtain rfl := of_v h54
        refine ⟨rfl, ?_⟩
        refine ⟨_, rfl, ?_⟩
        refine ⟨rfl, ?_⟩
        refine ⟨_, rfl, ?_⟩
        refine ite3 hM (fun hM => ?_) (fun hM => ?_)
        · skip
          refine ⟨_, rfl, ?_⟩
          refine mo_end mu47 hn (by rw [List.length_map]; exact ln48) fun vs58 hr59 => ?_
          have mk61 := mo_setL mu47 (repL_snoc (e := (fun y_ : Str => (D.v (V.str y_)))) (xs := ys44) (y := x52) hr59 rep_v)
          replace h_sheet_here := rep_put (o := .lst (vs58 ++ [V.str x52])) mu47.im h_sheet_here
          replace h_legs_now := rep_put (o := .lst (vs58 ++ [V.str x52])) mu47.im h_legs_now
          replace h_days_here := rep_put (o := .lst (vs58 ++ [V.str x52])) mu47.im h_days_here
          replace h35 := rep_put (o := .lst (vs58 ++ [V.str x52])) mu47.im h35
          replace hk46 := keep_put (o := .lst (vs58 ++ [V.str x52])) mu47.im hk46
          replace hW := wd_put (o := .lst (vs58 ++ [V.str x52])) hW mu47
          replace mu47 := mk61
          generalize upd H57 L41 (.lst (vs58 ++ [V.str x52])) = H62 at *
          replace mu47 : MutO (L41 :: ms) [] H_0 H62 L41 (D.lst ((ys44 ++ [x52]).map (fun y_ : Str => (D.v (V.str y_))))) := mu47
          clear mk61
          exact hN49 x52 _ hM ⟨hW, hk46, mu47, by rw [List.length_append]; exact Nat.add_le_add_right ln48 1⟩
        · skip
          exact hNn50 _ hM ⟨hW, hk46, mu47, Nat.le_succ_of_le ln48⟩
      · skip
        rintro n43 ys63 H64 hM ⟨hW, hk46, mu47, ln48⟩
        replace h_sheet_here := rep_keep hk46 (rep_new nl42 h_sheet_here)
        replace h_legs_now := rep_keep hk46 (rep_new nl42 h_legs_now)
        replace h_days_here := rep_keep hk46 (rep_new nl42 h_days_here)
        replace h35 := rep_keep hk46 (rep_new nl42 h35)
        clear hk46 ln48
        have h65 := mo_rep_dr dr_here nm56 mu47
        replace hW := wd_dr dr_here mu47.hp hW
        replace h_sheet_here := rep_dr dr_here h_sheet_here
        replace h_legs_now := rep_dr dr_here h_legs_now
        replace h_days_here := rep_dr dr_here h_days_here
        replace h35 := rep_dr dr_here h35
        clear mu47
        apply rep_lenL (e := (fun y_ : Str => (D.v (V.str y_)))) (xs := ys63) h65
        refine ⟨_, rfl, ?_⟩
        apply rep_iter h_legs_now
        intro a66 xs67 _ an68 hp69 hl70
        refine fun L71 nl72 => ?_
        have nm86 := nm_new hW nl72
        refine lc_listG (L := L71) (fun n_ ys_ h_ => Wd (L71 :: ms) [] [] H_0 h_ ∧ Keep (L71 :: ms) H64 h_ ∧ MutO (L71 :: ms) [] H_0 h_ L71 (D.lst (ys_.map (fun y_ : Int => (D.v (V.int y_))))) ∧ ys_.length ≤ n_) (items := x_legs_now) (e := (fun y_ : (Int × Int × Bool) => (D.tup [(D.v (V.int y_.1)), (D.v (V.int y_.2.1)), (D.v (V.bl y_.2.2))]))) an68 hp69 hl70 nl72 (fun _ _ _ q_ => q_.2.1) hM ⟨wd_cell hW nl72, keep_cell nl72 Keep.refl, mo_newL (ds := []) hW nl72 repL_nil, Nat.le_refl _⟩ ?_ ?_
        · skip
          rintro x82 u83 n73 ys74 k75 H87 hn ⟨hW, hk76, mu77, ln78⟩ h84 hM Nx81 hN79
          replace h_sheet_here := rep_keep hk76 (rep_new nl72 h_sheet_here)
          replace h_legs_now := rep_keep hk76 (rep_new nl72 h_legs_now)
          replace h_days_here := rep_keep hk76 (rep_new nl72 h_days_here)
          replace h35 := rep_keep hk76 (rep_new nl72 h35)
          replace h65 := rep_keep hk76 (rep_new nl72 h65)
          refine ⟨rfl, ?_⟩
          refine tyes_of ?_
          obtain ⟨KB88, hM, hKKB88⟩ := hM
          refine ⟨fun v H1 => ∃ r : Int, KB88 r ∧ Wd (L71 :: ms) [] [] H_0 H1 ∧ Keep (L71 :: ms) H87 H1 ∧ rep (L71 :: ms) H1 (D.v (V.int r)) v ∧ MutO (L71 :: ms) [] H_0 H1 L71 (D.lst (ys74.map (fun y_ : Int => (D.v (V.int y_))))), ?_, ?_⟩
          · skip
            have hj90 := Keep.refl (ms := (L71 :: ms)) (H := H87)
            refine ⟨_, rfl, ?_⟩
            apply rep_ixT 2 h84 rfl rfl
            intro u92 h91
            obtain rfl := of_v h91
            refine ⟨_, rfl, ?_⟩
            refine ite3 hM (fun hM => ?_) (fun hM => ?_)
            · skip
              refine ⟨_, rfl, ?_⟩
              apply rep_lenL (e := (fun y_ : Str => (D.v (V.str y_)))) (xs := ys33) h35
              refine ⟨_, rfl, ?_⟩
              refine ⟨_, _, rfl, rfl, ?_⟩
              exact ⟨((ys33.length : Int) - (ys63.length : Int)), hM, hW, hj90, rep_v, mu77⟩
            · skip
              refine ⟨_, rfl, ?_⟩
              exact ⟨(ys63.length : Int), hM, hW, hj90, rep_v, mu77⟩
          · skip
            clear mu77
            rintro u95 Hj89 ⟨r93, hr, hW, hj90, h94, mu96⟩
            replace hM := hKKB88 r93 hr
            replace h_sheet_here := rep_keep hj90 h_sheet_here
            replace h_legs_now := rep_keep hj90 h_legs_now
            replace h_days_here := rep_keep hj90 h_days_here
            replace h35 := rep_keep hj90 h35
            replace h65 := rep_keep hj90 h65
            replace hk76 := Keep.trans hk76 hj90
            replace h84 := rep_keep hj90 h84
            obtain rfl := of_v h94
            refine mo_end mu96 hn (by rw [List.length_map]; exact ln78) fun vs97 hr98 => ?_
            have mk100 := mo_setL mu96 (repL_snoc (e := (fun y_ : Int => (D.v (V.int y_)))) (xs := ys74) (y := r93) hr98 rep_v)
            replace h_sheet_here := rep_put (o := .lst (vs97 ++ [V.int r93])) mu96.im h_sheet_here
            replace h_legs_now := rep_put (o := .lst (vs97 ++ [V.int r93])) mu96.im h_legs_now
            replace h_days_here := rep_put (o := .lst (vs97 ++ [V.int r93])) mu96.im h_days_here
            replace h35 := rep_put (o := .lst (vs97 ++ [V.int r93])) mu96.im h35
            replace h65 := rep_put (o := .lst (vs97 ++ [V.int r93])) mu96.im h65
            replace hk76 := keep_put (o := .lst (vs97 ++ [V.int r93])) mu96.im hk76
            replace h84 := rep_put (o := .lst (vs97 ++ [V.int r93])) mu96.im h84
            replace hW := wd_put (o := .lst (vs97 ++ [V.int r93])) hW mu96
            replace mu96 := mk100
            generalize upd Hj89 L71 (.lst (vs97 ++ [V.int r93])) = H101 at *
            replace mu96 : MutO (L71 :: ms) [] H_0 H101 L71 (D.lst ((ys74 ++ [r93]).map (fun y_ : Int => (D.v (V.int y_))))) := mu96
            clear mk100
            exact hN79 r93 _ hM ⟨hW, hk76, mu96, by rw [List.length_append]; exact Nat.add_le_add_right ln78 1⟩
        · skip
          rintro n73 ys102 H103 hM ⟨hW, hk76, mu77, ln78⟩
          replace h_sheet_here := rep_keep hk76 (rep_new nl72 h_sheet_here)
          replace h_legs_now := rep_keep hk76 (rep_new nl72 h_legs_now)
          replace h_days_here := rep_keep hk76 (rep_new nl72 h_days_here)
          replace h35 := rep_keep hk76 (rep_new nl72 h35)
          replace h65 := rep_keep hk76 (rep_new nl72 h65)
          clear hk76 ln78
          have h104 := mo_rep_dr dr_here nm86 mu77
          replace hW := wd_dr dr_here mu77.hp hW
          replace h_sheet_here := rep_dr dr_here h_sheet_here
          replace h_legs_now := rep_dr dr_here h_legs_now
          replace h_days_here := rep_dr dr_here h_days_here
          replace h35 := rep_dr dr_here h35
          replace h65 := rep_dr dr_here h65
          clear mu77
          apply rep_sumL h104
          exact hQ (List.sum ys102) _ _ hM hW.out rep_v
def M_is_list_vtiib (x_value : (List (Int × Int × Bool))) (KM : Bool → Prop) : Prop :=
  (KM true)
def sp_is_list_vtiib (A : Ad) : Sp := fun vs H Q _ => ∃ (ms : List Addr) (v_value : V) (x_value : (List (Int × Int × Bool))) (KM : Bool → Prop), vs = [v_value] ∧ Wd ms [] [] H H ∧ rep ms H (D.tup (x_value.map (fun y_ : (Int × Int × Bool) => (D.tup [(D.v (V.int y_.1)), (D.v (V.int y_.2.1)), (D.v (V.bl y_.2.2))])))) v_value ∧ M_is_list_vtiib x_value KM ∧ ∀ (r : Bool) (u : V) (H1 : Hp), KM r → Ret [] H H1 → rep ms H1 (D.v (V.bl r)) u → Q u H1
set_option maxHeartbeats 16000000 in
theorem ok_is_list_vtiib {P : Program} {w : World} {K : PySem.W.Frag} {mg : Str → Option Value} {base : Heap} {A : Ad} (T : Txt w K mg A) : FnOk P w K mg base CX0 1 A.a_is_list A.d_is_list ["value"] (sp_is_list_vtiib A) := by
  refine T.F_is_list.ok sc_is_list (fun vs H Q E h => ?_) (fun cdv A_ outer s_ H_0 vs Q E hr h => ?_)
  · obtain ⟨ms, v_value, x_value, KM, rfl, _⟩ := h
    rfl
  · obtain ⟨ms, v_value, x_value, KM, rfl, hW, h_value, hM, hQ⟩ := h
    unfold M_is_list_vtiib at hM
    refine ⟨_, (pss_one (ps_ret (pe_callB (call_isiTK (K := K) rfl) (by rfl) T.z_isinstance (by decide +kernel) (pa_cons (pv 0) (pa_cons (pe_tup (pa_cons (pe_bltn (v := .ty "list") (by rfl) T.z_list (by decide +kernel) rfl) (pa_cons (pe_bltn (v := .ty "tuple") (by rfl) T.z_tuple (by decide +kernel) rfl) pa_nil))) pa_nil))))), ?_⟩
    refine ⟨_, rfl, ?_⟩
    refine ⟨(by show 2 ≤ sizeLine; decide), ?_⟩
    intro p1 n2
    have e3 := Rx.Ext.new (H := H_0) (o := (HO.tup [V.ty "list", V.ty "tuple"])) n2
    have hp4 : upd H_0 p1 (HO.tup [V.ty "list", V.ty "tuple"]) p1 = some (HO.tup [V.ty "list", V.ty "tuple"]) := upd_same
    generalize upd H_0 p1 (HO.tup [V.ty "list", V.ty "tuple"]) = H5 at e3 hp4 ⊢
    replace h_value := rep_ext e3 h_value
    replace hW := hW.ret0 e3
    apply rep_isi2 (d := (D.tup (x_value.map (fun y_ : (Int × Int × Bool) => (D.tup [(D.v (V.int y_.1)), (D.v (V.int y_.2.1)), (D.v (V.bl y_.2.2))]))))) (a := "tuple") (b := "list") (c := "tuple") (r1 := false) (r2 := true) h_value (by rfl) (by rfl) hp4 (by decide +kernel) (by decide +kernel)
    skip
    exact hQ true _ _ hM hW.out rep_v
def M_check_legs_vtiib (x_legs : (List (Int × Int × Bool))) (KM : Unit → Prop) : Prop :=
  (M_is_list_vtiib x_legs fun r1 => (if (!r1) = true then False else (if (decide (V.int (x_legs.length : Int) = V.int (0 : Int))) = true then False else (forC (fun (x11 : (Int × (Int × Int × Bool))) (s13 : Unit) (k14 : Unit → Prop) => (M_is_leg x11.2 fun r34 => (if (!r34) = true then False else (k14 ())))) ((rangeI 0 (x_legs.length : Int)).zip x_legs) () fun s39 => (if (decide ((4 : Int) < (x_legs.length : Int))) = true then False else (KM ()))))))
def sp_check_legs_vtiib (A : Ad) : Sp := fun vs H Q _ => ∃ (ms : List Addr) (v_legs : V) (x_legs : (List (Int × Int × Bool))) (KM : Unit → Prop), vs = [v_legs] ∧ Wd ms [] [] H H ∧ rep ms H (D.tup (x_legs.map (fun y_ : (Int × Int × Bool) => (D.tup [(D.v (V.int y_.1)), (D.v (V.int y_.2.1)), (D.v (V.bl y_.2.2))])))) v_legs ∧ M_check_legs_vtiib x_legs KM ∧ ∀ (r : Unit) (u : V) (H1 : Hp), KM r → Ret [] H H1 → rep ms H1 (D.v V.non) u → Q u H1
set_option maxHeartbeats 16000000 in
theorem ok_check_legs_vtiib {P : Program} {w : World} {K : PySem.W.Frag} {mg : Str → Option Value} {base : Heap} {A : Ad} (T : Txt w K mg A) : FnOk P w K mg base CX0 4 A.a_check_legs A.d_check_legs ["legs"] (sp_check_legs_vtiib A) := by
  refine T.F_check_legs.ok sc_check_legs (fun vs H Q E h => ?_) (fun cdv A_ outer s_ H_0 vs Q E hr h => ?_)
  · obtain ⟨ms, v_legs, x_legs, KM, rfl, _⟩ := h
    rfl
  · obtain ⟨ms, v_legs, x_legs, KM, rfl, hW, h_legs, hM, hQ⟩ := h
    unfold M_check_legs_vtiib at hM
    refine ⟨_, (pss_cons (ps_if (PW.pt (pw_or (pt_not (pt_val (pe_call (ok_is_list_vtiib T) (hr.mono (by decide)) (by rfl) T.g_is_list T.F_is_list.kp T.b_is_list .nil pass0 (pa_cons (pv 0) pa_nil)))) (pw_or1 (pt_cmpR op_eq (pe_callB (call_lenK (K := K) rfl) (by rfl) T.z_len PySem.boot_len (pa_cons (pv 0) pa_nil)) pe_int (nomark _))))) (pss_one ps_never) pss_nil) (pss_cons (ps_for PassesOwn.never rfl (pi_enumT (K := K) rfl (by rfl) T.z_enumerate (pa_cons (pv 0) pa_nil)) (pg_tup rfl (pgs_cons (pg_name (i := 1) sc_check_legs.nd rfl (by first | exact Or.inl rfl | exact Or.inr rfl)) (pgs_cons (pg_name (i := 2) sc_check_legs.nd rfl (by first | exact Or.inl rfl | exact Or.inr rfl)) pgs_nil))) (pss_one (ps_if (pt_not (pt_val (pe_call (ok_is_leg T) (hr.mono (by decide)) (by rfl) T.g_is_leg T.F_is_leg.kp T.b_is_leg .nil pass0 (pa_cons (pv 2) pa_nil)))) (pss_one ps_never) pss_nil))) (pss_one (ps_if (pt_cmpR op_gt (pe_callB (call_lenK (K := K) rfl) (by rfl) T.z_len PySem.boot_len (pa_cons (pv 0) pa_nil)) (C8.pe_gc (by rfl) T.c_MOST_LEGS) (nomark _)) (pss_one ps_never) pss_nil)))), ?_⟩
    refine ⟨_, rfl, ?_⟩
    refine ⟨ms, _, x_legs, _, rfl, hW.enter0, h_legs, hM, fun r1 u4 H5 hM e3 h2 => ?_⟩
    replace h_legs := rep_ext e3 h_legs
    replace hW := hW.ret0 e3
    obtain rfl := of_v h2
    refine ⟨_, rfl, ?_⟩
    refine ite3 hM (fun hM => ?_) (fun hM => ?_)
    · skip
      refine iteT ?_
      exact hM
    · skip
      refine ⟨_, rfl, ?_⟩
      apply rep_lenT (n := x_legs.length) h_legs (by rw [List.length_map])
      refine ⟨rfl, ?_⟩
      refine ⟨_, rfl, ?_⟩
      refine ite3 hM (fun hM => ?_) (fun hM => ?_)
      · skip
        exact hM
      · skip
        refine ⟨_, rfl, ?_⟩
        apply rep_iterET h_legs
        intro a6 xs7 _ an8 hp9 hl10
        refine for_enumGT (S := Unit) (items := x_legs) (e := (fun y_ : (Int × Int × Bool) => (D.tup [(D.v (V.int y_.1)), (D.v (V.int y_.2.1)), (D.v (V.bl y_.2.2))]))) (ms := ms) (fun (s : Unit) σ_ h_ => ∃ (w_0 : Option V), ∃ (w_1 : Option V), σ_ = [some v_legs, w_0, w_1] ∧ Wd ms [] [] H_0 h_ ∧ Keep ms H5 h_) () an8 hp9 hl10 (fun _ _ _ z_ => by obtain ⟨_, _, _, _, q_⟩ := z_; exact q_) (fun _ _ _ z_ => by obtain ⟨_, _, _, w_, _⟩ := z_; exact w_.tr) hM ⟨_, _, rfl, hW, Keep.refl⟩ ?_ ?_
        · skip
          rintro x11 u12 s13 k14 _ H23 H22 ⟨w19, w20, rfl, hW, hk15⟩ ex21 h16 hM Nx17 hN18
          replace h_legs := rep_keep hk15 h_legs
          replace h_legs := rep_ext ex21 h_legs
          replace hk15 := keep_ext ex21 hk15
          replace hW := hW.ret0 ex21
          apply rep_gtup h16 rfl
          intro vs24 hv25
          obtain ⟨u26, us27, rfl, h28, hv29⟩ := repL_uncons hv25
          obtain rfl := of_v h28
          obtain ⟨u30, us31, rfl, h32, hv33⟩ := repL_uncons hv29
          obtain rfl := repL_empty hv33
          refine ⟨_, _, rfl, ?_⟩
          refine ⟨_, _, rfl, ?_⟩
          refine ⟨rfl, ?_⟩
          refine ⟨_, rfl, ?_⟩
          refine ⟨ms, _, x11.2, _, rfl, hW.enter0, h32, hM, fun r34 u37 H38 hM e36 h35 => ?_⟩
          replace h_legs := rep_ext e36 h_legs
          replace hk15 := keep_ext e36 hk15
          replace h16 := rep_ext e36 h16
          replace h32 := rep_ext e36 h32
          replace hW := hW.ret0 e36
          obtain rfl := of_v h35
          refine ⟨_, rfl, ?_⟩
          refine ite3 hM (fun hM => ?_) (fun hM => ?_)
          · skip
            exact hM
          · skip
            exact hN18 () _ _ hM ⟨_, _, rfl, hW, hk15⟩
        · skip
          rintro s39 _ H43 hM ⟨w41, w42, rfl, hW, hk40⟩
          replace h_legs := rep_keep hk40 h_legs
          refine ⟨_, rfl, ?_⟩
          apply rep_lenT (n := x_legs.length) h_legs (by rw [List.length_map])
          refine ⟨_, _, rfl, rfl, ?_⟩
          refine ⟨_, rfl, ?_⟩
          refine ite3 hM (fun hM => ?_) (fun hM => ?_)
          · skip
            exact hM
          · skip
            exact hQ () _ _ hM hW.out rep_v
def M_pair_homes_oRuleivtiibii (x_rule : (Int × (Str × Str × Str) × Str × Bool)) (x_size : Int) (x_legs : (List (Int × Int × Bool))) (x_one : Int) (x_other : Int) (KM : Int → Prop) : Prop :=
  (M_check_size x_rule x_size fun r1 => (M_check_legs_vtiib x_legs fun r6 => (M_rounds_of x_rule x_size x_one x_other fun r11 => (r11.length < 100000 ∧ mapC (fun (x32 : Int) (k25 : Str → Prop) => (M_mark_of x_rule x_size x_one x32 fun r38 => (k25 r38))) r11 [] fun ys48 => (x_legs.length < 100000 ∧ mapC (fun (x67 : (Int × Int × Bool)) (k60 : Int → Prop) => (∃ KB73 : Str → Prop, (if x67.2.2 = true then (KB73 ("a" : Str)) else (KB73 ("h" : Str))) ∧ ∀ r78 : Str, KB73 r78 → (k60 ((List.count r78 ys48 : Nat) : Int)))) x_legs [] fun ys87 => (KM (List.sum ys87)))))))
def sp_pair_homes_oRuleivtiibii (A : Ad) : Sp := fun vs H Q _ => ∃ (ms : List Addr) (v_rule : V) (v_legs : V) (x_rule : (Int × (Str × Str × Str) × Str × Bool)) (x_size : Int) (x_legs : (List (Int × Int × Bool))) (x_one : Int) (x_other : Int) (KM : Int → Prop), vs = [v_rule, V.int x_size, v_legs, V.int x_one, V.int x_other] ∧ Wd ms [] [] H H ∧ rep ms H (eRule A x_rule) v_rule ∧ rep ms H (D.tup (x_legs.map (fun y_ : (Int × Int × Bool) => (D.tup [(D.v (V.int y_.1)), (D.v (V.int y_.2.1)), (D.v (V.bl y_.2.2))])))) v_legs ∧ M_pair_homes_oRuleivtiibii x_rule x_size x_legs x_one x_other KM ∧ ∀ (r : Int) (u : V) (H1 : Hp), KM r → Ret [] H H1 → rep ms H1 (D.v (V.int r)) u → Q u H1
set_option maxHeartbeats 16000000 in
theorem ok_pair_homes_oRuleivtiibii {P : Program} {w : World} {K : PySem.W.Frag} {mg : Str → Option Value} {base : Heap} {A : Ad} (T : Txt w K mg A) : FnOk P w K mg base CX0 9 A.a_pair_homes A.d_pair_homes ["rule", "size", "legs", "one", "other"] (sp_pair_homes_oRuleivtiibii A) := by
  refine T.F_pair_homes.ok sc_pair_homes (fun vs H Q E h => ?_) (fun cdv A_ outer s_ H_0 vs Q E hr h => ?_)
  · obtain ⟨ms, v_rule, v_legs, x_rule, x_size, x_legs, x_one, x_other, KM, rfl, _⟩ := h
    rfl
  · obtain ⟨ms, v_rule, v_legs, x_rule, x_size, x_legs, x_one, x_other, KM, rfl, hW, h_rule, h_legs, hM, hQ⟩ := h
    unfold M_pair_homes_oRuleivtiibii at hM
    refine ⟨_, (pss_cons (ps_expr (pe_call (ok_check_size T) (hr.mono (by decide)) (by rfl) T.g_check_size T.F_check_size.kp T.b_check_size .nil pass0 (pa_cons (pv 0) (pa_cons (pv 1) pa_nil)))) (pss_cons (ps_expr (pe_call (ok_check_legs_vtiib T) (hr.mono (by decide)) (by rfl) T.g_check_legs T.F_check_legs.kp T.b_check_legs .nil pass0 (pa_cons (pv 2) pa_nil))) (pss_cons (ps_set (i := 5) sc_pair_homes.nd rfl (by first | exact Or.inl rfl | exact Or.inr rfl) (pe_lc (own := [("day", 6)]) (g := gName 6) rfl sc_pair_homes.nd (pi_list (pe_call (ok_rounds_of T) (hr.mono (by decide)) (by rfl) T.g_rounds_of T.F_rounds_of.kp T.b_rounds_of .nil pass0 (pa_cons (pv 0) (pa_cons (pv 1) (pa_cons (pv 3) (pa_cons (pv 4) pa_nil)))))) (blkOk_by (N := ["rule", "size", "legs", "one", "other", "marks", "day", "leg"]) (sc := defScope s_pair_homes) (by decide +kernel)) (fun _ _ _ _ _ => pg_name (i := 6) sc_pair_homes.nd rfl (by first | exact Or.inl rfl | exact Or.inr rfl)) (fun _ _ _ _ _ => pts_nil) (fun _ _ _ _ _ => (pe_call (ok_mark_of T) (hr.mono (by decide)) (by rfl) T.g_mark_of T.F_mark_of.kp T.b_mark_of .nil pass0 (pa_cons (pv 0) (pa_cons (pv 1) (pa_cons (pv 3) (pa_cons (pv 6) pa_nil)))))))) (pss_one (ps_ret (pe_callB (cr_sumK (K := K) rfl rfl) (by rfl) T.z_sum (by decide +kernel) (pa_cons (pe_lc (own := [("leg", 7)]) (g := gName 7) rfl sc_pair_homes.nd (pi_tup (pv 2)) (blkOk_by (N := ["rule", "size", "legs", "one", "other", "marks", "day", "leg"]) (sc := defScope s_pair_homes) (by decide +kernel)) (fun _ _ _ _ _ => pg_name (i := 7) sc_pair_homes.nd rfl (by first | exact Or.inl rfl | exact Or.inr rfl)) (fun _ _ _ _ _ => pts_nil) (fun _ _ _ _ _ => (pe_bmK (K := K) rfl PySem.F.plainAttrs_list PySem.F.slot_list_count PySem.F.type_list_count (mt_lcountSK (K := K) rfl) (pv 5) (pa_cons (pe_up (pe_ifExp (pt_val (pe_ix (ix_tupK (K := K) rfl) (pv 7) pe_int (fun _ _ => rfl))) pe_str pe_str)) pa_nil)))) pa_nil))))))), ?_⟩
    refine ⟨_, rfl, ?_⟩
    refine ⟨_, rfl, ?_⟩
    refine ⟨ms, _, x_rule, x_size, _, rfl, hW.enter0, h_rule, hM, fun r1 u4 H5 hM e3 h2 => ?_⟩
    replace h_rule := rep_ext e3 h_rule
    replace h_legs := rep_ext e3 h_legs
    replace hW := hW.ret0 e3
    obtain rfl := of_v h2
    refine ⟨_, rfl, ?_⟩
    refine ⟨ms, _, x_legs, _, rfl, hW.enter0, h_legs, hM, fun r6 u9 H10 hM e8 h7 => ?_⟩
    replace h_rule := rep_ext e8 h_rule
    replace h_legs := rep_ext e8 h_legs
    replace hW := hW.ret0 e8
    obtain rfl := of_v h7
    refine ⟨_, rfl, ?_⟩
    refine ⟨_, rfl, ?_⟩
    refine ⟨_, rfl, ?_⟩
    refine ⟨_, rfl, ?_⟩
    refine ⟨ms, _, x_rule, x_size, x_one, x_other, _, rfl, hW.enter0, h_rule, hM, fun r11 u14 H15 hM e13 h12 => ?_⟩
    replace h_rule := rep_ext e13 h_rule
    replace h_legs := rep_ext e13 h_legs
    replace hW := hW.ret0 e13
    apply rep_iter h12
    intro a16 xs17 _ an18 hp19 hl20
    refine fun L21 nl22 => ?_
    have nm36 := nm_new hW nl22
    refine lc_listG (L := L21) (fun n_ ys_ h_ => Wd (L21 :: ms) [] [] H_0 h_ ∧ Keep (L21 :: ms) H15 h_ ∧ MutO (L21 :: ms) [] H_0 h_ L21 (D.lst (ys_.map (fun y_ : Str => (D.v (V.str y_))))) ∧ ys_.length ≤ n_) (items := r11) (e := (fun y_ : Int => (D.v (V.int y_)))) an18 hp19 hl20 nl22 (fun _ _ _ q_ => q_.2.1) hM ⟨wd_cell hW nl22, keep_cell nl22 Keep.refl, mo_newL (ds := []) hW nl22 repL_nil, Nat.le_refl _⟩ ?_ ?_
    · skip
      rintro x32 u33 n23 ys24 k25 H37 hn ⟨hW, hk26, mu27, ln28⟩ h34 hM Nx31 hN29
      replace h_rule := rep_keep hk26 (rep_new nl22 h_rule)
      replace h_legs := rep_keep hk26 (rep_new nl22 h_legs)
      replace h12 := rep_keep hk26 (rep_new nl22 h12)
      obtain rfl := of_v h34
      refine ⟨rfl, ?_⟩
      refine tyes_of ?_
      refine ⟨_, rfl, ?_⟩
      refine ⟨_, rfl, ?_⟩
      refine ⟨_, rfl, ?_⟩
      refine ⟨_, rfl, ?_⟩
      refine ⟨(L21 :: ms), _, x_rule, x_size, x_one, x32, _, rfl, hW.enter0, h_rule, hM, fun r38 u41 H42 hM e40 h39 => ?_⟩
      replace h_rule := rep_ext e40 h_rule
      replace h_legs := rep_ext e40 h_legs
      replace h12 := rep_ext e40 h12
      replace hk26 := keep_ext e40 hk26
      replace mu27 := mo_ext e40 mu27
      replace hW := hW.ret0 e40
      obtain rfl := of_v h39
      refine mo_end mu27 hn (by rw [List.length_map]; exact ln28) fun vs43 hr44 => ?_
      have mk46 := mo_setL mu27 (repL_snoc (e := (fun y_ : Str => (D.v (V.str y_)))) (xs := ys24) (y := r38) hr44 rep_v)
      replace h_rule := rep_put (o := .lst (vs43 ++ [V.str r38])) mu27.im h_rule
      replace h_legs := rep_put (o := .lst (vs43 ++ [V.str r38])) mu27.im h_legs
      replace h12 := rep_put (o := .lst (vs43 ++ [V.str r38])) mu27.im h12
      replace hk26 := keep_put (o := .lst (vs43 ++ [V.str r38])) mu27.im hk26
      replace hW := wd_put (o := .lst (vs43 ++ [V.str r38])) hW mu27
      replace mu27 := mk46
      generalize upd H42 L21 (.lst (vs43 ++ [V.str r38])) = H47 at *
      replace mu27 : MutO (L21 :: ms) [] H_0 H47 L21 (D.lst ((ys24 ++ [r38]).map (fun y_ : Str => (D.v (V.str y_))))) := mu27
      clear mk46
      exact hN29 r38 _ hM ⟨hW, hk26, mu27, by rw [List.length_append]; exact Nat.add_le_add_right ln28 1⟩
    · skip
      rintro n23 ys48 H49 hM ⟨hW, hk26, mu27, ln28⟩
      replace h_rule := rep_keep hk26 (rep_new nl22 h_rule)
      replace h_legs := rep_keep hk26 (rep_new nl22 h_legs)
      replace h12 := rep_keep hk26 (rep_new nl22 h12)
      clear hk26 ln28
      have h50 := mo_rep_dr dr_here nm36 mu27
      replace hW := wd_dr dr_here mu27.hp hW
      replace h_rule := rep_dr dr_here h_rule
      replace h_legs := rep_dr dr_here h_legs
      replace h12 := rep_dr dr_here h12
      clear mu27
      refine ⟨_, rfl, ?_⟩
      apply rep_iterT h_legs
      intro a51 xs52 _ an53 hp54 hl55
      refine fun L56 nl57 => ?_
      have nm71 := nm_new hW nl57
      refine lc_tupG (L := L56) (fun n_ ys_ h_ => Wd (L56 :: ms) [] [] H_0 h_ ∧ Keep (L56 :: ms) H49 h_ ∧ MutO (L56 :: ms) [] H_0 h_ L56 (D.lst (ys_.map (fun y_ : Int => (D.v (V.int y_))))) ∧ ys_.length ≤ n_) (items := x_legs) (e := (fun y_ : (Int × Int × Bool) => (D.tup [(D.v (V.int y_.1)), (D.v (V.int y_.2.1)), (D.v (V.bl y_.2.2))]))) an53 hp54 hl55 nl57 (fun _ _ _ q_ => q_.2.1) hM ⟨wd_cell hW nl57, keep_cell nl57 Keep.refl, mo_newL (ds := []) hW nl57 repL_nil, Nat.le_refl _⟩ ?_ ?_
      · skip
        rintro x67 u68 n58 ys59 k60 H72 hn ⟨hW, hk61, mu62, ln63⟩ h69 hM Nx66 hN64
        replace h_rule := rep_keep hk61 (rep_new nl57 h_rule)
        replace h_legs := rep_keep hk61 (rep_new nl57 h_legs)
        replace h12 := rep_keep hk61 (rep_new nl57 h12)
        replace h50 := rep_keep hk61 (rep_new nl57 h50)
        refine ⟨rfl, ?_⟩
        refine tyes_of ?_
        refine ⟨_, rfl, ?_⟩
        refine ⟨rep_tyL h50, ?_⟩
        obtain ⟨KB73, hM, hKKB73⟩ := hM
        refine ⟨fun v H1 => ∃ r : Str, KB73 r ∧ Wd (L56 :: ms) [] [] H_0 H1 ∧ Keep (L56 :: ms) H72 H1 ∧ rep (L56 :: ms) H1 (D.v (V.str r)) v ∧ MutO (L56 :: ms) [] H_0 H1 L56 (D.lst (ys59.map (fun y_ : Int => (D.v (V.int y_))))), ?_, ?_⟩
        · skip
          have hj75 := Keep.refl (ms := (L56 :: ms)) (H := H72)
          refine ⟨_, rfl, ?_⟩
          apply rep_ixT 2 h69 rfl rfl
          intro u77 h76
          obtain rfl := of_v h76
          refine ⟨_, rfl, ?_⟩
          refine ite3 hM (fun hM => ?_) (fun hM => ?_)
          · skip
            exact ⟨("a" : Str), hM, hW, hj75, rep_v, mu62⟩
          · skip
            exact ⟨("h" : Str), hM, hW, hj75, rep_v, mu62⟩
        · skip
          clear mu62
          rintro u80 Hj74 ⟨r78, hr, hW, hj75, h79, mu81⟩
          replace hM := hKKB73 r78 hr
          replace h_rule := rep_keep hj75 h_rule
          replace h_legs := rep_keep hj75 h_legs
          replace h12 := rep_keep hj75 h12
          replace h50 := rep_keep hj75 h50
          replace hk61 := Keep.trans hk61 hj75
          replace h69 := rep_keep hj75 h69
          obtain rfl := of_v h79
          apply rep_lcountS h50
          refine mo_end mu81 hn (by rw [List.length_map]; exact ln63) fun vs82 hr83 => ?_
          have mk85 := mo_setL mu81 (repL_snoc (e := (fun y_ : Int => (D.v (V.int y_)))) (xs := ys59) (y := ((List.count r78 ys48 : Nat) : Int)) hr83 rep_v)
          replace h_rule := rep_put (o := .lst (vs82 ++ [V.int ((List.count r78 ys48 : Nat) : Int)])) mu81.im h_rule
          replace h_legs := rep_put (o := .lst (vs82 ++ [V.int ((List.count r78 ys48 : Nat) : Int)])) mu81.im h_legs
          replace h12 := rep_put (o := .lst (vs82 ++ [V.int ((List.count r78 ys48 : Nat) : Int)])) mu81.im h12
          replace h50 := rep_put (o := .lst (vs82 ++ [V.int ((List.count r78 ys48 : Nat) : Int)])) mu81.im h50
          replace hk61 := keep_put (o := .lst (vs82 ++ [V.int ((List.count r78 ys48 : Nat) : Int)])) mu81.im hk61
          replace h69 := rep_put (o := .lst (vs82 ++ [V.int ((List.count r78 ys48 : Nat) : Int)])) mu81.im h69
          replace hW := wd_put (o := .lst (vs82 ++ [V.int ((List.count r78 ys48 : Nat) : Int)])) hW mu81
          replace mu81 := mk85
          generalize upd Hj74 L56 (.lst (vs82 ++ [V.int ((List.count r78 ys48 : Nat) : Int)])) = H86 at *
          replace mu81 : MutO (L56 :: ms) [] H_0 H86 L56 (D.lst ((ys59 ++ [((List.count r78 ys48 : Nat) : Int)]).map (fun y_ : Int => (D.v (V.int y_))))) := mu81
          clear mk85
          exact hN64 ((List.count r78 ys48 : Nat) : Int) _ hM ⟨hW, hk61, mu81, by rw [List.length_append]; exact Nat.add_le_add_right ln63 1⟩
      · skip
        rintro n58 ys87 H88 hM ⟨hW, hk61, mu62, ln63⟩
        replace h_rule := rep_keep hk61 (rep_new nl57 h_rule)
        replace h_legs := rep_keep hk61 (rep_new nl57 h_legs)
        replace h12 := rep_keep hk61 (rep_new nl57 h12)
        replace h50 := rep_keep hk61 (rep_new nl57 h50)
        clear hk61 ln63
        have h89 := mo_rep_dr dr_here nm71 mu62
        replace hW := wd_dr dr_here mu62.hp hW
        replace h_rule := rep_dr dr_here h_rule
        replace h_legs := rep_dr dr_here h_legs
        replace h12 := rep_dr dr_here h12
        replace h50 := rep_dr dr_here h50
        clear mu62
        apply rep_sumL h89
        exact hQ (List.sum ys87) _ _ hM hW.out rep_v
def M_pair_right (x_sheet_here : (Int × (Str × Str × Str) × Str × Bool)) (x_plan : (Int × (Str × Str × Str) × Str × Bool)) (x_ring : Int) (x_legs_now : (List (Int × Int × Bool))) (x_who : Int) (x_mate : Int) (KM : Bool → Prop) : Prop :=
  (M_days_of x_sheet_here x_ring x_who x_mate fun r1 => (M_rounds_of x_plan (x_ring + (1 : Int)) x_who x_mate fun r6 => (((plainD (D.lst (r6.map (fun y_ : Int => (D.v (V.int y_))))) = true ∧ plainD (D.lst (r1.map (fun y_ : Int => (D.v (V.int y_))))) = true ∧ SeqAt.shaped (pyOf (D.lst (r6.map (fun y_ : Int => (D.v (V.int y_)))))) = true ∧ SeqAt.shaped (pyOf (D.lst (r1.map (fun y_ : Int => (D.v (V.int y_)))))) = true)) ∧ (if (!(PyData.eqv (pyOf (D.lst (r6.map (fun y_ : Int => (D.v (V.int y_)))))) (pyOf (D.lst (r1.map (fun y_ : Int => (D.v (V.int y_)))))))) = true then (KM false) else (M_homes x_sheet_here x_ring x_legs_now r1 x_who fun r12 => (M_homes x_sheet_here x_ring x_legs_now r1 x_mate fun r17 => (M_pair_homes x_plan (x_ring + (1 : Int)) x_legs_now x_who x_mate fun r22 => ((plainD (D.v (V.int r22)) = true ∧ (pyOf (D.v (V.int r22))).showable = true ∧ (pyOf (D.v (V.int r22))).hasDict = false ∧ (pyOf (D.v (V.int r22))).depth ≤ 60 ∧ (pyOf (D.v (V.int r22))).shown.length ≤ sizeLine) ∧ ((plainD (D.v (V.int r12)) = true ∧ (pyOf (D.v (V.int r12))).showable = true ∧ (pyOf (D.v (V.int r12))).hasDict = false ∧ (pyOf (D.v (V.int r12))).depth ≤ 60 ∧ (pyOf (D.v (V.int r12))).shown.length ≤ sizeLine) ∧ (if (!(decide (V.str (pyOf (D.v (V.int r22))).shown = V.str (pyOf (D.v (V.int r12))).shown))) = true then (KM false) else (M_pair_homes_oRuleivtiibii x_plan (x_ring + (1 : Int)) x_legs_now x_mate x_who fun r37 => (if (!(decide (V.int r37 = V.int r17))) = true then (KM false) else (x_legs_now.length < 100000 ∧ mapC (fun (x58 : (Int × Int × Bool)) (k51 : (Int × Int × Bool) → Prop) => (k51 (x58.1, x58.2.1, (!x58.2.2)))) x_legs_now [] fun ys89 => (CMulW (r1.length : Int) (x_legs_now.length : Int) ∧ (if (!(decide (V.int (r12 + r17) = V.int ((r1.length : Int) * (x_legs_now.length : Int))))) = true then (KM false) else (M_pair_homes x_plan (x_ring + (1 : Int)) ys89 x_who x_mate fun r93 => (KM (decide (V.int r93 = V.int r17)))))))))))))))))))
def sp_pair_right (A : Ad) : Sp := fun vs H Q _ => ∃ (ms : List Addr) (v_sheet_here : V) (v_plan : V) (v_legs_now : V) (x_sheet_here : (Int × (Str × Str × Str) × Str × Bool)) (x_plan : (Int × (Str × Str × Str) × Str × Bool)) (x_ring : Int) (x_legs_now : (List (Int × Int × Bool))) (x_who : Int) (x_mate : Int) (KM : Bool → Prop), vs = [v_sheet_here, v_plan, V.int x_ring, v_legs_now, V.int x_who, V.int x_mate] ∧ Wd ms [] [] H H ∧ rep ms H (D.tup [(D.v (V.int x_sheet_here.1)), (D.tup [(D.v (V.str x_sheet_here.2.1.1)), (D.v (V.str x_sheet_here.2.1.2.1)), (D.v (V.str x_sheet_here.2.1.2.2))]), (D.v (V.str x_sheet_here.2.2.1)), (D.v (V.bl x_sheet_here.2.2.2))]) v_sheet_here ∧ rep ms H (eRule A x_plan) v_plan ∧ rep ms H (D.lst (x_legs_now.map (fun y_ : (Int × Int × Bool) => (D.tup [(D.v (V.int y_.1)), (D.v (V.int y_.2.1)), (D.v (V.bl y_.2.2))])))) v_legs_now ∧ M_pair_right x_sheet_here x_plan x_ring x_legs_now x_who x_mate KM ∧ ∀ (r : Bool) (u : V) (H1 : Hp), KM r → Ret [] H H1 → rep ms H1 (D.v (V.bl r)) u → Q u H1
set_option maxHeartbeats 16000000 in
theorem ok_pair_right {P : Program} {w : World} {K : PySem.W.Frag} {mg : Str → Option Value} {base : Heap} {A : Ad} (T : Txt w K mg A) : FnG P w K mg base 10 A.a_pair_right A.d_pair_right ["_law_sheet_here", "_law_plan", "_law_ring", "_law_legs_now", "_law_who", "_law_mate"] (sp_pair_right A) := by
  refine okG T.F_pair_right sc_pair_right (fun vs H Q E h => ?_) (fun cdv A_ outer s_ H_0 vs Q E gu hr h => ?_)
  · obtain ⟨ms, v_sheet_here, v_plan, v_legs_now, x_sheet_here, x_plan, x_ring, x_legs_now, x_who, x_mate, KM, rfl, _⟩ := h
    rfl
  · obtain ⟨ms, v_sheet_here, v_plan, v_legs_now, x_sheet_here, x_plan, x_ring, x_legs_now, x_who, x_mate, KM, rfl, hW, h_sheet_here, h_plan, h_legs_now, hM, hQ⟩ := h
    unfold M_pair_right at hM
    refine ⟨_, (pss_cons (ps_set (i := 6) sc_pair_right.nd rfl (by first | exact Or.inl rfl | exact Or.inr rfl) (pe_call (ok_days_of T) (hr.mono (by decide)) (by rfl) T.g_days_of T.F_days_of.kp T.b_days_of .nil pass0 (pa_cons (pv 0) (pa_cons (pv 2) (pa_cons (pv 4) (pa_cons (pv 5) pa_nil)))))) (pss_cons (ps_if (pt_cmpR (op_neDK (K := K) rfl hr.units) (pe_call (ok_rounds_of T) (hr.mono (by decide)) (by rfl) T.g_rounds_of T.F_rounds_of.kp T.b_rounds_of .nil pass0 (pa_cons (pv 1) (pa_cons (pe_op op_add (pv 2) pe_int) (pa_cons (pv 4) (pa_cons (pv 5) pa_nil))))) (pv 6) (nomark _)) (pss_one (ps_ret pe_bl)) pss_nil) (pss_cons (ps_set (i := 7) sc_pair_right.nd rfl (by first | exact Or.inl rfl | exact Or.inr rfl) (pe_call (ok_homes T) (hr.mono (by decide)) (by rfl) T.g_homes T.F_homes.kp T.b_homes .nil pass0 (pa_cons (pv 0) (pa_cons (pv 2) (pa_cons (pv 3) (pa_cons (pv 6) (pa_cons (pv 4) pa_nil))))))) (pss_cons (ps_set (i := 8) sc_pair_right.nd rfl (by first | exact Or.inl rfl | exact Or.inr rfl) (pe_call (ok_homes T) (hr.mono (by decide)) (by rfl) T.g_homes T.F_homes.kp T.b_homes .nil pass0 (pa_cons (pv 0) (pa_cons (pv 2) (pa_cons (pv 3) (pa_cons (pv 6) (pa_cons (pv 5) pa_nil))))))) (pss_cons (ps_if (pt_cmpR op_ne (pe_callB (call_reprAK (K := K) rfl gu hr) (by rfl) T.z_repr (by decide +kernel) (pa_cons (pe_call (ok_pair_homes T) (hr.mono (by decide)) (by rfl) T.g_pair_homes T.F_pair_homes.kp T.b_pair_homes .nil pass0 (pa_cons (pv 1) (pa_cons (pe_op op_add (pv 2) pe_int) (pa_cons (pv 3) (pa_cons (pv 4) (pa_cons (pv 5) pa_nil)))))) pa_nil)) (pe_callB (call_reprAK (K := K) rfl gu hr) (by rfl) T.z_repr (by decide +kernel) (pa_cons (pv 7) pa_nil)) (nomark _)) (pss_one (ps_ret pe_bl)) pss_nil) (pss_cons (ps_if (pt_cmpR op_ne (pe_callKw (ok_pair_homes_oRuleivtiibii T) (hr.mono (by decide)) (by rfl) T.g_pair_homes T.F_pair_homes.kp T.k_pair_homes_other_one_legs_size_rule pass0 (pk_cons (pv 4) (pk_cons (pv 5) (pk_cons (pe_callTy (call_tuple_ofK (K := K) rfl) (by rfl) T.z_tuple (by decide +kernel) (pa_cons (pv 3) pa_nil)) (pk_cons (pe_op op_add (pv 2) pe_int) (pk_cons (pv 1) pk_nil)))))) (pv 8) (nomark _)) (pss_one (ps_ret pe_bl)) pss_nil) (pss_cons (ps_setLc (i := 9) (own := [("_law_begin", 10), ("_law_way", 11), ("_law_is_other", 12)]) (g := (gTup K 3 (gCons (gName 10) (gCons (gName 11) (gCons (gName 12) gNil))))) rfl sc_pair_right.nd rfl rfl (sw_true rfl rfl rfl (by decide +kernel)) (pi_list (pv 3)) (blkOk_by (N := ["_law_sheet_here", "_law_plan", "_law_ring", "_law_legs_now", "_law_who", "_law_mate", "_law_days_here", "_law_due", "_law_other_due", "_law_others", "_law_begin", "_law_way", "_law_is_other"]) (sc := defScope s_pair_right) (by decide +kernel)) (fun _ _ _ _ _ => (pg_tup rfl (pgs_cons (pg_name (i := 10) sc_pair_right.nd rfl (by first | exact Or.inl rfl | exact Or.inr rfl)) (pgs_cons (pg_name (i := 11) sc_pair_right.nd rfl (by first | exact Or.inl rfl | exact Or.inr rfl)) (pgs_cons (pg_name (i := 12) sc_pair_right.nd rfl (by first | exact Or.inl rfl | exact Or.inr rfl)) pgs_nil))))) (fun _ _ _ _ _ => pts_nil) (fun _ _ _ _ _ => (pe_tup (pa_cons (pv 10) (pa_cons (pv 11) (pa_cons (pe_not (pv 12)) pa_nil)))))) (pss_cons (ps_if (pt_cmpR op_ne (pe_op op_add (pv 7) (pv 8)) (pe_op op_mulW (pe_callB (call_lenK (K := K) rfl) (by rfl) T.z_len PySem.boot_len (pa_cons (pv 6) pa_nil)) (pe_callB (call_lenK (K := K) rfl) (by rfl) T.z_len PySem.boot_len (pa_cons (pv 3) pa_nil))) (nomark _)) (pss_one (ps_ret pe_bl)) pss_nil) (pss_one (ps_ret (pe_cmpR op_eq (pe_call (ok_pair_homes T) (hr.mono (by decide)) (by rfl) T.g_pair_homes T.F_pair_homes.kp T.b_pair_homes .nil pass0 (pa_cons (pv 1) (pa_cons (pe_op op_add (pv 2) pe_int) (pa_cons (pv 9) (pa_cons (pv 4) (pa_cons (pv 5) pa_nil)))))) (pv 8) (nomark _)))))))))))), ?_⟩
    refine ⟨_, rfl, ?_⟩
    refine ⟨_, rfl, ?_⟩
    refine ⟨_, rfl, ?_⟩
    refine ⟨_, rfl, ?_⟩
    refine ⟨ms, _, x_sheet_here, x_ring, x_who, x_mate, _, rfl, hW.enter0, h_sheet_here, hM, fun r1 u4 H5 hM e3 h2 => ?_⟩
    replace h_sheet_here := rep_ext e3 h_sheet_here
    replace h_plan := rep_ext e3 h_plan
    replace h_legs_now := rep_ext e3 h_legs_now
    replace hW := hW.ret0 e3
    refine ⟨_, rfl, ?_⟩
    refine ⟨_, rfl, ?_⟩
    refine ⟨_, _, rfl, rfl, ?_⟩
    refine ⟨_, rfl, ?_⟩
    refine ⟨_, rfl, ?_⟩
    refine ⟨ms, _, x_plan, (x_ring + (1 : Int)), x_who, x_mate, _, rfl, hW.enter0, h_plan, hM, fun r6 u9 H10 hM e8 h7 => ?_⟩
    replace h_sheet_here := rep_ext e8 h_sheet_here
    replace h_plan := rep_ext e8 h_plan
    replace h_legs_now := rep_ext e8 h_legs_now
    replace h2 := rep_ext e8 h2
    replace hW := hW.ret0 e8
    refine ⟨_, rfl, ?_⟩
    obtain ⟨g11, hM⟩ := hM
    apply rep_neD (d := (D.lst (r6.map (fun y_ : Int => (D.v (V.int y_)))))) (e := (D.lst (r1.map (fun y_ : Int => (D.v (V.int y_)))))) h7 h2 g11.1 g11.2.1 g11.2.2.1 g11.2.2.2
    refine ⟨_, rfl, ?_⟩
    refine ite3 hM (fun hM => ?_) (fun hM => ?_)
    · skip
      exact hQ false _ _ hM hW.out rep_v
    · skip
      refine ⟨_, rfl, ?_⟩
      refine ⟨_, rfl, ?_⟩
      refine ⟨_, rfl, ?_⟩
      refine ⟨_, rfl, ?_⟩
      refine ⟨_, rfl, ?_⟩
      refine ⟨ms, _, _, _, x_sheet_here, x_ring, x_legs_now, r1, x_who, _, rfl, hW.enter0, h_sheet_here, h_legs_now, h2, hM, fun r12 u15 H16 hM e14 h13 => ?_⟩
      replace h_sheet_here := rep_ext e14 h_sheet_here
      replace h_plan := rep_ext e14 h_plan
      replace h_legs_now := rep_ext e14 h_legs_now
      replace h2 := rep_ext e14 h2
      replace h7 := rep_ext e14 h7
      replace hW := hW.ret0 e14
      obtain rfl := of_v h13
      refine ⟨_, rfl, ?_⟩
      refine ⟨_, rfl, ?_⟩
      refine ⟨_, rfl, ?_⟩
      refine ⟨_, rfl, ?_⟩
      refine ⟨_, rfl, ?_⟩
      refine ⟨ms, _, _, _, x_sheet_here, x_ring, x_legs_now, r1, x_mate, _, rfl, hW.enter0, h_sheet_here, h_legs_now, h2, hM, fun r17 u20 H21 hM e19 h18 => ?_⟩
      replace h_sheet_here := rep_ext e19 h_sheet_here
      replace h_plan := rep_ext e19 h_plan
      replace h_legs_now := rep_ext e19 h_legs_now
      replace h2 := rep_ext e19 h2
      replace h7 := rep_ext e19 h7
      replace hW := hW.ret0 e19
      obtain rfl := of_v h18
      refine ⟨_, rfl, ?_⟩
      refine ⟨_, rfl, ?_⟩
      refine ⟨_, _, rfl, rfl, ?_⟩
      refine ⟨_, rfl, ?_⟩
      refine ⟨_, rfl, ?_⟩
      refine ⟨_, rfl, ?_⟩
      refine ⟨ms, _, _, x_plan, (x_ring + (1 : Int)), x_legs_now, x_who, x_mate, _, rfl, hW.enter0, h_plan, h_legs_now, hM, fun r22 u25 H26 hM e24 h23 => ?_⟩
      replace h_sheet_here := rep_ext e24 h_sheet_here
      replace h_plan := rep_ext e24 h_plan
      replace h_legs_now := rep_ext e24 h_legs_now
      replace h2 := rep_ext e24 h2
      replace h7 := rep_ext e24 h7
      replace hW := hW.ret0 e24
      obtain rfl := of_v h23
      obtain ⟨g27, hM⟩ := hM
      apply rep_repr (d := (D.v (V.int r22))) (rep_v (ms := ([] : List Addr))) g27.1 g27.2.1 g27.2.2.1 g27.2.2.2.1 g27.2.2.2.2
      refine ⟨_, rfl, ?_⟩
      obtain ⟨g28, hM⟩ := hM
      apply rep_repr (d := (D.v (V.int r12))) (rep_v (ms := ([] : List Addr))) g28.1 g28.2.1 g28.2.2.1 g28.2.2.2.1 g28.2.2.2.2
      refine ⟨rfl, ?_⟩
      refine ⟨_, rfl, ?_⟩
      refine ite3 hM (fun hM => ?_) (fun hM => ?_)
      · skip
        exact hQ false _ _ hM hW.out rep_v
      · skip
        refine ⟨_, rfl, ?_⟩
        refine ⟨_, rfl, ?_⟩
        refine ⟨_, rfl, ?_⟩
        apply rep_tupOf (ds := x_legs_now.map (fun y_ : (Int × Int × Bool) => (D.tup [(D.v (V.int y_.1)), (D.v (V.int y_.2.1)), (D.v (V.bl y_.2.2))]))) h_legs_now
        intro ys29 hr30
        intro p31 np32
        have e33 := Rx.Ext.new (H := H26) (o := (HO.tup ys29)) np32
        have hp34 : upd H26 p31 (HO.tup ys29) p31 = some (HO.tup ys29) := upd_same
        generalize upd H26 p31 (HO.tup ys29) = H36 at e33 hp34 ⊢
        have h35 : rep ms H36 (D.tup (x_legs_now.map (fun y_ : (Int × Int × Bool) => (D.tup [(D.v (V.int y_.1)), (D.v (V.int y_.2.1)), (D.v (V.bl y_.2.2))])))) (.ref p31) := rep_tup_mk hW np32 e33 hp34 hr30
        replace h_sheet_here := rep_ext e33 h_sheet_here
        replace h_plan := rep_ext e33 h_plan
        replace h_legs_now := rep_ext e33 h_legs_now
        replace h2 := rep_ext e33 h2
        replace h7 := rep_ext e33 h7
        replace hW := hW.ret0 e33
        refine ⟨_, rfl, ?_⟩
        refine ⟨_, _, rfl, rfl, ?_⟩
        refine ⟨_, rfl, ?_⟩
        refine ⟨rfl, ?_⟩
        refine ⟨ms, _, _, x_plan, (x_ring + (1 : Int)), x_legs_now, x_mate, x_who, _, rfl, hW.enter0, h_plan, h35, hM, fun r37 u40 H41 hM e39 h38 => ?_⟩
        replace h_sheet_here := rep_ext e39 h_sheet_here
        replace h_plan := rep_ext e39 h_plan
        replace h_legs_now := rep_ext e39 h_legs_now
        replace h2 := rep_ext e39 h2
        replace h7 := rep_ext e39 h7
        replace h35 := rep_ext e39 h35
        replace hW := hW.ret0 e39
        obtain rfl := of_v h38
        refine ⟨_, rfl, ?_⟩
        refine ⟨rfl, ?_⟩
        refine ⟨_, rfl, ?_⟩
        refine ite3 hM (fun hM => ?_) (fun hM => ?_)
        · skip
          exact hQ false _ _ hM hW.out rep_v
        · skip
          refine ⟨_, rfl, ?_⟩
          apply rep_iter h_legs_now
          intro a42 xs43 _ an44 hp45 hl46
          refine fun L47 nl48 => ?_
          have nm62 := nm_new hW nl48
          refine lc_listG (L := L47) (fun n_ ys_ h_ => Wd (L47 :: ms) [] [] H_0 h_ ∧ Keep (L47 :: ms) H41 h_ ∧ MutO (L47 :: ms) [] H_0 h_ L47 (D.lst (ys_.map (fun y_ : (Int × Int × Bool) => (D.tup [(D.v (V.int y_.1)), (D.v (V.int y_.2.1)), (D.v (V.bl y_.2.2))])))) ∧ ys_.length ≤ n_) (items := x_legs_now) (e := (fun y_ : (Int × Int × Bool) => (D.tup [(D.v (V.int y_.1)), (D.v (V.int y_.2.1)), (D.v (V.bl y_.2.2))]))) an44 hp45 hl46 nl48 (fun _ _ _ q_ => q_.2.1) hM ⟨wd_cell hW nl48, keep_cell nl48 Keep.refl, mo_newL (ds := []) hW nl48 repL_nil, Nat.le_refl _⟩ ?_ ?_
          · skip
            rintro x58 u59 n49 ys50 k51 H63 hn ⟨hW, hk52, mu53, ln54⟩ h60 hM Nx57 hN55
            replace h_sheet_here := rep_keep hk52 (rep_new nl48 h_sheet_here)
            replace h_plan := rep_keep hk52 (rep_new nl48 h_plan)
            replace h_legs_now := rep_keep hk52 (rep_new nl48 h_legs_now)
            replace h2 := rep_keep hk52 (rep_new nl48 h2)
            replace h7 := rep_keep hk52 (rep_new nl48 h7)
            replace h35 := rep_keep hk52 (rep_new nl48 h35)
            apply rep_gtup h60 rfl
            intro vs64 hv65
            obtain ⟨u66, us67, rfl, h68, hv69⟩ := repL_uncons hv65
            obtain rfl := of_v h68
            obtain ⟨u70, us71, rfl, h72, hv73⟩ := repL_uncons hv69
            obtain rfl := of_v h72
            obtain ⟨u74, us75, rfl, h76, hv77⟩ := repL_uncons hv73
            obtain rfl := of_v h76
            obtain rfl := repL_empty hv77
            refine ⟨_, _, rfl, ?_⟩
            refine ⟨_, _, rfl, ?_⟩
            refine ⟨_, _, rfl, ?_⟩
            refine ⟨rfl, ?_⟩
            refine ⟨rfl, ?_⟩
            refine tyes_of ?_
            refine ⟨_, rfl, ?_⟩
            refine ⟨_, rfl, ?_⟩
            refine ⟨_, rfl, ?_⟩
            refine ⟨_, rfl, ?_⟩
            refine ⟨(by show 3 ≤ sizeLine; decide), ?_⟩
            intro p78 n82
            have e79 := Rx.Ext.new (H := H63) (o := (HO.tup [V.int x58.1, V.int x58.2.1, V.bl (!x58.2.2)])) n82
            have hp80 : upd H63 p78 (HO.tup [V.int x58.1, V.int x58.2.1, V.bl (!x58.2.2)]) p78 = some (HO.tup [V.int x58.1, V.int x58.2.1, V.bl (!x58.2.2)]) := upd_same
            generalize upd H63 p78 (HO.tup [V.int x58.1, V.int x58.2.1, V.bl (!x58.2.2)]) = H83 at e79 hp80 ⊢
            have h81 : rep (L47 :: ms) H83 (D.tup [(D.v (V.int x58.1)), (D.v (V.int x58.2.1)), (D.v (V.bl (!x58.2.2)))]) (.ref p78) := rep_tup_mk hW n82 e79 hp80 (repL_cons rep_v (repL_cons rep_v (repL_cons rep_v repL_nil)))
            replace h_sheet_here := rep_ext e79 h_sheet_here
            replace h_plan := rep_ext e79 h_plan
            replace h_legs_now := rep_ext e79 h_legs_now
            replace h2 := rep_ext e79 h2
            replace h7 := rep_ext e79 h7
            replace h35 := rep_ext e79 h35
            replace hk52 := keep_ext e79 hk52
            replace h60 := rep_ext e79 h60
            replace mu53 := mo_ext e79 mu53
            replace hW := hW.ret0 e79
            refine mo_end mu53 hn (by rw [List.length_map]; exact ln54) fun vs84 hr85 => ?_
            have mk87 := mo_setL mu53 (repL_snoc (e := (fun y_ : (Int × Int × Bool) => (D.tup [(D.v (V.int y_.1)), (D.v (V.int y_.2.1)), (D.v (V.bl y_.2.2))]))) (xs := ys50) (y := (x58.1, x58.2.1, (!x58.2.2))) hr85 h81)
            replace h_sheet_here := rep_put (o := .lst (vs84 ++ [(V.ref p78)])) mu53.im h_sheet_here
            replace h_plan := rep_put (o := .lst (vs84 ++ [(V.ref p78)])) mu53.im h_plan
            replace h_legs_now := rep_put (o := .lst (vs84 ++ [(V.ref p78)])) mu53.im h_legs_now
            replace h2 := rep_put (o := .lst (vs84 ++ [(V.ref p78)])) mu53.im h2
            replace h7 := rep_put (o := .lst (vs84 ++ [(V.ref p78)])) mu53.im h7
            replace h35 := rep_put (o := .lst (vs84 ++ [(V.ref p78)])) mu53.im h35
            replace hk52 := keep_put (o := .lst (vs84 ++ [(V.ref p78)])) mu53.im hk52
            replace h60 := rep_put (o := .lst (vs84 ++ [(V.ref p78)])) mu53.im h60
            replace h81 := rep_put (o := .lst (vs84 ++ [(V.ref p78)])) mu53.im h81
            replace hW := wd_put (o := .lst (vs84 ++ [(V.ref p78)])) hW mu53
            replace mu53 := mk87
            generalize upd H83 L47 (.lst (vs84 ++ [(V.ref p78)])) = H88 at *
            replace mu53 : MutO (L47 :: ms) [] H_0 H88 L47 (D.lst ((ys50 ++ [(x58.1, x58.2.1, (!x58.2.2))]).map (fun y_ : (Int × Int × Bool) => (D.tup [(D.v (V.int y_.1)), (D.v (V.int y_.2.1)), (D.v (V.bl y_.2.2))])))) := mu53
            clear mk87
            exact hN55 (x58.1, x58.2.1, (!x58.2.2)) _ hM ⟨hW, hk52, mu53, by rw [List.length_append]; exact Nat.add_le_add_right ln54 1⟩
          · skip
            rintro n49 ys89 H90 hM ⟨hW, hk52, mu53, ln54⟩
            replace h_sheet_here := rep_keep hk52 (rep_new nl48 h_sheet_here)
            replace h_plan := rep_keep hk52 (rep_new nl48 h_plan)
            replace h_legs_now := rep_keep hk52 (rep_new nl48 h_legs_now)
            replace h2 := rep_keep hk52 (rep_new nl48 h2)
            replace h7 := rep_keep hk52 (rep_new nl48 h7)
            replace h35 := rep_keep hk52 (rep_new nl48 h35)
            clear hk52 ln54
            have h91 := mo_rep_dr dr_here nm62 mu53
            replace hW := wd_dr dr_here mu53.hp hW
            replace h_sheet_here := rep_dr dr_here h_sheet_here
            replace h_plan := rep_dr dr_here h_plan
            replace h_legs_now := rep_dr dr_here h_legs_now
            replace h2 := rep_dr dr_here h2
            replace h7 := rep_dr dr_here h7
            replace h35 := rep_dr dr_here h35
            clear mu53
            refine ⟨_, rfl, ?_⟩
            refine ⟨_, rfl, ?_⟩
            refine ⟨_, _, rfl, rfl, ?_⟩
            refine ⟨_, rfl, ?_⟩
            apply rep_lenL (e := (fun y_ : Int => (D.v (V.int y_)))) (xs := r1) h2
            refine ⟨_, rfl, ?_⟩
            apply rep_lenL (e := (fun y_ : (Int × Int × Bool) => (D.tup [(D.v (V.int y_.1)), (D.v (V.int y_.2.1)), (D.v (V.bl y_.2.2))]))) (xs := x_legs_now) h_legs_now
            obtain ⟨g92, hM⟩ := hM
            refine ⟨_, _, rfl, rfl, g92, ?_⟩
            refine ⟨rfl, ?_⟩
            refine ⟨_, rfl, ?_⟩
            refine ite3 hM (fun hM => ?_) (fun hM => ?_)
            · skip
              exact hQ false _ _ hM hW.out rep_v
            · skip
              refine ⟨_, rfl, ?_⟩
              refine ⟨_, rfl, ?_⟩
              refine ⟨_, _, rfl, rfl, ?_⟩
              refine ⟨_, rfl, ?_⟩
              refine ⟨_, rfl, ?_⟩
              refine ⟨_, rfl, ?_⟩
              refine ⟨ms, _, _, x_plan, (x_ring + (1 : Int)), ys89, x_who, x_mate, _, rfl, hW.enter0, h_plan, h91, hM, fun r93 u96 H97 hM e95 h94 => ?_⟩
              replace h_sheet_here := rep_ext e95 h_sheet_here
              replace h_plan := rep_ext e95 h_plan
              replace h_legs_now := rep_ext e95 h_legs_now
              replace h2 := rep_ext e95 h2
              replace h7 := rep_ext e95 h7
              replace h35 := rep_ext e95 h35
              replace h91 := rep_ext e95 h91
              replace hW := hW.ret0 e95
              obtain rfl := of_v h94
              refine ⟨_, rfl, ?_⟩
              refine ⟨rfl, ?_⟩
              exact hQ (decide (V.int r93 = V.int r17)) _ _ hM hW.out rep_v
def M_right (KM : Bool → Prop) : Prop :=
  (M_sheet  fun r1 => (M_season  fun r6 => (M_made r1 fun r11 => (M_fewest r1 fun r16 => (M_draw (2 : Int) fun r21 => (M_small_right r1 r11 (((2 : Int) * (r16 + r21)) + (1 : Int)) r6 fun r26 => (if (!r26) = true then (KM false) else (forC (fun (x42 : Int) (s44 : Unit) (k45 : Unit → Prop) => (M_draw ((10 : Int) ^ Int.toNat (6 : Int)) fun r57 => (forC (fun (x62 : Int) (s64 : Unit) (k65 : Unit → Prop) => (∃ KB75 : Int → Prop, (M_draw (3 : Int) fun r78 => (if (decide (V.int r78 = V.int (0 : Int))) = true then (CMulW (((2 : Int) * (x42 + r57)) + (1 : Int)) (if r1.1 < 0 then -r1.1 else r1.1) ∧ (KB75 ((((2 : Int) * (x42 + r57)) + (1 : Int)) * (if r1.1 < 0 then -r1.1 else r1.1)))) else (KB75 (((2 : Int) * (x42 + r57)) + (1 : Int))))) ∧ ∀ r86 : Int, KB75 r86 → (M_draw ((r86 + (1 : Int)) - (r86 % (2 : Int))) fun r89 => (M_draw ((10 : Int) ^ Int.toNat (5 : Int)) fun r94 => (0 < ((r86 + (1 : Int)) - (r86 % (2 : Int))) ∧ (M_pick ([((r86 + (1 : Int)) - (r86 % (2 : Int))), (0 : Int), (((r86 + (1 : Int)) - (r86 % (2 : Int))) - (1 : Int)), r89, (r94 % ((r86 + (1 : Int)) - (r86 % (2 : Int))))] : List Int) fun r106 => (M_draw ((r86 + (1 : Int)) - (r86 % (2 : Int))) fun r111 => (0 < (((r86 + (1 : Int)) - (r86 % (2 : Int))) + (1 : Int)) ∧ (M_pair_right r1 r11 ((r86 + (1 : Int)) - (r86 % (2 : Int))) r6 r106 (((r106 + (1 : Int)) + r111) % (((r86 + (1 : Int)) - (r86 % (2 : Int))) + (1 : Int))) fun r117 => (if (!r117) = true then (KM false) else (k65 ()))))))))))) (rangeI (0 : Int) (2 : Int)) () fun s122 => (k45 ())))) ([(12 : Int), ((10 : Int) ^ Int.toNat (9 : Int)), ((10 : Int) ^ Int.toNat (29 : Int)), ((10 : Int) ^ Int.toNat (58 : Int))] : List Int) () fun s129 => (KM true)))))))))
def sp_right (A : Ad) : Sp := fun vs H Q _ => ∃ (ms : List Addr) (ap : Addr) (KM : Bool → Prop), vs = [.ref ap] ∧ Wd ms [ap] [] H H ∧ M_right  KM ∧ ∀ (r : Bool) (u : V) (H1 : Hp), KM r → Ret [ap] H H1 → rep ms H1 (D.v (V.bl r)) u → Q u H1
set_option maxHeartbeats 16000000 in
theorem ok_right {P : Program} {w : World} {K : PySem.W.Frag} {mg : Str → Option Value} {base : Heap} {A : Ad} (T : Txt w K mg A) : FnG P w K mg base 11 A.a_right A.d_right ["_law_pot_here"] (sp_right A) := by
  refine okG T.F_right sc_right (fun vs H Q E h => ?_) (fun cdv A_ outer s_ H_0 vs Q E gu hr h => ?_)
  · obtain ⟨ms, ap, KM, rfl, _⟩ := h
    rfl
  · obtain ⟨ms, ap, KM, rfl, hW, hM, hQ⟩ := h
    unfold M_right at hM
    refine ⟨_, (pss_cons (ps_par (i := 1) (j := 2) (by rfl) sc_right.nd rfl rfl (by decide) rfl rfl (pa_cons (pe_call (ok_sheet T) (hr.mono (by decide)) (by rfl) T.g_sheet T.F_sheet.kp T.b_sheet .nil pass0 (pa_cons (pv 0) pa_nil)) (pa_cons (pe_call (ok_season T) (hr.mono (by decide)) (by rfl) T.g_season T.F_season.kp T.b_season .nil pass0 (pa_cons (pv 0) pa_nil)) pa_nil)) (by rfl)) (pss_cons (ps_par (i := 3) (j := 4) (by rfl) sc_right.nd rfl rfl (by decide) rfl rfl (pa_cons (pe_call (ok_made T) (hr.mono (by decide)) (by rfl) T.g_made T.F_made.kp T.b_made .nil pass0 (pa_cons (pv 1) pa_nil)) (pa_cons (pe_call (ok_fewest T) (hr.mono (by decide)) (by rfl) T.g_fewest T.F_fewest.kp T.b_fewest .nil pass0 (pa_cons (pv 1) pa_nil)) pa_nil)) (by rfl)) (pss_cons (ps_if (pt_not (pt_val (pe_call (ok_small_right T) (hr.mono (by decide)) (by rfl) T.g_small_right T.F_small_right.kp T.b_small_right .nil pass0 (pa_cons (pv 1) (pa_cons (pv 3) (pa_cons (pe_op op_add (pe_op op_mul pe_int (pe_op op_add (pv 4) (pe_call (ok_draw T) (hr.mono (by decide)) (by rfl) T.g_draw T.F_draw.kp T.b_draw .nil pass0 (pa_cons (pv 0) (pa_cons pe_int pa_nil))))) pe_int) (pa_cons (pv 2) pa_nil))))))) (pss_one (ps_ret pe_bl)) pss_nil) (pss_cons (ps_for PassesOwn.never rfl (pi_list (pe_lst (pa_cons pe_int (pa_cons (pe_op op_pow pe_int pe_int) (pa_cons (pe_op op_pow pe_int pe_int) (pa_cons (pe_op op_pow pe_int pe_int) pa_nil)))))) (pg_name (i := 5) sc_right.nd rfl (by first | exact Or.inl rfl | exact Or.inr rfl)) (pss_cons (ps_set (i := 6) sc_right.nd rfl (by first | exact Or.inl rfl | exact Or.inr rfl) (pe_op op_add (pe_op op_mul pe_int (pe_op op_add (pv 5) (pe_call (ok_draw T) (hr.mono (by decide)) (by rfl) T.g_draw T.F_draw.kp T.b_draw .nil pass0 (pa_cons (pv 0) (pa_cons (pe_op op_pow pe_int pe_int) pa_nil))))) pe_int)) (pss_one (ps_for PassesOwn.never rfl (pi_rangeW1 (by rfl) T.z_range (pa_cons pe_int pa_nil)) (pg_name (i := 7) sc_right.nd rfl (by first | exact Or.inl rfl | exact Or.inr rfl)) (pss_cons (ps_set (i := 8) sc_right.nd rfl (by first | exact Or.inl rfl | exact Or.inr rfl) (pe_up (pe_ifExp (pt_cmpR op_eq (pe_call (ok_draw T) (hr.mono (by decide)) (by rfl) T.g_draw T.F_draw.kp T.b_draw .nil pass0 (pa_cons (pv 0) (pa_cons pe_int pa_nil))) pe_int (nomark _)) (pe_op op_mulW (pv 6) (pe_callB call_abs (by rfl) T.z_abs (by decide +kernel) (pa_cons (pe_ix (ix_tupK (K := K) rfl) (pv 1) pe_int (fun _ _ => rfl)) pa_nil))) (pv 6)))) (pss_cons (ps_set (i := 8) sc_right.nd rfl (by first | exact Or.inl rfl | exact Or.inr rfl) (pe_op op_sub (pe_op op_add (pv 8) pe_int) (pe_op op_mod (pv 8) pe_int))) (pss_cons (ps_set (i := 9) sc_right.nd rfl (by first | exact Or.inl rfl | exact Or.inr rfl) (pe_call (ok_pick T) (hr.mono (by decide)) (by rfl) T.g_pick T.F_pick.kp T.b_pick .nil pass0 (pa_cons (pv 0) (pa_cons (pe_lst (pa_cons (pv 8) (pa_cons pe_int (pa_cons (pe_op op_sub (pv 8) pe_int) (pa_cons (pe_call (ok_draw T) (hr.mono (by decide)) (by rfl) T.g_draw T.F_draw.kp T.b_draw .nil pass0 (pa_cons (pv 0) (pa_cons (pv 8) pa_nil))) (pa_cons (pe_op op_mod (pe_call (ok_draw T) (hr.mono (by decide)) (by rfl) T.g_draw T.F_draw.kp T.b_draw .nil pass0 (pa_cons (pv 0) (pa_cons (pe_op op_pow pe_int pe_int) pa_nil))) (pv 8)) pa_nil)))))) pa_nil)))) (pss_cons (ps_set (i := 10) sc_right.nd rfl (by first | exact Or.inl rfl | exact Or.inr rfl) (pe_op op_mod (pe_op op_add (pe_op op_add (pv 9) pe_int) (pe_call (ok_draw T) (hr.mono (by decide)) (by rfl) T.g_draw T.F_draw.kp T.b_draw .nil pass0 (pa_cons (pv 0) (pa_cons (pv 8) pa_nil)))) (pe_op op_add (pv 8) pe_int))) (pss_one (ps_if (pt_not (pt_val (pe_callG (ok_pair_right T) gu (hr.mono (by decide)) (by rfl) T.g_pair_right T.F_pair_right.kp T.b_pair_right (pa_cons (pv 1) (pa_cons (pv 3) (pa_cons (pv 8) (pa_cons (pv 2) (pa_cons (pv 9) (pa_cons (pv 10) pa_nil))))))))) (pss_one (ps_ret pe_bl)) pss_nil)))))))))) (pss_one (ps_ret pe_bl)))))), ?_⟩
    refine ⟨_, rfl, ?_⟩
    refine ⟨ms, ap, _, rfl, hW.enterP, hM, fun r1 u4 H5 hM e3 h2 => ?_⟩
    replace hW := hW.retP e3
    refine ⟨_, rfl, ?_⟩
    refine ⟨ms, ap, _, rfl, hW.enterP, hM, fun r6 u9 H10 hM e8 h7 => ?_⟩
    replace h2 := rep_ret hW e8 h2
    replace hW := hW.retP e8
    refine ⟨_, _, rfl, ?_⟩
    refine ⟨_, rfl, ?_⟩
    refine ⟨ms, _, r1, _, rfl, hW.enter0, h2, hM, fun r11 u14 H15 hM e13 h12 => ?_⟩
    replace h2 := rep_ext e13 h2
    replace h7 := rep_ext e13 h7
    replace hW := hW.ret0 e13
    refine ⟨_, rfl, ?_⟩
    refine ⟨ms, _, r1, _, rfl, hW.enter0, h2, hM, fun r16 u19 H20 hM e18 h17 => ?_⟩
    replace h2 := rep_ext e18 h2
    replace h7 := rep_ext e18 h7
    replace h12 := rep_ext e18 h12
    replace hW := hW.ret0 e18
    obtain rfl := of_v h17
    refine ⟨_, _, rfl, ?_⟩
    refine ⟨_, rfl, ?_⟩
    refine ⟨_, rfl, ?_⟩
    refine ⟨_, rfl, ?_⟩
    refine ⟨_, rfl, ?_⟩
    refine ⟨ms, ap, (2 : Int), _, rfl, hW.enterP, hM, fun r21 u24 H25 hM e23 h22 => ?_⟩
    replace h2 := rep_ret hW e23 h2
    replace h7 := rep_ret hW e23 h7
    replace h12 := rep_ret hW e23 h12
    replace hW := hW.retP e23
    obtain rfl := of_v h22
    refine ⟨_, _, rfl, rfl, ?_⟩
    refine ⟨_, _, rfl, rfl, .inl ⟨by decide, by decide⟩, ?_⟩
    refine ⟨_, _, rfl, rfl, ?_⟩
    refine ⟨_, rfl, ?_⟩
    refine ⟨ms, _, _, _, r1, r11, (((2 : Int) * (r16 + r21)) + (1 : Int)), r6, _, rfl, hW.enter0, h2, h12, h7, hM, fun r26 u29 H30 hM e28 h27 => ?_⟩
    replace h2 := rep_ext e28 h2
    replace h7 := rep_ext e28 h7
    replace h12 := rep_ext e28 h12
    replace hW := hW.ret0 e28
    obtain rfl := of_v h27
    refine ⟨_, rfl, ?_⟩
    refine ite3 hM (fun hM => ?_) (fun hM => ?_)
    · skip
      exact hQ false _ _ hM hW.out rep_v
    · skip
      refine ⟨_, _, rfl, rfl, ⟨by decide, by decide, by decide⟩, ?_⟩
      refine ⟨_, _, rfl, rfl, ⟨by decide, by decide, by decide⟩, ?_⟩
      refine ⟨_, _, rfl, rfl, ⟨by decide, by decide, by decide⟩, ?_⟩
      refine ⟨(by show 4 ≤ sizeLine; decide), ?_⟩
      intro p31 n35
      have e32 := Rx.Ext.new (H := H30) (o := (HO.lst [V.int (12 : Int), V.int ((10 : Int) ^ Int.toNat (9 : Int)), V.int ((10 : Int) ^ Int.toNat (29 : Int)), V.int ((10 : Int) ^ Int.toNat (58 : Int))])) n35
      have hp33 : upd H30 p31 (HO.lst [V.int (12 : Int), V.int ((10 : Int) ^ Int.toNat (9 : Int)), V.int ((10 : Int) ^ Int.toNat (29 : Int)), V.int ((10 : Int) ^ Int.toNat (58 : Int))]) p31 = some (HO.lst [V.int (12 : Int), V.int ((10 : Int) ^ Int.toNat (9 : Int)), V.int ((10 : Int) ^ Int.toNat (29 : Int)), V.int ((10 : Int) ^ Int.toNat (58 : Int))]) := upd_same
      generalize upd H30 p31 (HO.lst [V.int (12 : Int), V.int ((10 : Int) ^ Int.toNat (9 : Int)), V.int ((10 : Int) ^ Int.toNat (29 : Int)), V.int ((10 : Int) ^ Int.toNat (58 : Int))]) = H36 at e32 hp33 ⊢
      have h34 : rep ms H36 (D.lst (([(12 : Int), ((10 : Int) ^ Int.toNat (9 : Int)), ((10 : Int) ^ Int.toNat (29 : Int)), ((10 : Int) ^ Int.toNat (58 : Int))] : List Int).map (fun y_ : Int => (D.v (V.int y_))))) (.ref p31) := rep_lst_mk hW n35 e32 hp33 (repL_cons rep_v (repL_cons rep_v (repL_cons rep_v (repL_cons rep_v repL_nil))))
      replace h2 := rep_ext e32 h2
      replace h7 := rep_ext e32 h7
      replace h12 := rep_ext e32 h12
      replace hW := hW.ret0 e32
      apply rep_iter h34
      intro a37 xs38 _ an39 hp40 hl41
      refine for_listG (S := Unit) (items := ([(12 : Int), ((10 : Int) ^ Int.toNat (9 : Int)), ((10 : Int) ^ Int.toNat (29 : Int)), ((10 : Int) ^ Int.toNat (58 : Int))] : List Int)) (e := (fun y_ : Int => (D.v (V.int y_)))) (ms := ms) (fun (s : Unit) σ_ h_ => ∃ (w_0 : Option V), ∃ (w_1 : Option V), ∃ (w_2 : Option V), ∃ (w_3 : Option V), ∃ (w_4 : Option V), ∃ (w_5 : Option V), σ_ = [some (V.ref ap), some u4, some u9, some u14, some (V.int r16), w_0, w_1, w_2, w_3, w_4, w_5] ∧ Wd ms [ap] [] H_0 h_ ∧ Keep ms H36 h_) () an39 hp40 hl41 (fun _ _ _ z_ => by obtain ⟨_, _, _, _, _, _, _, _, q_⟩ := z_; exact q_) hM ⟨_, _, _, _, _, _, rfl, hW, Keep.refl⟩ ?_ ?_
      · skip
        rintro x42 u43 s44 k45 _ H56 ⟨w50, w51, w52, w53, w54, w55, rfl, hW, hk46⟩ h47 hM Nx48 hN49
        replace h2 := rep_keep hk46 h2
        replace h7 := rep_keep hk46 h7
        replace h12 := rep_keep hk46 h12
        replace h34 := rep_keep hk46 h34
        obtain rfl := of_v h47
        refine ⟨_, rfl, ?_⟩
        refine ⟨_, rfl, ?_⟩
        refine ⟨_, _, rfl, rfl, ⟨by decide, by decide, by decide⟩, ?_⟩
        refine ⟨ms, ap, ((10 : Int) ^ Int.toNat (6 : Int)), _, rfl, hW.enterP, hM, fun r57 u60 H61 hM e59 h58 => ?_⟩
        replace h2 := rep_ret hW e59 h2
        replace h7 := rep_ret hW e59 h7
        replace h12 := rep_ret hW e59 h12
        replace h34 := rep_ret hW e59 h34
        replace hk46 := keep_ret hW e59 hk46
        replace hW := hW.retP e59
        obtain rfl := of_v h58
        refine ⟨_, _, rfl, rfl, ?_⟩
        refine ⟨_, _, rfl, rfl, .inl ⟨by decide, by decide⟩, ?_⟩
        refine ⟨_, _, rfl, rfl, ?_⟩
        refine ⟨_, rfl, ?_⟩
        refine for_rangeG (S := Unit) (lo := (0 : Int)) (hi := (2 : Int)) (N := Int.toNat (2 : Int)) (fun (s : Unit) σ_ h_ => ∃ (w_0 : Option V), ∃ (w_1 : Option V), ∃ (w_2 : Option V), ∃ (w_3 : Option V), σ_ = [some (V.ref ap), some u4, some u9, some u14, some (V.int r16), some (V.int x42), some (V.int (((2 : Int) * (x42 + r57)) + (1 : Int))), w_0, w_1, w_2, w_3] ∧ Wd ms [ap] [] H_0 h_ ∧ Keep ms H61 h_) () (by simp) hM ⟨_, _, _, _, rfl, hW, Keep.refl⟩ ?_ ?_
        · skip
          rintro x62 s64 k65 _ H74 ⟨w70, w71, w72, w73, rfl, hW, hk66⟩ hM Nx68 hN69
          replace h2 := rep_keep hk66 h2
          replace h7 := rep_keep hk66 h7
          replace h12 := rep_keep hk66 h12
          replace h34 := rep_keep hk66 h34
          replace hk46 := Keep.trans hk46 hk66
          obtain ⟨KB75, hM, hKKB75⟩ := hM
          refine ⟨fun v H1 => ∃ r : Int, KB75 r ∧ Wd ms [ap] [] H_0 H1 ∧ Keep ms H74 H1 ∧ rep ms H1 (D.v (V.int r)) v, ?_, ?_⟩
          · skip
            have hj77 := Keep.refl (ms := ms) (H := H74)
            refine ⟨_, rfl, ?_⟩
            refine ⟨ms, ap, (3 : Int), _, rfl, hW.enterP, hM, fun r78 u81 H82 hM e80 h79 => ?_⟩
            replace h2 := rep_ret hW e80 h2
            replace h7 := rep_ret hW e80 h7
            replace h12 := rep_ret hW e80 h12
            replace h34 := rep_ret hW e80 h34
            replace hk46 := keep_ret hW e80 hk46
            replace hk66 := keep_ret hW e80 hk66
            replace hj77 := keep_ret hW e80 hj77
            replace hW := hW.retP e80
            obtain rfl := of_v h79
            refine ⟨rfl, ?_⟩
            refine ⟨_, rfl, ?_⟩
            refine ite3 hM (fun hM => ?_) (fun hM => ?_)
            · skip
              refine ⟨_, rfl, ?_⟩
              refine ⟨_, rfl, ?_⟩
              apply rep_ixT 0 h2 rfl rfl
              intro u84 h83
              obtain rfl := of_v h83
              refine ⟨_, rfl, ?_⟩
              obtain ⟨g85, hM⟩ := hM
              refine ⟨_, _, rfl, rfl, g85, ?_⟩
              exact ⟨((((2 : Int) * (x42 + r57)) + (1 : Int)) * (if r1.1 < 0 then -r1.1 else r1.1)), hM, hW, hj77, rep_v⟩
            · skip
              refine ⟨_, rfl, ?_⟩
              exact ⟨(((2 : Int) * (x42 + r57)) + (1 : Int)), hM, hW, hj77, rep_v⟩
          · skip
            rintro u88 Hj76 ⟨r86, hr, hW, hj77, h87⟩
            replace hM := hKKB75 r86 hr
            replace h2 := rep_keep hj77 h2
            replace h7 := rep_keep hj77 h7
            replace h12 := rep_keep hj77 h12
            replace h34 := rep_keep hj77 h34
            replace hk46 := Keep.trans hk46 hj77
            replace hk66 := Keep.trans hk66 hj77
            obtain rfl := of_v h87
            refine ⟨_, rfl, ?_⟩
            refine ⟨_, _, rfl, rfl, ?_⟩
            refine ⟨_, rfl, ?_⟩
            refine ⟨_, _, rfl, rfl, (by show (0 : Int) < (2 : Int); decide), ?_⟩
            refine ⟨_, _, rfl, rfl, ?_⟩
            refine ⟨_, rfl, ?_⟩
            refine ⟨_, rfl, ?_⟩
            refine ⟨_, rfl, ?_⟩
            refine ⟨_, _, rfl, rfl, ?_⟩
            refine ⟨_, rfl, ?_⟩
            refine ⟨_, rfl, ?_⟩
            refine ⟨ms, ap, ((r86 + (1 : Int)) - (r86 % (2 : Int))), _, rfl, hW.enterP, hM, fun r89 u92 H93 hM e91 h90 => ?_⟩
            replace h2 := rep_ret hW e91 h2
            replace h7 := rep_ret hW e91 h7
            replace h12 := rep_ret hW e91 h12
            replace h34 := rep_ret hW e91 h34
            replace hk46 := keep_ret hW e91 hk46
            replace hk66 := keep_ret hW e91 hk66
            replace hW := hW.retP e91
            obtain rfl := of_v h90
            refine ⟨_, rfl, ?_⟩
            refine ⟨_, _, rfl, rfl, ⟨by decide, by decide, by decide⟩, ?_⟩
            refine ⟨ms, ap, ((10 : Int) ^ Int.toNat (5 : Int)), _, rfl, hW.enterP, hM, fun r94 u97 H98 hM e96 h95 => ?_⟩
            replace h2 := rep_ret hW e96 h2
            replace h7 := rep_ret hW e96 h7
            replace h12 := rep_ret hW e96 h12
            replace h34 := rep_ret hW e96 h34
            replace hk46 := keep_ret hW e96 hk46
            replace hk66 := keep_ret hW e96 hk66
            replace hW := hW.retP e96
            obtain rfl := of_v h95
            refine ⟨_, rfl, ?_⟩
            obtain ⟨g99, hM⟩ := hM
            refine ⟨_, _, rfl, rfl, g99, ?_⟩
            refine ⟨(by show 5 ≤ sizeLine; decide), ?_⟩
            intro p100 n104
            have e101 := Rx.Ext.new (H := H98) (o := (HO.lst [V.int ((r86 + (1 : Int)) - (r86 % (2 : Int))), V.int (0 : Int), V.int (((r86 + (1 : Int)) - (r86 % (2 : Int))) - (1 : Int)), V.int r89, V.int (r94 % ((r86 + (1 : Int)) - (r86 % (2 : Int))))])) n104
            have hp102 : upd H98 p100 (HO.lst [V.int ((r86 + (1 : Int)) - (r86 % (2 : Int))), V.int (0 : Int), V.int (((r86 + (1 : Int)) - (r86 % (2 : Int))) - (1 : Int)), V.int r89, V.int (r94 % ((r86 + (1 : Int)) - (r86 % (2 : Int))))]) p100 = some (HO.lst [V.int ((r86 + (1 : Int)) - (r86 % (2 : Int))), V.int (0 : Int), V.int (((r86 + (1 : Int)) - (r86 % (2 : Int))) - (1 : Int)), V.int r89, V.int (r94 % ((r86 + (1 : Int)) - (r86 % (2 : Int))))]) := upd_same
            generalize upd H98 p100 (HO.lst [V.int ((r86 + (1 : Int)) - (r86 % (2 : Int))), V.int (0 : Int), V.int (((r86 + (1 : Int)) - (r86 % (2 : Int))) - (1 : Int)), V.int r89, V.int (r94 % ((r86 + (1 : Int)) - (r86 % (2 : Int))))]) = H105 at e101 hp102 ⊢
            have h103 : rep ms H105 (D.lst (([((r86 + (1 : Int)) - (r86 % (2 : Int))), (0 : Int), (((r86 + (1 : Int)) - (r86 % (2 : Int))) - (1 : Int)), r89, (r94 % ((r86 + (1 : Int)) - (r86 % (2 : Int))))] : List Int).map (fun y_ : Int => (D.v (V.int y_))))) (.ref p100) := rep_lst_mk hW n104 e101 hp102 (repL_cons rep_v (repL_cons rep_v (repL_cons rep_v (repL_cons rep_v (repL_cons rep_v repL_nil)))))
            replace h2 := rep_ext e101 h2
            replace h7 := rep_ext e101 h7
            replace h12 := rep_ext e101 h12
            replace h34 := rep_ext e101 h34
            replace hk46 := keep_ext e101 hk46
            replace hk66 := keep_ext e101 hk66
            replace hW := hW.ret0 e101
            refine ⟨ms, ap, _, ([((r86 + (1 : Int)) - (r86 % (2 : Int))), (0 : Int), (((r86 + (1 : Int)) - (r86 % (2 : Int))) - (1 : Int)), r89, (r94 % ((r86 + (1 : Int)) - (r86 % (2 : Int))))] : List Int), _, rfl, hW.enterP, h103, hM, fun r106 u109 H110 hM e108 h107 => ?_⟩
            replace h2 := rep_ret hW e108 h2
            replace h7 := rep_ret hW e108 h7
            replace h12 := rep_ret hW e108 h12
            replace h34 := rep_ret hW e108 h34
            replace hk46 := keep_ret hW e108 hk46
            replace hk66 := keep_ret hW e108 hk66
            replace h103 := rep_ret hW e108 h103
            replace hW := hW.retP e108
            obtain rfl := of_v h107
            refine ⟨_, rfl, ?_⟩
            refine ⟨_, _, rfl, rfl, ?_⟩
            refine ⟨_, rfl, ?_⟩
            refine ⟨_, rfl, ?_⟩
            refine ⟨ms, ap, ((r86 + (1 : Int)) - (r86 % (2 : Int))), _, rfl, hW.enterP, hM, fun r111 u114 H115 hM e113 h112 => ?_⟩
            replace h2 := rep_ret hW e113 h2
            replace h7 := rep_ret hW e113 h7
            replace h12 := rep_ret hW e113 h12
            replace h34 := rep_ret hW e113 h34
            replace hk46 := keep_ret hW e113 hk46
            replace hk66 := keep_ret hW e113 hk66
            replace h103 := rep_ret hW e113 h103
            replace hW := hW.retP e113
            obtain rfl := of_v h112
            refine ⟨_, _, rfl, rfl, ?_⟩
            refine ⟨_, rfl, ?_⟩
            refine ⟨_, _, rfl, rfl, ?_⟩
            obtain ⟨g116, hM⟩ := hM
            refine ⟨_, _, rfl, rfl, g116, ?_⟩
            refine ⟨_, rfl, ?_⟩
            refine ⟨_, rfl, ?_⟩
            refine ⟨_, rfl, ?_⟩
            refine ⟨_, rfl, ?_⟩
            refine ⟨_, rfl, ?_⟩
            refine ⟨_, rfl, ?_⟩
            refine ⟨ms, _, _, _, r1, r11, ((r86 + (1 : Int)) - (r86 % (2 : Int))), r6, r106, (((r106 + (1 : Int)) + r111) % (((r86 + (1 : Int)) - (r86 % (2 : Int))) + (1 : Int))), _, rfl, hW.enter0, h2, h12, h7, hM, fun r117 u120 H121 hM e119 h118 => ?_⟩
            replace h2 := rep_ext e119 h2
            replace h7 := rep_ext e119 h7
            replace h12 := rep_ext e119 h12
            replace h34 := rep_ext e119 h34
            replace hk46 := keep_ext e119 hk46
            replace hk66 := keep_ext e119 hk66
            replace h103 := rep_ext e119 h103
            replace hW := hW.ret0 e119
            obtain rfl := of_v h118
            refine ⟨_, rfl, ?_⟩
            refine ite3 hM (fun hM => ?_) (fun hM => ?_)
            · skip
              exact hQ false _ _ hM hW.out rep_v
            · skip
              exact hN69 () _ _ hM ⟨_, _, _, _, rfl, hW, hk66⟩
        · skip
          rintro s122 _ H128 hM ⟨w124, w125, w126, w127, rfl, hW, hk123⟩
          replace h2 := rep_keep hk123 h2
          replace h7 := rep_keep hk123 h7
          replace h12 := rep_keep hk123 h12
          replace h34 := rep_keep hk123 h34
          replace hk46 := Keep.trans hk46 hk123
          exact hN49 () _ _ hM ⟨_, _, _, _, _, _, rfl, hW, hk46⟩
      · skip
        rintro s129 _ H137 hM ⟨w131, w132, w133, w134, w135, w136, rfl, hW, hk130⟩
        replace h2 := rep_keep hk130 h2
        replace h7 := rep_keep hk130 h7
        replace h12 := rep_keep hk130 h12
        replace h34 := rep_keep hk130 h34
        exact hQ true _ _ hM hW.out rep_v
/-! ### the pot of a cell, and the law -/
def sp_pot (K : PySem.W.Frag) : Sp := fun vs H Q _ => ∃ (a : Addr) (ns : List Int) (k : Int), vs = [.ref a, .int k] ∧ SqL K H a (ns.map V.int) ∧ ns.length ≤ 63 ∧ 0 ≤ k ∧ k ≤ 100 ∧
  ∀ (p : Addr) (H1 : Hp) (i j : Int), H p = none → Rx.Ext H H1 → H1 p = some (.lst [.int i, .int j]) → j.natAbs < 4294967296 → Q (.ref p) H1
theorem ok_pot {P : Program} {w : World} {K : PySem.W.Frag} {mg : Str → Option Value} {base : Heap} {A : Ad} (T : Txt w K mg A) : FnOk P w K mg base CX0 1 A.a_pot A.d_pot ["_law_script", "_law_k"] (sp_pot K) := by
  refine T.F_pot.ok sc_pot (fun vs H Q E h => ?_) (fun cdv A_ outer s_ H_0 vs Q E hr h => ?_)
  · obtain ⟨a, ns, k, rfl, _⟩ := h
    rfl
  · obtain ⟨a, ns, k, rfl, hS, hl, k0, k1, hQ⟩ := h
    refine ⟨_, pss_cons (ps_set (i := 2) sc_pot.nd rfl (.inl rfl) (pe_op op_add (pe_op op_mul pe_int (pv 1)) pe_int))
      (pss_cons (ps_if (pt_cmpR op_lt (pv 1) (pe_callB call_len (by rfl) T.z_len PySem.boot_len (pa_cons (pv 0) pa_nil)) (nomark _))
        (pss_one (ps_set (i := 2) sc_pot.nd rfl (.inl rfl) (pe_callB call_abs (by rfl) T.z_abs (by decide +kernel) (pa_cons (pe_ix ix_list (pv 0) (pv 1) (fun _ _ => rfl)) pa_nil)))) pss_nil)
      (pss_one (ps_ret (pe_lst (pa_cons (pe_callB (call_max2 rfl) (by rfl) T.z_max (by decide +kernel) (pa_cons pe_int (pa_cons (pe_op op_sub (pv 2) (pe_op op_pow pe_int pe_int)) pa_nil)))
        (pa_cons (pe_op op_add (pe_op op_mod (pe_callTy call_int1 (by rfl) T.z_int (by decide +kernel) (pa_cons (pe_op op_add (pe_op op_add (pe_op op_mul (pe_op op_mod (pe_callTy call_int1 (by rfl) T.z_int (by decide +kernel) (pa_cons (pv 2) pa_nil)) pe_int) pe_int) (pe_op op_mul pe_int (pv 1))) pe_int) pa_nil)) pe_int) pe_int) pa_nil)))))), ?_⟩
    refine ⟨_, rfl, _, _, rfl, rfl, .inl ⟨by decide, by decide⟩, _, _, rfl, rfl, ?_⟩
    refine ⟨_, rfl, _, rfl, _, ns.length, rfl, .inl ⟨_, hS, by rw [List.length_map]⟩, _, _, rfl, rfl, _, rfl, ?_⟩
    have fin : ∀ (c : Int) (p : Addr), H_0 p = none → Q (.ref p) (upd H_0 p (.lst [.int (if c - 10 ^ Int.toNat 18 > 0 then c - 10 ^ Int.toNat 18 else 0), .int ((c % 2147483549 * 40111 + 7853 * k + 7) % 2147483477 + 1)])) := fun c p np =>
      hQ p _ _ _ np (Rx.Ext.new np) upd_same (by omega)
    refine ite2 (fun c => ?_) (fun c => ?_)
    · have hk : k.toNat < ns.length := by
        have := of_decide_eq_true c
        omega
      refine ⟨_, rfl, _, rfl, a, _, k, .int (ns[k.toNat]), rfl, rfl, hS, at_of (j := k.toNat) (by omega) (by rw [List.getElem?_map, List.getElem?_eq_getElem hk]; rfl), _, rfl, ?_⟩
      refine ⟨_, rfl, _, _, rfl, rfl, ⟨by decide, by decide, by decide⟩, _, _, rfl, rfl, _, _, rfl, _, rfl, .inl ⟨_, rfl, _, _, rfl, rfl, (by show (0 : Int) < 2147483549; decide), _, _, rfl, rfl, .inr ⟨by decide, by decide⟩, _, rfl, _, _, rfl, rfl, .inl ⟨by decide, by decide⟩, _, _, rfl, rfl, _, _, rfl, rfl, .inl ⟨_, rfl, _, _, rfl, rfl, (by show (0 : Int) < 2147483477; decide), _, _, rfl, rfl, (by show 2 ≤ sizeLine; decide), fun p np => fin _ p np⟩⟩⟩
    · refine ⟨_, rfl, _, _, rfl, rfl, ⟨by decide, by decide, by decide⟩, _, _, rfl, rfl, _, _, rfl, _, rfl, .inl ⟨_, rfl, _, _, rfl, rfl, (by show (0 : Int) < 2147483549; decide), _, _, rfl, rfl, .inr ⟨by decide, by decide⟩, _, rfl, _, _, rfl, rfl, .inl ⟨by decide, by decide⟩, _, _, rfl, rfl, _, _, rfl, rfl, .inl ⟨_, rfl, _, _, rfl, rfl, (by show (0 : Int) < 2147483477; decide), _, _, rfl, rfl, (by show 2 ≤ sizeLine; decide), fun p np => fin _ p np⟩⟩⟩

open Wm
/-! ### words: what the mirrors ask -/
open Wm
structure WV (w : Str × Str × Str) : Prop where
  h4 : (L w.1).length ≤ 4
  m1 : 1 ≤ (L w.2.1).length
  m4 : (L w.2.1).length ≤ 4
  t4 : (L w.2.2).length ≤ 4
  mh : ∀ c ∈ L w.1, c = 104 ∨ c = 97
  mm : ∀ c ∈ L w.2.1, c = 104 ∨ c = 97
  mt : ∀ c ∈ L w.2.2, c = 104 ∨ c = 97
theorem line_of {z : Str} {n : Nat} (h : (L z).length ≤ n) (hn : n ≤ 100000) : z.length ≤ sizeLine := by
  rw [len_L]
  exact Nat.le_trans h (Nat.le_trans hn (by decide))
theorem line4 {z : Str} (h : (L z).length ≤ 4) : z.length ≤ sizeLine := line_of h (by decide)
def lst (w : Str × Str × Str) : Int := if ((L w.1).length : Int) + (L w.2.2).length > 1 then ((L w.1).length : Int) + (L w.2.2).length else 1
theorem lst_ge {w : Str × Str × Str} : ((L w.1).length : Int) + (L w.2.2).length ≤ lst w ∧ 1 ≤ lst w := by
  unfold lst
  split <;> omega
theorem lst_le {w : Str × Str × Str} (hw : WV w) : lst w ≤ 8 := by
  have := hw.h4
  have := hw.t4
  unfold lst
  split <;> omega
theorem wleast_ok {w : Str × Str × Str} (hw : WV w) {k : Int → Prop} (q : k (lst w)) : M_Word_least w k := by
  unfold M_Word_least
  refine ⟨line4 hw.h4, line4 hw.t4, ?_⟩
  rw [len_L, len_L]
  exact q
abbrev rw_ (w : Str × Str × Str) (n : Int) : List Nat := row (L w.1) (L w.2.1) (L w.2.2) n.toNat
theorem rw_len {w : Str × Str × Str} {n : Int} (hn : lst w ≤ n) : (rw_ w n).length = n.toNat := row_len (by
  have := @lst_ge w
  omega)
theorem at_nat' {α : Type} {xs : List α} {i : Int} {c : α} (h0 : 0 ≤ i) (h : xs[i.toNat]? = some c) : atI xs i = some c := by
  rw [show i = ((i.toNat : Nat) : Int) by omega]
  exact atI_nat h
theorem emod_nat {x : Int} {n : Nat} (h : 0 ≤ x) : (x % (n : Int)).toNat = x.toNat % n := by
  have e : x = (x.toNat : Int) := by omega
  have : x % (n : Int) = ((x.toNat % n : Nat) : Int) := by rw [Int.natCast_emod, ← e]
  rw [this]
  rfl
theorem cm3 {i j : Int} {a : Nat} (ha : i.natAbs < 2 ^ a) (h0 : 0 < a) (hj : j.natAbs < 2 ^ 4) (h : a ≤ 1000) : CMulW i j := wide_mul ha hj h0 (by decide) (by omega)
theorem nat_lt_200 {i : Int} (h0 : 0 ≤ i) (h : i ≤ 10 ^ 60 + 1000) : i.natAbs < 2 ^ 201 := by
  have e : (10 : Int) ^ 60 + 1000 < 2 ^ 201 := by decide
  have e2 : ((2 ^ 201 : Nat) : Int) = (2 : Int) ^ 201 := by decide
  omega
theorem log_lt {n : Int} {b : Nat} (h0 : 0 < n) (h1 : n < 2 ^ b) (hb : b ≤ 9000) (hp : 0 < b) : Nat.log2 n.natAbs < 9000 := by
  have : n.natAbs < 2 ^ b := by
    have e : ((2 ^ b : Nat) : Int) = (2 : Int) ^ b := by norm_cast
    omega
  exact Nat.lt_of_lt_of_le (PySem.Flt.log2_lt_of hp this) hb
theorem draw_ok {n : Int} {k : Int → Prop} (h0 : 0 < n) (h1 : n < 1073741824) (q : ∀ d, 0 ≤ d → d < n → k d) : M_draw n k := ⟨⟨h0, log_lt (b := 30) h0 h1 (by decide) (by decide)⟩, q⟩
theorem str1 (c : Nat) : (Str.mk #[c]).length = 1 := rfl
theorem word_ok {w : Str × Str × Str} (hw : WV w) : M_Word_init w.1 w.2.1 w.2.2 := by
  have one : ∀ {z : Str} {k : Unit → Prop}, (L z).length ≤ 4 → (∀ c ∈ L z, c = 104 ∨ c = 97) → k () → M_check_part z k := fun {z k} h4 hm q => by
    unfold M_check_part M_is_marks
    refine ⟨line4 h4, ?_⟩
    rw [count_h, count_a, marks_all _ hm, len_L]
    show (if (!decide (V.int _ = V.int _)) = true then _ else _)
    rw [if_neg (by simp)]
    refine ⟨line4 h4, ?_⟩
    rw [if_neg (by simp only [decide_eq_true_eq]; omega)]
    exact q
  unfold M_Word_init
  refine one hw.h4 hw.mh (one hw.m4 hw.mm ?_)
  rw [if_neg]
  · exact one hw.t4 hw.mt trivial
  · rw [eqS, L_empty]
    have := hw.m1
    simp
    intro z
    rw [show L w.2.1 = [] from by rw [L, z]] at this
    simp at this
def standers : List Str := ["home", "away", "even", "odd"]
theorem stander_in {s : Str} (h : s ∈ standers) : ∃ c, wd_CONTRARY_STANDERS.lookup s = some c := by
  simp only [standers, List.mem_cons, List.not_mem_nil, or_false] at h
  rcases h with rfl | rfl | rfl | rfl
  · exact ⟨"away", by decide +kernel⟩
  · exact ⟨"home", by decide +kernel⟩
  · exact ⟨"odd", by decide +kernel⟩
  · exact ⟨"even", by decide +kernel⟩
theorem rinit_ok {st : Int} {w : Str × Str × Str} {s : Str} {t : Bool} (h0 : st ≠ 0) (h7 : st.natAbs ≤ 7) (hs : s ∈ standers) {k : Int × (Str × Str × Str) × Str × Bool → Prop} (q : k (st, w, s, t)) : M_Rule_init st w s t k := by
  obtain ⟨c, hc⟩ := stander_in hs
  unfold M_Rule_init M_is_integer
  have a : (if st < 0 then -st else st) ≤ 7 := by split <;> omega
  show if (!(!false)) = true then False else _
  rw [if_neg (show ¬ (!(!false)) = true by decide), if_neg (show ¬ decide (V.int st = V.int 0) = true by simpa using h0), if_neg (show ¬ decide (7 < (if st < 0 then -st else st)) = true by simpa using a)]
  exact ⟨c, hc, q⟩
/-! ### rules: what the mirrors ask -/
abbrev RT := Int × (Str × Str × Str) × Str × Bool
structure RV (x : RT) : Prop where
  s0 : x.1 ≠ 0
  s7 : x.1.natAbs ≤ 7
  w : WV x.2.1
  st : x.2.2.1 ∈ standers
theorem pick_ok {xs : List Int} (h0 : 0 < xs.length) (h1 : xs.length < 1073741824) {k : Int → Prop} (q : ∀ x ∈ xs, k x) : M_pick xs k := by
  unfold M_pick
  exact draw_ok (by omega) (by omega) fun d d0 d1 => ⟨d0, by omega, fun x hx => q x (by rw [hx]; exact List.getElem_mem _)⟩
theorem pickS_ok {xs : List Str} (h0 : 0 < xs.length) (h1 : xs.length < 1073741824) {k : Str → Prop} (q : ∀ x ∈ xs, k x) : M_pick_pls xs k := by
  unfold M_pick_pls
  exact draw_ok (by omega) (by omega) fun d d0 d1 => ⟨d0, by omega, fun x hx => q x (by rw [hx]; exact List.getElem_mem _)⟩
theorem rleast_ok {r : RT} (hw : WV r.2.1) {k : Int → Prop} (q : k (2 * lst r.2.1 + 2)) : M_Rule_least_size r k := by
  unfold M_Rule_least_size
  exact wleast_ok hw q
theorem issize_ok {r : RT} {n : Int} (hw : WV r.2.1) (h : 2 * lst r.2.1 + 2 ≤ n) (e : n % 2 = 0) {k : Bool → Prop} (q : k true) : M_is_size r n k := by
  unfold M_is_size M_is_integer
  show if (!false) = true then _ else _
  rw [if_pos (show (!false) = true from rfl)]
  refine rleast_ok hw ?_
  rw [if_pos (decide_eq_true h), e]
  exact q
theorem chksize_ok {r : RT} {n : Int} (hw : WV r.2.1) (h : 2 * lst r.2.1 + 2 ≤ n) (e : n % 2 = 0) {k : Unit → Prop} (q : k ()) : M_check_size r n k := by
  unfold M_check_size
  exact issize_ok hw h e q
theorem chkteam_ok {t n : Int} (h0 : 0 ≤ t) (h1 : t < n) {k : Unit → Prop} (q : k ()) : M_check_team t n k := by
  unfold M_check_team M_is_count M_is_integer
  show if (!false) = true then _ else _
  rw [if_pos (show (!false) = true from rfl), decide_eq_true h0]
  show if (!true) = true then False else _
  rw [if_neg (by decide), if_neg (by simp only [decide_eq_true_eq]; omega)]
  exact q
theorem eqI' {a b : Int} : (decide (V.int a = V.int b) = true) = (a = b) := by
  rw [eqI, decide_eq_true_eq]
theorem chkpair_ok {a b n : Int} (a0 : 0 ≤ a) (a1 : a < n) (b0 : 0 ≤ b) (b1 : b < n) (ab : a ≠ b) {k : Unit → Prop} (q : k ()) : M_check_pair a b n k := by
  unfold M_check_pair
  refine chkteam_ok a0 a1 (chkteam_ok b0 b1 ?_)
  rw [if_neg (by rw [eqI']; exact ab)]
  exact q
theorem memL37 {lo hi n : Int} (h1 : lo ≤ n) (h2 : n < hi) : n ∈ rangeI lo hi := by
  unfold rangeI
  rw [List.mem_map]
  exact ⟨(n - lo).toNat, List.mem_range.mpr (by omega), by omega⟩
/-! ### the rounds in which a place is reached -/
def restL (step places ring : Int) : Int := if 0 < step then places % ring else (-places) % ring
/-- the goals: what is divided by the steps -/
def roundsL (step places ring : Int) : List Int :=
  ((rangeI 0 (step.natAbs : Int)).map fun lap => restL step places ring + ring * lap).filterMap fun g => if g % (step.natAbs : Int) = 0 then some (g / (step.natAbs : Int)) else none
theorem absN (x : Int) : (if x < 0 then -x else x) = (x.natAbs : Int) := by split <;> omega
theorem roundsat_ok {step places ring : Int} (s0 : step ≠ 0) (s7 : step.natAbs ≤ 14) (r0 : 0 < ring) (rb : ring.natAbs < 2 ^ 900) {k : List Int → Prop} (q : k (roundsL step places ring)) : M_rounds_at step places ring k := by
  unfold M_rounds_at
  simp only [absN]
  refine ⟨fun v => v = restL step places ring, ?_, fun rest hr => ?_⟩
  · unfold restL
    by_cases c : 0 < step
    · rw [if_pos (decide_eq_true c), if_pos c]
      exact ⟨r0, rfl⟩
    · rw [if_neg (by simpa using c), if_neg c]
      exact ⟨r0, rfl⟩
  · unfold roundsL at q
    rw [← hr] at q
    refine ⟨by rw [rangeI_len]; omega, mapC_ok (fun lap => rest + ring * lap) (fun x hx k' hk => ?_) ?_⟩
    · obtain ⟨x1, x2⟩ := rangeI_mem hx
      exact ⟨cm3 rb (by decide) (by omega) (by decide), hk⟩
    · rw [List.nil_append]
      refine ⟨by rw [List.length_map, rangeI_len]; omega, filC_ok (fun g => if g % (step.natAbs : Int) = 0 then some (g / (step.natAbs : Int)) else none) (fun x hx k' hk => ?_) ?_⟩
      · refine ⟨by omega, ?_⟩
        by_cases c : x % (step.natAbs : Int) = 0
        · rw [if_pos (by rw [eqI']; exact c)]
          rw [if_pos c] at hk
          exact ⟨wide_div (b := 4) (by omega) (by omega) (by decide) (by decide), hk⟩
        · rw [if_neg (by rw [eqI']; exact c)]
          rw [if_neg c] at hk
          exact hk
      · rw [List.nil_append]
        exact q
theorem restL_b {step places ring : Int} (r0 : 0 < ring) : 0 ≤ restL step places ring ∧ restL step places ring < ring := by
  unfold restL
  split
  · exact ⟨Int.emod_nonneg _ (by omega), Int.emod_lt_of_pos _ r0⟩
  · exact ⟨Int.emod_nonneg _ (by omega), Int.emod_lt_of_pos _ r0⟩
theorem restL_dvd {step places ring r : Int} (s0 : step ≠ 0) : ring ∣ (step.natAbs : Int) * r - restL step places ring ↔ ring ∣ places - step * r := by
  unfold restL
  by_cases c : 0 < step
  · rw [if_pos c, show ((step.natAbs : Nat) : Int) = step by omega]
    have e : step * r - places % ring = -(places - step * r) + ring * (places / ring) := by
      have := Int.emod_add_mul_ediv places ring
      omega
    rw [e]
    constructor
    · intro h
      have := Int.dvd_sub h (Int.dvd_mul_right ring (places / ring))
      rw [show -(places - step * r) + ring * (places / ring) - ring * (places / ring) = -(places - step * r) by omega] at this
      exact Int.dvd_neg.mp this
    · intro h
      exact Int.dvd_add (Int.dvd_neg.mpr h) (Int.dvd_mul_right _ _)
  · rw [if_neg c, show ((step.natAbs : Nat) : Int) = -step by omega]
    have e : -step * r - (-places) % ring = (places - step * r) + ring * ((-places) / ring) := by
      have := Int.emod_add_mul_ediv (-places) ring
      rw [Int.neg_mul]
      omega
    rw [e]
    constructor
    · intro h
      have := Int.dvd_sub h (Int.dvd_mul_right ring ((-places) / ring))
      rw [show (places - step * r) + ring * ((-places) / ring) - ring * ((-places) / ring) = (places - step * r) by omega] at this
      exact this
    · intro h
      exact Int.dvd_add h (Int.dvd_mul_right _ _)
theorem rounds_mem {step places ring r : Int} (s0 : step ≠ 0) (r0 : 0 < ring) : r ∈ roundsL step places ring ↔ 0 ≤ r ∧ r < ring ∧ ring ∣ places - step * r := by
  have sp : 0 < (step.natAbs : Int) := by omega
  obtain ⟨b0, b1⟩ := @restL_b step places ring r0
  rw [← restL_dvd s0]
  unfold roundsL
  rw [List.mem_filterMap]
  constructor
  · rintro ⟨g, hg, e⟩
    rw [List.mem_map] at hg
    obtain ⟨lap, hl, rfl⟩ := hg
    obtain ⟨l0, l1⟩ := rangeI_mem hl
    split at e
    · rename_i c
      have e' : (restL step places ring + ring * lap) / (step.natAbs : Int) = r := by simpa using e
      have m : (step.natAbs : Int) * r = restL step places ring + ring * lap := by
        have := Int.emod_add_mul_ediv (restL step places ring + ring * lap) (step.natAbs : Int)
        rw [c, e'] at this
        omega
      have n0 : 0 ≤ ring * lap := Int.mul_nonneg (by omega) l0
      have n1 : ring * lap ≤ ring * ((step.natAbs : Int) - 1) := Int.mul_le_mul_of_nonneg_left (by omega) (by omega)
      have n2 : ring * ((step.natAbs : Int) - 1) = (step.natAbs : Int) * ring - ring := by rw [Int.mul_sub, Int.mul_one, Int.mul_comm]
      refine ⟨?_, ?_, ⟨lap, by omega⟩⟩
      · exact Int.not_lt.mp fun z => by
          have := Int.mul_neg_of_pos_of_neg sp z
          omega
      · exact Int.lt_of_mul_lt_mul_left (a := (step.natAbs : Int)) (by omega) (by omega)
    · cases e
  · rintro ⟨h0, h1, ⟨lap, hl⟩⟩
    have m : (step.natAbs : Int) * r = restL step places ring + ring * lap := by omega
    have l0 : 0 ≤ lap := Int.not_lt.mp fun z => by
      have a : ring * lap ≤ ring * (-1) := Int.mul_le_mul_of_nonneg_left (by omega) (by omega)
      have b : 0 ≤ (step.natAbs : Int) * r := Int.mul_nonneg (by omega) h0
      omega
    have l1 : lap < (step.natAbs : Int) := Int.not_le.mp fun z => by
      have a : ring * (step.natAbs : Int) ≤ ring * lap := Int.mul_le_mul_of_nonneg_left z (by omega)
      have b : (step.natAbs : Int) * r < (step.natAbs : Int) * ring := Int.mul_lt_mul_of_pos_left h1 sp
      rw [Int.mul_comm ring] at a
      omega
    refine ⟨(step.natAbs : Int) * r, List.mem_map.mpr ⟨lap, memL37 l0 l1, m.symm⟩, ?_⟩
    rw [if_pos (Int.mul_emod_right _ _), Int.mul_ediv_cancel_left _ (by omega)]
theorem filMap_len {α β : Type} (p : α → Prop) [DecidablePred p] (f : α → β) : ∀ l : List α, (l.filterMap fun a => if p a then some (f a) else none).length = l.countP (fun a => decide (p a))
  | [] => rfl
  | a :: l => by
    rw [List.filterMap_cons, List.countP_cons, ← filMap_len p f l]
    by_cases c : p a
    · rw [if_pos c, if_pos (decide_eq_true c), List.length_cons]
    · rw [if_neg c, if_neg (by simpa using c), Nat.add_zero]
theorem finG : ((List.range 8).all fun t => (List.range t).all fun q => (List.range t).countP (fun lap => decide (q * lap % t = 0)) == Nat.gcd q t) = true := by decide +kernel
theorem rounds_zero {step ring : Int} (s0 : step ≠ 0) (s7 : step.natAbs ≤ 7) (r0 : 0 < ring) : (roundsL step 0 ring).length = Nat.gcd step.natAbs ring.natAbs := by
  unfold roundsL
  rw [filMap_len]
  have e0 : restL step 0 ring = 0 := by
    unfold restL
    split
    · exact Int.zero_emod _
    · rw [Int.neg_zero, Int.zero_emod]
  rw [e0, List.countP_map]
  unfold rangeI
  rw [List.countP_map, show (((step.natAbs : Nat) : Int) - 0).toNat = step.natAbs by omega]
  have tq : (ring % (step.natAbs : Int)).toNat < step.natAbs := by
    have := Int.emod_lt_of_pos ring (show 0 < (step.natAbs : Int) by omega)
    have := Int.emod_nonneg ring (show (step.natAbs : Int) ≠ 0 by omega)
    omega
  have h := eq_of_beq (List.all_eq_true.mp (List.all_eq_true.mp finG step.natAbs (List.mem_range.mpr (by omega))) _ (List.mem_range.mpr tq))
  have hr : ring.natAbs % step.natAbs = (ring % (step.natAbs : Int)).toNat := by
    have : ((ring.natAbs % step.natAbs : Nat) : Int) = ring % (step.natAbs : Int) := by rw [Int.natCast_emod, show ((ring.natAbs : Nat) : Int) = ring by omega]
    omega
  rw [Nat.gcd_rec step.natAbs ring.natAbs, hr, ← h]
  apply List.countP_congr
  intro lap _
  simp only [Function.comp, decide_eq_true_eq]
  have e1 : (0 + ring * (0 + (lap : Int))) % (step.natAbs : Int) = (((ring % (step.natAbs : Int)).toNat * lap % step.natAbs : Nat) : Int) := by
    rw [Int.zero_add, Int.zero_add, Int.mul_emod, Int.natCast_emod, Int.natCast_mul, Int.mul_emod ((ring % (step.natAbs : Int)).toNat : Int)]
    rw [show (((ring % (step.natAbs : Int)).toNat : Nat) : Int) = ring % (step.natAbs : Int) by
      have := Int.emod_nonneg ring (show (step.natAbs : Int) ≠ 0 by omega)
      omega, Int.emod_emod_of_dvd _ (Int.dvd_refl _)]
  rw [e1]
  omega
theorem rounds_none {step ring : Int} (s0 : step ≠ 0) (r0 : 0 < ring) (g : 1 < Nat.gcd step.natAbs ring.natAbs) : roundsL step 1 ring = [] := by
  rw [List.eq_nil_iff_forall_not_mem]
  intro r hr
  obtain ⟨_, _, d⟩ := (rounds_mem s0 r0).mp hr
  have d1 : ((Nat.gcd step.natAbs ring.natAbs : Nat) : Int) ∣ step := Int.ofNat_dvd_left.mpr (Nat.gcd_dvd_left _ _)
  have d2 : ((Nat.gcd step.natAbs ring.natAbs : Nat) : Int) ∣ ring := Int.ofNat_dvd_left.mpr (Nat.gcd_dvd_right _ _)
  have d3 : ((Nat.gcd step.natAbs ring.natAbs : Nat) : Int) ∣ 1 := by
    have := Int.dvd_add (Int.dvd_trans d2 d) (Int.dvd_mul_of_dvd_left (b := step) (c := r) d1)
    rw [show 1 - step * r + step * r = 1 by omega] at this
    exact this
  have := Int.le_of_dvd (by decide) d3
  omega
theorem checkp_ok {w : Str × Str × Str} (hw : WV w) {n : Int} (hn : lst w ≤ n) {k : Unit → Prop} (q : k ()) : M_check_places w n k := by
  unfold M_check_places M_is_integer
  show (if (!!false) = true then _ else _)
  rw [if_neg (by decide)]
  refine wleast_ok hw ?_
  rw [if_neg (by simpa using hn)]
  exact q
theorem mark_ok {w : Str × Str × Str} (hw : WV w) {n i : Int} (hn : lst w ≤ n) (h1 : 1 ≤ i) (h2 : i ≤ n) {k : Str → Prop} (q : ∀ c, (rw_ w n)[(i - 1).toNat]? = some c → k (Str.mk #[c])) : M_Word_mark w n i k := by
  have g := @lst_ge w
  have m1 := hw.m1
  unfold M_Word_mark
  refine checkp_ok hw hn ?_
  show M_is_integer _ _
  unfold M_is_integer
  show (if (!!false) = true then _ else _)
  rw [if_neg (by decide), if_neg (by simpa using h1), if_neg (by simpa using h2)]
  refine ⟨line4 hw.h4, ?_⟩
  have hlen := rw_len hn
  obtain ⟨c, hc⟩ : ∃ c, (rw_ w n)[(i - 1).toNat]? = some c := ⟨_, List.getElem?_eq_getElem (by omega)⟩
  have q' := q c hc
  by_cases b1 : i ≤ (L w.1).length
  · rw [if_pos (by rw [len_L]; simpa using b1)]
    refine ⟨line4 hw.h4, c, at_nat' (by omega) ?_, q'⟩
    rw [row_head (by omega)] at hc
    exact hc
  · rw [if_neg (by rw [len_L]; simpa using b1)]
    refine ⟨line4 hw.t4, ?_⟩
    by_cases b2 : n - (L w.2.2).length < i
    · rw [if_pos (by rw [len_L]; simpa using b2)]
      refine ⟨line4 hw.t4, c, at_nat' (by rw [len_L]; omega) ?_, q'⟩
      rw [row_tail (by omega) (by omega)] at hc
      rw [← hc]
      congr 1
      rw [len_L]
      omega
    · rw [if_neg (by rw [len_L]; simpa using b2)]
      refine ⟨line4 hw.h4, line4 hw.m4, (by rw [len_L]; omega), line4 hw.m4, c, at_nat' (Int.emod_nonneg _ (by rw [len_L]; omega)) ?_, q'⟩
      rw [row_mid (by omega) (by omega) (by omega) (by omega)] at hc
      rw [← hc]
      congr 1
      rw [len_L, len_L, emod_nat (by omega)]
      congr 1
      omega
theorem dec_true {p : Prop} [Decidable p] (h : p) : decide p = true := decide_eq_true h
def S (l : List Nat) : Str := ⟨l.toArray⟩
theorem L_S (l : List Nat) : L (S l) = l := L_mk l
theorem S_L (z : Str) : S (L z) = z := mk_L z
abbrev Mk (l : List Nat) : Prop := ∀ c ∈ l, c = 104 ∨ c = 97
def ctrc (c : Nat) : Nat := if c = 104 then 97 else 104
def ctrw (w : Str × Str × Str) : Str × Str × Str := (S ((L w.1).map ctrc), S ((L w.2.1).map ctrc), S ((L w.2.2).map ctrc))
theorem ctrc_mk (c : Nat) : ctrc c = 104 ∨ ctrc c = 97 := by
  unfold ctrc
  split
  · exact .inr rfl
  · exact .inl rfl
theorem ones_sum (l : List Nat) (f : Nat → Nat) : ((l.map fun c => (Str.mk #[f c])).map (·.length)).sum = l.length := by
  induction l with
  | nil => rfl
  | cons c l ih =>
    rw [List.map_cons, List.map_cons, List.sum_cons, ih, str1, List.length_cons]
    omega
theorem ones_join (l : List Nat) (f : Nat → Nat) : L (Txt.join ("" : Str) (l.map fun c => (Str.mk #[f c]))) = l.map f := by
  rw [join_L]
  induction l with
  | nil => rfl
  | cons c l ih =>
    rw [List.map_cons, List.map_cons, List.flatten_cons, L_one, ih]
    rfl
theorem cmarks_ok {z : Str} (h4 : (L z).length ≤ 1000) (hm : Mk (L z)) {k : Str → Prop} (q : k (S ((L z).map ctrc))) : M_contrary_marks z k := by
  unfold M_contrary_marks
  refine ⟨by rw [signs_len]; have : z.cps.size = (L z).length := len_L z; omega, ?_⟩
  refine mapC_ok (fun x : Str => Str.mk #[ctrc (x.cps.getD 0 0)]) (fun x hx k' hk => ?_) ?_
  · obtain ⟨c, hc, rfl⟩ := List.mem_map.mp hx
    rcases hm c hc with rfl | rfl
    · exact ⟨("a" : Str), by decide +kernel, by rw [a_mk]; exact hk⟩
    · exact ⟨("h" : Str), by decide +kernel, by rw [h_mk]; exact hk⟩
  · rw [List.nil_append]
    have e : (Rx.signs z).map (fun x : Str => Str.mk #[ctrc (x.cps.getD 0 0)]) = (L z).map fun c => Str.mk #[ctrc c] := by
      unfold Rx.signs
      rw [List.map_map]
      rfl
    rw [e]
    refine ⟨?_, ?_⟩
    · rw [ones_sum, List.length_map, len_L, L_empty]
      simp only [List.length_nil]
      omega
    · rw [show Txt.join ("" : Str) ((L z).map fun c => Str.mk #[ctrc c]) = S ((L z).map ctrc) from L_ext (by rw [ones_join, L_S])]
      exact q
theorem ctrw_wv {w : Str × Str × Str} (hw : WV w) : WV (ctrw w) := by
  have mk : ∀ l : List Nat, Mk (l.map ctrc) := fun l c hc => by
    obtain ⟨x, _, e⟩ := List.mem_map.mp hc
    rw [← e]
    exact ctrc_mk x
  refine ⟨?_, ?_, ?_, ?_, ?_, ?_, ?_⟩ <;> unfold ctrw <;> simp only [L_S, List.length_map]
  · exact hw.h4
  · exact hw.m1
  · exact hw.m4
  · exact hw.t4
  · exact mk _
  · exact mk _
  · exact mk _
theorem ctrw_lst (w : Str × Str × Str) : lst (ctrw w) = lst w := by
  unfold lst ctrw
  simp only [L_S, List.length_map]
theorem cyc_map (f : Nat → Nat) {m : List Nat} (hm : 0 < m.length) (k : Nat) : cyc (m.map f) k = (cyc m k).map f := by
  apply List.ext_getElem?
  intro j
  rw [List.getElem?_map]
  by_cases h : j < k
  · rw [cyc_get' (by rw [List.length_map]; exact hm) h, cyc_get' hm h, List.getElem?_map, List.length_map]
  · rw [List.getElem?_eq_none (by rw [cyc_len]; omega), List.getElem?_eq_none (by rw [cyc_len]; omega)]
    rfl
theorem ctrw_row {w : Str × Str × Str} (hw : WV w) (n : Int) : rw_ (ctrw w) n = (rw_ w n).map ctrc := by
  unfold rw_ ctrw row
  simp only [L_S, List.length_map]
  rw [cyc_map _ (by have := hw.m1; omega), List.map_append, List.map_append]
/-! ### seats and marks -/
def seatF (st n t d : Int) : Int := if (t - st * d) % (n - 1) < n / 2 then (t - st * d) % (n - 1) else (t - st * d) % (n - 1) - (n - 1)
def oppF (st n t d : Int) : Int := if t = n - 1 then st * d % (n - 1) else if (2 * st * d - t) % (n - 1) = t then n - 1 else (2 * st * d - t) % (n - 1)
def standF (s : Str) (d : Int) : Nat := if s = "home" then 104 else if s = "away" then 97 else if s = "even" then (if d % 2 = 0 then 104 else 97) else (if d % 2 = 0 then 97 else 104)
def tIf (r : RT) (d : Int) (c : Nat) : Nat := if r.2.2.2 = true ∧ d % 2 = 1 then ctrc c else c
def wmF (w : Str × Str × Str) (p k : Int) : Nat := (rw_ w p).getD (k - 1).toNat 0
def atF (r : RT) (n at_ d : Int) : Nat := if at_ = 0 then ctrc (standF r.2.2.1 d) else if 0 < at_ then tIf r d (wmF r.2.1 (n / 2 - 1) (at_.natAbs : Int)) else ctrc (tIf r d (wmF r.2.1 (n / 2 - 1) (at_.natAbs : Int)))
def markF (r : RT) (n t d : Int) : Nat := if t = n - 1 then standF r.2.2.1 d else atF r n (seatF r.1 n t d) d
def M1 (c : Nat) : Prop := c = 104 ∨ c = 97
theorem ctrc_ctrc {c : Nat} (h : M1 c) : ctrc (ctrc c) = c := by
  rcases h with rfl | rfl <;> rfl
theorem ctrc_ne {c : Nat} (h : M1 c) : ctrc c ≠ c := by
  rcases h with rfl | rfl <;> decide
theorem standF_m (s : Str) (d : Int) : M1 (standF s d) := by
  unfold standF M1
  split
  · exact .inl rfl
  · split
    · exact .inr rfl
    · split
      · split
        · exact .inl rfl
        · exact .inr rfl
      · split
        · exact .inr rfl
        · exact .inl rfl
theorem tIf_m {r : RT} {d : Int} {c : Nat} (h : M1 c) : M1 (tIf r d c) := by
  unfold tIf
  split
  · exact ctrc_mk c
  · exact h
theorem row_mk {w : Str × Str × Str} (hw : WV w) {p : Int} : ∀ c ∈ rw_ w p, M1 c := by
  intro c hc
  unfold rw_ row at hc
  rcases List.mem_append.mp hc with h | h
  · rcases List.mem_append.mp h with h | h
    · exact hw.mh c h
    · unfold cyc at h
      obtain ⟨j, _, e⟩ := List.mem_map.mp h
      have m1 := hw.m1
      have := Nat.mod_lt j (show 0 < (L w.2.1).length by omega)
      rw [List.getD_eq_getElem?_getD, List.getElem?_eq_getElem this] at e
      rw [← e]
      exact hw.mm _ (List.getElem_mem _)
  · exact hw.mt c h
theorem wmF_at {w : Str × Str × Str} {p k : Int} (hp : lst w ≤ p) (h1 : 1 ≤ k) (h2 : k ≤ p) : (rw_ w p)[(k - 1).toNat]? = some (wmF w p k) := by
  have hl := rw_len hp
  unfold wmF
  rw [List.getD_eq_getElem?_getD, List.getElem?_eq_getElem (by omega)]
  rfl
theorem wmF_m {w : Str × Str × Str} (hw : WV w) {p k : Int} (hp : lst w ≤ p) (h1 : 1 ≤ k) (h2 : k ≤ p) : M1 (wmF w p k) := row_mk hw _ (List.mem_of_getElem? (wmF_at hp h1 h2))
theorem wmark_ok {w : Str × Str × Str} (hw : WV w) {p k : Int} (hp : lst w ≤ p) (h1 : 1 ≤ k) (h2 : k ≤ p) {K : Str → Prop} (q : K (S [wmF w p k])) : M_Word_mark w p k K := by
  refine mark_ok hw hp h1 h2 fun c hc => ?_
  rw [wmF_at hp h1 h2] at hc
  rw [← Option.some.inj hc]
  exact q
theorem cm1_ok {c : Nat} (h : M1 c) {K : Str → Prop} (q : K (S [ctrc c])) : M_contrary_marks (S [c]) K := by
  refine cmarks_ok (by rw [L_S]; simp) (by
    rw [L_S]
    intro x hx
    rw [List.mem_singleton.mp hx]
    exact h) ?_
  rw [L_S]
  exact q
theorem stander_ok {r : RT} (h : r.2.2.1 ∈ standers) {d : Int} {K : Str → Prop} (q : K (S [standF r.2.2.1 d])) : M_stander_mark r d K := by
  unfold M_stander_mark M_Rule_stander
  have d2 : d % 2 = 0 ∨ d % 2 = 1 := by omega
  simp only [standers, List.mem_cons, List.not_mem_nil, or_false] at h
  rcases h with e | e | e | e <;> rcases d2 with f | f <;> rw [e, f] <;> rw [e] at q
  · exact ⟨"hh", by decide +kernel, by decide +kernel, 104, by decide +kernel, by
      rw [show standF "home" d = 104 by unfold standF; rw [if_pos rfl]] at q
      exact q⟩
  · exact ⟨"hh", by decide +kernel, by decide +kernel, 104, by decide +kernel, by
      rw [show standF "home" d = 104 by unfold standF; rw [if_pos rfl]] at q
      exact q⟩
  · exact ⟨"aa", by decide +kernel, by decide +kernel, 97, by decide +kernel, by
      rw [show standF "away" d = 97 by unfold standF; rw [if_neg (by decide +kernel), if_pos rfl]] at q
      exact q⟩
  · exact ⟨"aa", by decide +kernel, by decide +kernel, 97, by decide +kernel, by
      rw [show standF "away" d = 97 by unfold standF; rw [if_neg (by decide +kernel), if_pos rfl]] at q
      exact q⟩
  · exact ⟨"ha", by decide +kernel, by decide +kernel, 104, by decide +kernel, by
      rw [show standF "even" d = 104 by unfold standF; rw [if_neg (by decide +kernel), if_neg (by decide +kernel), if_pos rfl, if_pos f]] at q
      exact q⟩
  · exact ⟨"ha", by decide +kernel, by decide +kernel, 97, by decide +kernel, by
      rw [show standF "even" d = 97 by unfold standF; rw [if_neg (by decide +kernel), if_neg (by decide +kernel), if_pos rfl, if_neg (by omega)]] at q
      exact q⟩
  · exact ⟨"ah", by decide +kernel, by decide +kernel, 97, by decide +kernel, by
      rw [show standF "odd" d = 97 by unfold standF; rw [if_neg (by decide +kernel), if_neg (by decide +kernel), if_neg (by decide +kernel), if_pos f]] at q
      exact q⟩
  · exact ⟨"ah", by decide +kernel, by decide +kernel, 104, by decide +kernel, by
      rw [show standF "odd" d = 104 by unfold standF; rw [if_neg (by decide +kernel), if_neg (by decide +kernel), if_neg (by decide +kernel), if_neg (by omega)]] at q
      exact q⟩
theorem turnedif_ok {r : RT} {d : Int} {c : Nat} (h : M1 c) {K : Str → Prop} (q : K (S [tIf r d c])) : M_turned_if r d (S [c]) K := by
  unfold M_turned_if M_Rule_turned
  refine ⟨fun v => v = S [tIf r d c], ?_, fun v hv => by rw [hv]; exact q⟩
  unfold tIf
  show if r.2.2.2 = true then _ else _
  by_cases a : r.2.2.2 = true
  · rw [if_pos a]
    by_cases b : d % 2 = 1
    · rw [if_pos (by rw [eqI']; exact b), if_pos ⟨a, b⟩]
      exact cm1_ok h rfl
    · rw [if_neg (by rw [eqI']; exact b), if_neg (fun z => b z.2)]
  · rw [if_neg a, if_neg (fun z => a z.1)]
theorem markat_ok {r : RT} (h : RV r) {n at_ d : Int} (hn : 2 * lst r.2.1 + 2 ≤ n) (ev : n % 2 = 0) (b1 : at_ ≤ n / 2 - 1) (b2 : -(n / 2 - 1) ≤ at_) {K : Str → Prop} (q : K (S [atF r n at_ d])) : M_mark_at r n at_ d K := by
  unfold M_mark_at
  unfold atF at q
  by_cases z : at_ = 0
  · rw [if_pos (by rw [eqI']; exact z)]
    rw [if_pos z] at q
    exact stander_ok h.st (cm1_ok (standF_m _ _) q)
  · rw [if_neg (by rw [eqI']; exact z)]
    rw [if_neg z] at q
    unfold M_Rule_word
    rw [absN]
    have m := wmF_m h.w (p := n / 2 - 1) (k := (at_.natAbs : Int)) (by omega) (by omega) (by omega)
    refine wmark_ok h.w (by omega) (by omega) (by omega) (turnedif_ok m ?_)
    by_cases p : 0 < at_
    · rw [if_pos p] at q
      refine ⟨fun v => v = S [tIf r d (wmF r.2.1 (n / 2 - 1) (at_.natAbs : Int))], ?_, fun v hv => by rw [hv]; exact q⟩
      rw [if_pos (decide_eq_true p)]
    · rw [if_neg p] at q
      refine ⟨fun v => v = S [ctrc (tIf r d (wmF r.2.1 (n / 2 - 1) (at_.natAbs : Int)))], ?_, fun v hv => by rw [hv]; exact q⟩
      rw [if_neg (by simpa using p)]
      exact cm1_ok (tIf_m m) rfl
theorem day_ok {d n : Int} (h0 : 0 ≤ d) (h1 : d < n) {k : Unit → Prop} (q : k ()) : M_check_day d n k := by
  unfold M_check_day M_is_count M_is_integer
  show if (!false) = true then _ else _
  rw [if_pos (show (!false) = true from rfl), decide_eq_true h0]
  show if (!true) = true then False else _
  rw [if_neg (by decide), if_neg (by simp only [decide_eq_true_eq]; omega)]
  exact q
theorem seatF_b {st n t d : Int} (h4 : 4 ≤ n) (ev : n % 2 = 0) : -(n / 2 - 1) ≤ seatF st n t d ∧ seatF st n t d ≤ n / 2 - 1 := by
  have a := Int.emod_nonneg (t - st * d) (show n - 1 ≠ 0 by omega)
  have b := Int.emod_lt_of_pos (t - st * d) (show 0 < n - 1 by omega)
  unfold seatF
  split <;> omega
theorem cmul7 {st d n : Int} (s7 : st.natAbs ≤ 14) (hd : 0 ≤ d) (hd2 : d < n) (bg : n.natAbs < 2 ^ 899) : CMulW st d := wide_mul (a := 4) (b := 899) (by omega) (by omega) (by decide) (by decide) (by decide)
theorem check_ok {r : RT} (h : RV r) {n t d : Int} (hn : 2 * lst r.2.1 + 2 ≤ n) (ev : n % 2 = 0) (t0 : 0 ≤ t) (t1 : t < n) (d0 : 0 ≤ d) (d1 : d < n - 1) {k : Unit → Prop} (q : k ()) : M_check r n t d k := by
  unfold M_check
  exact chksize_ok h.w hn ev (chkteam_ok t0 t1 (day_ok d0 d1 q))
theorem ints_py (ns : List Int) : pyOf (D.lst (ns.map fun y => D.v (V.int y))) = .list (ns.map PyData.int) := by
  simp only [pyOf]
  congr 1
  induction ns with
  | nil => rfl
  | cons n ns ih =>
    rw [List.map_cons, List.map_cons]
    simp only [pyL, pyOf]
    rw [ih]
theorem ints_plain (ns : List Int) : plainD (D.lst (ns.map fun y => D.v (V.int y))) = true := by
  simp only [plainD]
  induction ns with
  | nil => rfl
  | cons n ns ih =>
    rw [List.map_cons]
    simp only [plainL, plainD, Bool.true_and]
    exact ih
theorem ints_shaped (ns : List Int) : SeqAt.shaped (pyOf (D.lst (ns.map fun y => D.v (V.int y)))) = true := by
  rw [ints_py]
  unfold SeqAt.shaped
  rw [Bool.and_eq_true]
  have h : ∀ ns : List Int, PyData.canLayAll0 (ns.map PyData.int) = true ∧ PyData.depthAll (ns.map PyData.int) ≤ 1 := by
    intro ns
    induction ns with
    | nil => exact ⟨rfl, by simp [PyData.depthAll]⟩
    | cons n ns ih =>
      refine ⟨?_, ?_⟩
      · rw [List.map_cons]
        simp only [PyData.canLayAll0, PyData.canLay0, Bool.true_and]
        exact ih.1
      · rw [List.map_cons]
        simp only [PyData.depthAll, PyData.depth]
        have := ih.2
        omega
  refine ⟨?_, ?_⟩
  · simp only [PyData.canLay0]
    exact (h ns).1
  · refine decide_eq_true ?_
    simp only [PyData.depth]
    have := (h ns).2
    omega
theorem eqv_nil (ns : List Int) : PyData.eqv (pyOf (D.lst (ns.map fun y => D.v (V.int y)))) (pyOf (D.lst (([] : List Int).map fun y => D.v (V.int y)))) = ns.isEmpty := by
  rw [ints_py, ints_py]
  cases ns <;> rfl
theorem forC_okN {α S : Type} {body : α → S → (S → Prop) → Prop} {k : S → Prop} (I : Nat → S → Prop) (N : Nat) : ∀ {xs : List α} {i : Nat} {s0 : S}, i + xs.length ≤ N → (∀ x ∈ xs, ∀ (j : Nat) (s : S) (k' : S → Prop), j < N → I j s → (∀ s', I (j + 1) s' → k' s') → body x s k') → I i s0 → (∀ s, I (i + xs.length) s → k s) → forC body xs s0 k
  | [], i, s0, _, _, h, q => q s0 h
  | x :: xs, i, s0, hN, hb, h, q => hb x List.mem_cons_self i s0 _ (by rw [List.length_cons] at hN; omega) h fun s' h' => forC_okN I N (i := i + 1) (by rw [List.length_cons] at hN; omega) (fun y hy => hb y (List.mem_cons_of_mem _ hy)) h' fun s h2 => q s (by rw [List.length_cons, show i + (xs.length + 1) = i + 1 + xs.length by omega]; exact h2)
theorem atI_ex {α : Type} {xs : List α} (h : 0 < xs.length) : ∃ y, atI xs (-1) = some y := by
  rcases List.eq_nil_or_concat xs with rfl | ⟨ys, y, rfl⟩
  · exact absurd h (Nat.lt_irrefl 0)
  · exact ⟨y, by rw [List.concat_eq_append]; exact atI_last _ _⟩
theorem atI_mem {α : Type} {xs : List α} {i : Int} {y : α} (h : atI xs i = some y) : y ∈ xs := by
  obtain ⟨j, _, e, _⟩ := atI_get h
  exact List.mem_of_getElem? e
theorem roundsof_ok {r : RT} {n one other : Int} (h : RV r) (hn : 2 * lst r.2.1 + 2 ≤ n) (e : n % 2 = 0) (big : n.natAbs < 2 ^ 899) (a0 : 0 ≤ one) (a1 : one < n) (b0 : 0 ≤ other) (b1 : other < n) (ab : one ≠ other) {k : List Int → Prop}
    (q : k (if one = n - 1 then roundsL r.1 other (n - 1) else if other = n - 1 then roundsL r.1 one (n - 1) else roundsL (2 * r.1) (one + other) (n - 1))) : M_rounds_of r n one other k := by
  have l1 := @lst_ge r.2.1
  have bg : (n - 1).natAbs < 2 ^ 900 := by
    have : (2 : Nat) ^ 900 = 2 * 2 ^ 899 := by rw [show (900 : Nat) = 899 + 1 from rfl, Nat.pow_succ, Nat.mul_comm]
    omega
  have s0 := h.s0
  have s7 := h.s7
  unfold M_rounds_of M_Rule_step
  refine chksize_ok h.w hn e (chkpair_ok a0 a1 b0 b1 ab ?_)
  by_cases c : one = n - 1
  · rw [if_pos (by rw [eqI']; exact c)]
    rw [if_pos c] at q
    exact roundsat_ok s0 (by omega) (by omega) bg q
  · rw [if_neg (by rw [eqI']; exact c)]
    rw [if_neg c] at q
    by_cases d : other = n - 1
    · rw [if_pos (by rw [eqI']; exact d)]
      rw [if_pos d] at q
      exact roundsat_ok s0 (by omega) (by omega) bg q
    · rw [if_neg (by rw [eqI']; exact d)]
      rw [if_neg d] at q
      exact roundsat_ok (by omega) (by omega) (by omega) bg q
/-- the number of rounds that the document speaks of: the greatest number that divides the step and the ring -/
def gcdR (st many : Int) : Int := ((Nat.gcd st.natAbs (many - 1).natAbs : Nat) : Int)
theorem absI (x : Int) : Int.natAbs (if x < 0 then -x else x) = x.natAbs := by
  split <;> omega
theorem gcdR_pos {st n : Int} (h0 : st ≠ 0) : 1 ≤ gcdR st n := by
  unfold gcdR
  have gp : 0 < Nat.gcd st.natAbs (n - 1).natAbs := Nat.gcd_pos_of_pos_left _ (by omega)
  omega
theorem atF_m {r : RT} (h : RV r) {n a d : Int} (hn : 2 * lst r.2.1 + 2 ≤ n) (b1 : a ≤ n / 2 - 1) (b2 : -(n / 2 - 1) ≤ a) : M1 (atF r n a d) := by
  unfold atF
  split
  · exact ctrc_mk _
  · rename_i z
    have m := wmF_m h.w (p := n / 2 - 1) (k := (a.natAbs : Int)) (by omega) (by omega) (by omega)
    split
    · exact tIf_m m
    · exact ctrc_mk _
theorem markF_m {r : RT} (h : RV r) {n t d : Int} (hn : 2 * lst r.2.1 + 2 ≤ n) (ev : n % 2 = 0) : M1 (markF r n t d) := by
  have l1 := @lst_ge r.2.1
  unfold markF
  split
  · exact standF_m _ _
  · obtain ⟨b1, b2⟩ := @seatF_b r.1 n t d (by omega) ev
    exact atF_m h hn b2 b1
theorem odd_half {m x : Int} (h1 : m % 2 = 1) (h : m ∣ 2 * x) : m ∣ x := by
  have e : x = m * x - (m / 2) * (2 * x) := by
    have := Int.emod_add_mul_ediv m 2
    grind
  rw [e]
  exact Int.dvd_sub (Int.dvd_mul_right m x) (Int.dvd_mul_of_dvd_right h)
theorem emod_is {m x t : Int} (t0 : 0 ≤ t) (t1 : t < m) : x % m = t ↔ m ∣ x - t := by
  have tt : t % m = t := Int.emod_eq_of_lt t0 t1
  constructor
  · intro h
    refine Int.dvd_of_emod_eq_zero (Int.emod_eq_emod_iff_emod_sub_eq_zero.mp ?_)
    rw [h, tt]
  · intro h
    have := Int.emod_eq_emod_iff_emod_sub_eq_zero.mpr (Int.emod_eq_zero_of_dvd h)
    rw [this, tt]
/-- the seat 0 is that of the standing one's opponent -/
theorem opp_mid {st n t d : Int} (h4 : 4 ≤ n) (ev : n % 2 = 0) (t0 : 0 ≤ t) (t1 : t < n - 1) : oppF st n t d = n - 1 ↔ seatF st n t d = 0 := by
  have a := Int.emod_nonneg (2 * st * d - t) (show n - 1 ≠ 0 by omega)
  have b := Int.emod_lt_of_pos (2 * st * d - t) (show 0 < n - 1 by omega)
  have a2 := Int.emod_nonneg (t - st * d) (show n - 1 ≠ 0 by omega)
  have b2 := Int.emod_lt_of_pos (t - st * d) (show 0 < n - 1 by omega)
  have e1 : (2 * st * d - t) % (n - 1) = t ↔ (t - st * d) % (n - 1) = 0 := by
    rw [emod_is t0 t1]
    constructor
    · intro h
      refine Int.emod_eq_zero_of_dvd (odd_half (by omega) ?_)
      rw [show 2 * (t - st * d) = -(2 * st * d - t - t) by grind]
      exact Int.dvd_neg.mpr h
    · intro h
      rw [show 2 * st * d - t - t = -(2 * (t - st * d)) by grind]
      exact Int.dvd_neg.mpr (Int.dvd_mul_of_dvd_right (Int.dvd_of_emod_eq_zero h))
  unfold oppF seatF
  rw [if_neg (by omega)]
  by_cases c : (2 * st * d - t) % (n - 1) = t
  · rw [if_pos c, e1.mp c, if_pos (by omega)]
    simp
  · rw [if_neg c]
    have z : (t - st * d) % (n - 1) ≠ 0 := fun z => c (e1.mpr z)
    constructor
    · intro h
      omega
    · intro h
      exfalso
      split at h <;> omega
theorem eqv_ints (a b : List Int) : PyData.eqv (pyOf (D.lst (a.map fun y => D.v (V.int y)))) (pyOf (D.lst (a.map fun y => D.v (V.int y)))) = true :=
  SeqAt.eqv_refl _ (SeqAt.canLay_of_shaped (ints_shaped a))
theorem eqM {a b : Nat} : (decide (V.str (S [a]) = V.str (S [b]))) = decide (a = b) := by
  rw [eqS, L_S, L_S]
  by_cases c : a = b
  · rw [decide_eq_true c, decide_eq_true (by rw [c])]
  · rw [decide_eq_false c, decide_eq_false (by simpa using c)]
theorem S_h : ("h" : Str) = S [104] := by decide +kernel
theorem S_a : ("a" : Str) = S [97] := by decide +kernel
theorem inV2 {x a b : Int} : inV (V.int x) (([a, b] : List Int).map V.int) = decide (x = a ∨ x = b) := by
  rw [Bool.eq_iff_iff, inV_int, decide_eq_true_iff]
  simp
theorem oppF_b {st n t d : Int} (h4 : 4 ≤ n) : 0 ≤ oppF st n t d ∧ oppF st n t d < n := by
  have a := Int.emod_nonneg (2 * st * d - t) (show n - 1 ≠ 0 by omega)
  have b := Int.emod_lt_of_pos (2 * st * d - t) (show 0 < n - 1 by omega)
  have a2 := Int.emod_nonneg (st * d) (show n - 1 ≠ 0 by omega)
  have b2 := Int.emod_lt_of_pos (st * d) (show 0 < n - 1 by omega)
  unfold oppF
  split
  · omega
  · split <;> omega
theorem oppF_ne {st n t d : Int} (h4 : 4 ≤ n) : oppF st n t d ≠ t := by
  have b2 := Int.emod_lt_of_pos (st * d) (show 0 < n - 1 by omega)
  unfold oppF
  split
  · omega
  · split <;> omega
def roundsF (st n one other : Int) : List Int := if one = n - 1 then roundsL st other (n - 1) else if other = n - 1 then roundsL st one (n - 1) else roundsL (2 * st) (one + other) (n - 1)
/-! ### who meets whom -/
def seatV (n x : Int) : Int := if x % (n - 1) < n / 2 then x % (n - 1) else x % (n - 1) - (n - 1)
theorem seatF_V (st n t d : Int) : seatF st n t d = seatV n (t - st * d) := rfl
theorem seatV_neg {n x y : Int} (h4 : 4 ≤ n) (ev : n % 2 = 0) (h : n - 1 ∣ x + y) : seatV n y = 0 - seatV n x := by
  have a := Int.emod_nonneg x (show n - 1 ≠ 0 by omega)
  have b := Int.emod_lt_of_pos x (show 0 < n - 1 by omega)
  have e : y % (n - 1) = if x % (n - 1) = 0 then 0 else (n - 1) - x % (n - 1) := by
    obtain ⟨c, hc⟩ := h
    have q := Int.emod_add_mul_ediv x (n - 1)
    by_cases z : x % (n - 1) = 0
    · rw [if_pos z]
      refine Int.emod_eq_zero_of_dvd ⟨c - x / (n - 1), ?_⟩
      grind
    · rw [if_neg z]
      refine (emod_is (by omega) (by omega)).mpr ⟨c - x / (n - 1) - 1, ?_⟩
      grind
  unfold seatV
  rw [e]
  split <;> split <;> split <;> omega
theorem seatV_dvd {n x : Int} (h4 : 4 ≤ n) : n - 1 ∣ x - seatV n x := by
  have q := Int.emod_add_mul_ediv x (n - 1)
  unfold seatV
  split
  · exact ⟨x / (n - 1), by omega⟩
  · exact ⟨x / (n - 1) + 1, by grind⟩
theorem seatV_0 {n x : Int} (h4 : 4 ≤ n) (ev : n % 2 = 0) : seatV n x = 0 ↔ n - 1 ∣ x := by
  have b := Int.emod_lt_of_pos x (show 0 < n - 1 by omega)
  constructor
  · intro h
    have := @seatV_dvd n x h4
    rw [h] at this
    simpa using this
  · intro h
    unfold seatV
    rw [Int.emod_eq_zero_of_dvd h, if_pos (by omega)]
theorem oppF_ring {st n t d : Int} (t1 : t ≠ n - 1) (h : oppF st n t d ≠ n - 1) : oppF st n t d = (2 * st * d - t) % (n - 1) := by
  unfold oppF at h ⊢
  rw [if_neg t1] at h ⊢
  split
  · rename_i c
    rw [if_pos c] at h
    exact absurd rfl h
  · rfl
/-- what the rounds of a pair are, by the numbers -/
def meets (st n a b r : Int) : Prop := if a = n - 1 then n - 1 ∣ b - st * r else if b = n - 1 then n - 1 ∣ a - st * r else n - 1 ∣ a + b - 2 * st * r
theorem dvd_emod_sub {m x : Int} : m ∣ x % m - x := by
  refine ⟨-(x / m), ?_⟩
  have := Int.emod_add_mul_ediv x m
  grind
theorem meets_opp {st n t d : Int} (h4 : 4 ≤ n) (ev : n % 2 = 0) (t0 : 0 ≤ t) (t1 : t < n) : meets st n t (oppF st n t d) d := by
  unfold meets
  by_cases c : t = n - 1
  · rw [if_pos c]
    unfold oppF
    rw [if_pos c]
    exact dvd_emod_sub
  · rw [if_neg c]
    by_cases e : oppF st n t d = n - 1
    · rw [if_pos e]
      have := (opp_mid h4 ev t0 (by omega)).mp e
      rw [seatF_V, seatV_0 h4 ev] at this
      exact this
    · rw [if_neg e, oppF_ring c e]
      have := @dvd_emod_sub (n - 1) (2 * st * d - t)
      rw [show t + (2 * st * d - t) % (n - 1) - 2 * st * d = (2 * st * d - t) % (n - 1) - (2 * st * d - t) by omega]
      exact this
theorem opp_meets {st n a b r : Int} (h4 : 4 ≤ n) (ev : n % 2 = 0) (a0 : 0 ≤ a) (a1 : a < n) (b0 : 0 ≤ b) (b1 : b < n) (ab : a ≠ b) (h : meets st n a b r) : oppF st n a r = b := by
  unfold meets at h
  by_cases c : a = n - 1
  · rw [if_pos c] at h
    unfold oppF
    rw [if_pos c]
    refine (emod_is b0 (by omega)).mpr ?_
    rw [show st * r - b = -(b - st * r) by omega]
    exact Int.dvd_neg.mpr h
  · rw [if_neg c] at h
    by_cases e : b = n - 1
    · rw [if_pos e] at h
      rw [e]
      exact (opp_mid h4 ev a0 (by omega)).mpr ((seatV_0 h4 ev).mpr h)
    · rw [if_neg e] at h
      have f : (2 * st * r - a) % (n - 1) = b := by
        refine (emod_is b0 (by omega)).mpr ?_
        rw [show 2 * st * r - a - b = -(a + b - 2 * st * r) by omega]
        exact Int.dvd_neg.mpr h
      unfold oppF
      rw [if_neg c, f, if_neg (fun z => ab z.symm)]
theorem meets_swap {st n a b r : Int} (ab : a ≠ b) : meets st n a b r ↔ meets st n b a r := by
  unfold meets
  by_cases c : a = n - 1
  · rw [if_pos c, if_neg (fun z => ab (by omega)), if_pos c]
  · rw [if_neg c]
    by_cases e : b = n - 1
    · rw [if_pos e, if_pos e]
    · rw [if_neg e, if_neg e, if_neg c, Int.add_comm]
theorem oppF_opp {st n t d : Int} (h4 : 4 ≤ n) (ev : n % 2 = 0) (t0 : 0 ≤ t) (t1 : t < n) : oppF st n (oppF st n t d) d = t := by
  obtain ⟨o0, o1⟩ := @oppF_b st n t d h4
  have on := @oppF_ne st n t d h4
  exact opp_meets h4 ev o0 o1 t0 t1 on ((meets_swap on).mpr (meets_opp h4 ev t0 t1))
theorem seat_opp {st n t d : Int} (h4 : 4 ≤ n) (ev : n % 2 = 0) (t0 : 0 ≤ t) (t1 : t < n - 1) (h : oppF st n t d ≠ n - 1) : seatF st n (oppF st n t d) d = 0 - seatF st n t d := by
  have m := meets_opp (st := st) (d := d) h4 ev t0 (show t < n by omega)
  unfold meets at m
  rw [if_neg (by omega), if_neg h] at m
  rw [seatF_V, seatF_V]
  refine seatV_neg h4 ev ?_
  rw [show t - st * d + (oppF st n t d - st * d) = t + oppF st n t d - 2 * st * d by grind]
  exact m
theorem atF_neg {r : RT} (h : RV r) {n a d : Int} (hn : 2 * lst r.2.1 + 2 ≤ n) (b1 : a ≤ n / 2 - 1) (b2 : -(n / 2 - 1) ≤ a) (z : a ≠ 0) : atF r n (0 - a) d = ctrc (atF r n a d) := by
  have m := wmF_m h.w (p := n / 2 - 1) (k := (a.natAbs : Int)) (by omega) (by omega) (by omega)
  have mt := tIf_m (r := r) (d := d) m
  unfold atF
  rw [if_neg (by omega), if_neg z, show (0 - a).natAbs = a.natAbs by omega]
  by_cases p : 0 < a
  · rw [if_neg (by omega), if_pos p]
  · rw [if_pos (by omega), if_neg p, ctrc_ctrc mt]
theorem markF_opp {r : RT} (h : RV r) {n t d : Int} (hn : 2 * lst r.2.1 + 2 ≤ n) (ev : n % 2 = 0) (t0 : 0 ≤ t) (t1 : t < n) : markF r n (oppF r.1 n t d) d = ctrc (markF r n t d) := by
  have l1 := @lst_ge r.2.1
  obtain ⟨o0, o1⟩ := @oppF_b r.1 n t d (by omega)
  have st1 := standF_m r.2.2.1 d
  unfold markF
  by_cases c : t = n - 1
  · have on := @oppF_ne r.1 n t d (by omega)
    rw [if_pos c, if_neg (by omega)]
    have s0 : seatF r.1 n (oppF r.1 n t d) d = 0 := by
      rw [seatF_V, seatV_0 (by omega) ev]
      unfold oppF
      rw [if_pos c]
      exact dvd_emod_sub
    rw [s0]
    unfold atF
    rw [if_pos rfl]
  · rw [if_neg c]
    by_cases e : oppF r.1 n t d = n - 1
    · rw [if_pos e]
      have s0 := (opp_mid (by omega) ev t0 (by omega)).mp e
      rw [s0]
      unfold atF
      rw [if_pos rfl, ctrc_ctrc st1]
    · rw [if_neg e, seat_opp (by omega) ev t0 (by omega) e]
      obtain ⟨b1, b2⟩ := @seatF_b r.1 n t d (by omega) ev
      exact atF_neg h hn b2 b1 (fun z => e ((opp_mid (by omega) ev t0 (by omega)).mpr z))
/-! the rounds as an ascending list -/
theorem asc_ext : ∀ {l k : List Int}, l.Pairwise (· < ·) → k.Pairwise (· < ·) → (∀ x, x ∈ l ↔ x ∈ k) → l = k
  | [], [], _, _, _ => rfl
  | [], y :: k, _, _, h => absurd ((h y).mpr List.mem_cons_self) List.not_mem_nil
  | x :: l, [], _, _, h => absurd ((h x).mp List.mem_cons_self) List.not_mem_nil
  | x :: l, y :: k, hl, hk, h => by
    rw [List.pairwise_cons] at hl hk
    have e : x = y := by
      rcases List.mem_cons.mp ((h x).mp List.mem_cons_self) with z | z
      · exact z
      · rcases List.mem_cons.mp ((h y).mpr List.mem_cons_self) with w | w
        · exact w.symm
        · have a := hk.1 x z
          have b := hl.1 y w
          omega
    subst e
    rw [asc_ext hl.2 hk.2 fun z => ?_]
    constructor
    · intro hz
      rcases List.mem_cons.mp ((h z).mp (List.mem_cons_of_mem _ hz)) with w | w
      · have := hl.1 z hz
        omega
      · exact w
    · intro hz
      rcases List.mem_cons.mp ((h z).mpr (List.mem_cons_of_mem _ hz)) with w | w
      · have := hk.1 z hz
        omega
      · exact w
theorem rangeI_asc (lo hi : Int) : (rangeI lo hi).Pairwise (· < ·) := by
  unfold rangeI
  rw [List.pairwise_map]
  exact (List.pairwise_lt_range).imp fun h => by omega
theorem rounds_asc {step places ring : Int} (s0 : step ≠ 0) (r0 : 0 < ring) : (roundsL step places ring).Pairwise (· < ·) := by
  unfold roundsL
  refine List.Pairwise.filterMap (R := (· < ·)) _ (fun a a' h b hb b' hb' => ?_) ?_
  · split at hb
    · rename_i c
      split at hb'
      · rename_i c'
        have e1 : a / (step.natAbs : Int) = b := by simpa using hb
        have e2 : a' / (step.natAbs : Int) = b' := by simpa using hb'
        have q1 := Int.emod_add_mul_ediv a (step.natAbs : Int)
        have q2 := Int.emod_add_mul_ediv a' (step.natAbs : Int)
        rw [c, e1] at q1
        rw [c', e2] at q2
        exact Int.lt_of_mul_lt_mul_left (a := (step.natAbs : Int)) (by omega) (by omega)
      · cases hb'
    · cases hb
  · rw [List.pairwise_map]
    refine (rangeI_asc _ _).imp fun {x y} h => ?_
    have := Int.mul_lt_mul_of_pos_left h r0
    omega
theorem roundsF_mem {st n a b r : Int} (s0 : st ≠ 0) (h4 : 4 ≤ n) : r ∈ roundsF st n a b ↔ 0 ≤ r ∧ r < n - 1 ∧ meets st n a b r := by
  unfold roundsF meets
  split
  · exact rounds_mem s0 (by omega)
  · split
    · exact rounds_mem s0 (by omega)
    · exact rounds_mem (by omega) (by omega)
theorem roundsF_asc {st n a b : Int} (s0 : st ≠ 0) (h4 : 4 ≤ n) : (roundsF st n a b).Pairwise (· < ·) := by
  unfold roundsF
  split
  · exact rounds_asc s0 (by omega)
  · split
    · exact rounds_asc s0 (by omega)
    · exact rounds_asc (by omega) (by omega)
theorem roundsF_swap {st n a b : Int} (s0 : st ≠ 0) (h4 : 4 ≤ n) (ab : a ≠ b) : roundsF st n b a = roundsF st n a b :=
  asc_ext (roundsF_asc s0 h4) (roundsF_asc s0 h4) fun r => by
    rw [roundsF_mem s0 h4, roundsF_mem s0 h4, meets_swap ab]
/-- solutions of a congruence, one behind another -/
theorem cong_list {st p m : Int} (m0 : 0 < m) {R : List Int} (asc : R.Pairwise (· < ·)) (mem : ∀ r, r ∈ R ↔ 0 ≤ r ∧ r < m ∧ m ∣ p - st * r) {g : Int} (hg : g = ((Int.gcd st m : Nat) : Int)) (ne : g ∣ p → R ≠ []) :
    (¬ g ∣ p → R = []) ∧ (g ∣ p → ∃ r0 : Int, 0 ≤ r0 ∧ r0 < m / g ∧ R = (rangeI 0 g).map fun i => r0 + i * (m / g)) := by
  have gp : 0 < g := by
    have := Int.gcd_pos_of_ne_zero_right st (show m ≠ 0 by omega)
    omega
  have g1 : g ∣ st := by rw [hg]; exact Int.gcd_dvd_left ..
  have g2 : g ∣ m := by rw [hg]; exact Int.gcd_dvd_right ..
  have cop : Int.gcd (st / g) (m / g) = 1 := by
    rw [hg]
    exact Int.gcd_ediv_gcd_ediv_gcd (by omega)
  obtain ⟨s', hs'⟩ := g1
  obtain ⟨m', hm'⟩ := g2
  have mp : 0 < m' := by
    rcases Int.lt_or_le 0 m' with h | h
    · exact h
    · have := Int.mul_nonpos_of_nonneg_of_nonpos (show 0 ≤ g by omega) h
      omega
  have dv : m / g = m' := by rw [hm', Int.mul_ediv_cancel_left _ (by omega)]
  have ds : st / g = s' := by rw [hs', Int.mul_ediv_cancel_left _ (by omega)]
  rw [dv, ds] at cop
  rw [dv]
  refine ⟨fun hn => ?_, fun hp => ?_⟩
  · rw [List.eq_nil_iff_forall_not_mem]
    intro r hr
    obtain ⟨_, _, d⟩ := (mem r).mp hr
    refine hn ?_
    have a : g ∣ p - st * r := Int.dvd_trans ⟨m', hm'⟩ d
    have b : g ∣ st * r := Int.dvd_mul_of_dvd_left ⟨s', hs'⟩
    have := Int.dvd_add a b
    rw [show p - st * r + st * r = p by omega] at this
    exact this
  · obtain ⟨r1, hr1⟩ := List.exists_mem_of_ne_nil _ (ne hp)
    obtain ⟨a0, a1, ⟨c, hc⟩⟩ := (mem r1).mp hr1
    have z0 := Int.emod_nonneg r1 (show m' ≠ 0 by omega)
    have z1 := Int.emod_lt_of_pos r1 mp
    have zq := Int.emod_add_mul_ediv r1 m'
    refine ⟨r1 % m', z0, z1, asc_ext asc ?_ fun r => ?_⟩
    · rw [List.pairwise_map]
      refine (rangeI_asc _ _).imp fun {x y} h => ?_
      have := Int.mul_lt_mul_of_pos_right h mp
      omega
    · rw [mem, List.mem_map]
      generalize r1 % m' = r0 at z0 z1 zq ⊢
      generalize r1 / m' = qq at zq
      constructor
      · rintro ⟨h0, h1, ⟨e, he⟩⟩
        have k1 : m' ∣ s' * (r - r0) := by
          refine ⟨c - e + qq * s', ?_⟩
          have : g * (s' * (r - r0)) = g * (m' * (c - e + qq * s')) := by grind
          exact Int.eq_of_mul_eq_mul_left (by omega) this
        have k2 : m' ∣ r - r0 := by
          have q := Int.natAbs_dvd_natAbs.mpr k1
          rw [Int.natAbs_mul] at q
          refine Int.natAbs_dvd_natAbs.mp (Nat.Coprime.dvd_of_dvd_mul_left ?_ q)
          rw [Nat.coprime_iff_gcd_eq_one, Nat.gcd_comm]
          exact cop
        obtain ⟨i, hi⟩ := k2
        refine ⟨i, memL37 ?_ ?_, by grind⟩
        · refine Int.not_lt.mp fun w => ?_
          have : m' * i ≤ m' * (-1) := Int.mul_le_mul_of_nonneg_left (by omega) (by omega)
          omega
        · refine Int.lt_of_mul_lt_mul_left (a := m') ?_ (by omega)
          rw [Int.mul_comm m' g]
          omega
      · rintro ⟨i, hi, rfl⟩
        obtain ⟨i0, i1⟩ := rangeI_mem hi
        have b0 : 0 ≤ i * m' := Int.mul_nonneg i0 (by omega)
        have b1 : i * m' ≤ (g - 1) * m' := Int.mul_le_mul_of_nonneg_right (by omega) (by omega)
        have b2 : (g - 1) * m' = m - m' := by rw [Int.sub_mul, Int.one_mul, ← hm']
        exact ⟨by omega, by omega, ⟨c + qq * s' - s' * i, by grind⟩⟩
theorem finE : ((List.range 15).all fun t => (List.range t).all fun a => (List.range t).all fun b => decide (b % Nat.gcd a t ≠ 0) || (List.range t).any fun lap => decide ((b + a * lap) % t = 0)) = true := by decide +kernel
theorem rounds_ne {step places ring : Int} (s0 : step ≠ 0) (s7 : step.natAbs ≤ 14) (r0 : 0 < ring) (h : ((Int.gcd step ring : Nat) : Int) ∣ places) : roundsL step places ring ≠ [] := by
  have tp : 0 < step.natAbs := by omega
  have rl : ((Int.gcd step ring : Nat) : Int) ∣ restL step places ring := by
    have q : ((Int.gcd step ring : Nat) : Int) ∣ ring := Int.gcd_dvd_right ..
    have dm : ∀ x : Int, ((Int.gcd step ring : Nat) : Int) ∣ x → ((Int.gcd step ring : Nat) : Int) ∣ x % ring := fun x hx => by
      have := Int.dvd_add (Int.dvd_trans q (@dvd_emod_sub ring x)) hx
      rw [show x % ring - x + x = x % ring by omega] at this
      exact this
    unfold restL
    split
    · exact dm _ h
    · exact dm _ (Int.dvd_neg.mpr h)
  obtain ⟨b0, b1⟩ := @restL_b step places ring r0
  generalize hr : restL step places ring = rest at rl b0 b1
  have t1 := Nat.mod_lt ring.natAbs tp
  have t2 := Nat.mod_lt rest.natAbs tp
  have f := List.all_eq_true.mp (List.all_eq_true.mp (List.all_eq_true.mp finE step.natAbs (List.mem_range.mpr (by omega))) _ (List.mem_range.mpr t1)) _ (List.mem_range.mpr t2)
  rw [Bool.or_eq_true, List.any_eq_true] at f
  rcases f with f | ⟨lap, hl, hz⟩
  · exfalso
    refine of_decide_eq_true f ?_
    rw [← Nat.gcd_rec]
    have d1 : Nat.gcd step.natAbs ring.natAbs ∣ rest.natAbs := Int.ofNat_dvd_left.mp rl
    have d2 : Nat.gcd step.natAbs ring.natAbs ∣ step.natAbs := Nat.gcd_dvd_left _ _
    exact Nat.mod_eq_zero_of_dvd ((Nat.dvd_mod_iff d2).mpr d1)
  · have hz' := of_decide_eq_true hz
    rw [List.mem_range] at hl
    have hh : (rest + ring * (lap : Int)) % (step.natAbs : Int) = 0 := by
      have e1 : rest = (rest.natAbs : Int) := by omega
      have e2 : ring = (ring.natAbs : Int) := by omega
      rw [e1, e2, ← Int.natCast_mul, ← Int.natCast_add, ← Int.natCast_emod]
      have : (rest.natAbs + ring.natAbs * lap) % step.natAbs = 0 := by
        rw [Nat.add_mod, Nat.mul_mod] at hz' ⊢
        rw [Nat.mod_mod, Nat.mod_mod] at hz'
        exact hz'
      rw [this]
      rfl
    have : (rest + ring * (lap : Int)) / (step.natAbs : Int) ∈ roundsL step places ring := by
      unfold roundsL
      rw [List.mem_filterMap, hr]
      exact ⟨rest + ring * (lap : Int), List.mem_map.mpr ⟨(lap : Int), memL37 (by omega) (by omega), rfl⟩, by rw [if_pos hh]⟩
    exact List.ne_nil_of_mem this
theorem gcd_two {s m : Int} (h : m % 2 = 1) : Int.gcd (2 * s) m = Int.gcd s m := by
  have c : Nat.gcd 2 m.natAbs = 1 := by
    rw [Nat.gcd_rec, show m.natAbs % 2 = 1 by omega]
    rfl
  show Nat.gcd (2 * s).natAbs m.natAbs = Nat.gcd s.natAbs m.natAbs
  rw [Int.natAbs_mul]
  exact Nat.Coprime.gcd_mul_left_cancel _ c
/-- the rounds of a pair: none, or as many as the divisor says, at equal distances -/
def numF (n a b : Int) : Int := if a = n - 1 then b else if b = n - 1 then a else a + b
theorem roundsF_form {st n a b : Int} (s0 : st ≠ 0) (s7 : st.natAbs ≤ 7) (h4 : 4 ≤ n) (ev : n % 2 = 0) {g : Int} (hg : g = ((Int.gcd st (n - 1) : Nat) : Int)) :
    (¬ g ∣ numF n a b → roundsF st n a b = []) ∧ (g ∣ numF n a b → ∃ r0 : Int, 0 ≤ r0 ∧ r0 < (n - 1) / g ∧ roundsF st n a b = (rangeI 0 g).map fun i => r0 + i * ((n - 1) / g)) := by
  unfold roundsF numF
  split
  · exact cong_list (by omega) (rounds_asc s0 (by omega)) (fun r => rounds_mem s0 (by omega)) hg (fun h => rounds_ne s0 (by omega) (by omega) (by rw [← hg]; exact h))
  · split
    · exact cong_list (by omega) (rounds_asc s0 (by omega)) (fun r => rounds_mem s0 (by omega)) hg (fun h => rounds_ne s0 (by omega) (by omega) (by rw [← hg]; exact h))
    · have hg2 : g = ((Int.gcd (2 * st) (n - 1) : Nat) : Int) := by rw [gcd_two (by omega)]; exact hg
      exact cong_list (by omega) (rounds_asc (by omega) (by omega)) (fun r => rounds_mem (by omega) (by omega)) hg2 (fun h => rounds_ne (by omega) (by omega) (by omega) (by rw [← hg2]; exact h))
/-! ### data whose text is told -/
structure OkS (d : D) (k n : Nat) : Prop where
  pl : plainD d = true
  sw : (pyOf d).showable = true
  nd : (pyOf d).hasDict = false
  dp : (pyOf d).depth ≤ k
  ln : (pyOf d).shown.length ≤ n
  cl : (pyOf d).canLay0 = true
theorem OkS.rp {d : D} {k n : Nat} (h : OkS d k n) (hk : k ≤ 60) (hn : n ≤ 16777216) : plainD d = true ∧ (pyOf d).showable = true ∧ (pyOf d).hasDict = false ∧ (pyOf d).depth ≤ 60 ∧ (pyOf d).shown.length ≤ sizeLine :=
  ⟨h.pl, h.sw, h.nd, Nat.le_trans h.dp hk, by rw [sizeLine_eq]; exact Nat.le_trans h.ln hn⟩
theorem OkS.sh {d : D} {k n : Nat} (h : OkS d k n) (hk : k ≤ 60) : SeqAt.shaped (pyOf d) = true := by
  unfold SeqAt.shaped
  rw [h.cl, Bool.true_and]
  exact decide_eq_true (by have := h.dp; omega)
theorem OkS.rf {d : D} {k n : Nat} (h : OkS d k n) (hk : k ≤ 60) : PyData.eqv (pyOf d) (pyOf d) = true := SeqAt.eqv_refl _ (SeqAt.canLay_of_shaped (h.sh hk))
theorem OkS.mono {d : D} {k n k' n' : Nat} (h : OkS d k n) (hk : k ≤ k') (hn : n ≤ n') : OkS d k' n' := ⟨h.pl, h.sw, h.nd, Nat.le_trans h.dp hk, Nat.le_trans h.ln hn, h.cl⟩
theorem oks_int {i : Int} (h : i.natAbs < 2 ^ 1920) : OkS (D.v (V.int i)) 1 1921 := by
  have l : i.natAbs.log2 < 1920 := PySem.Flt.log2_lt_of (by decide) h
  refine ⟨rfl, decide_eq_true l, rfl, ?_, int_text_len_1921 l, rfl⟩
  simp [pyOf, PyData.depth]
theorem oks_bl (b : Bool) : OkS (D.v (V.bl b)) 1 5 := by
  cases b <;> exact ⟨rfl, rfl, rfl, by decide, by decide +kernel, rfl⟩
theorem oks_mark {c : Nat} (h : M1 c) : OkS (D.v (V.str (S [c]))) 1 3 := by
  rcases h with rfl | rfl <;> exact ⟨by decide +kernel, by decide +kernel, by decide +kernel, by decide +kernel, by decide +kernel, by decide +kernel⟩
theorem len_app (a b : Str) : (a ++ b).length = a.length + b.length := by
  rw [len_L, len_L, len_L, L_app, List.length_append]
theorem textFrom_le : ∀ {ts : List Str} {i : Nat} {acc : Str} {n : Nat}, (∀ t ∈ ts, t.length ≤ n) → (textFrom i acc ts).length ≤ acc.length + ts.length * (n + 2)
  | [], i, acc, n, _ => by
    show acc.length ≤ acc.length + 0 * (n + 2)
    omega
  | t :: ts, i, acc, n, h => by
    have h1 := h t List.mem_cons_self
    have ih := textFrom_le (ts := ts) (i := i + 1) (acc := acc ++ (if i > 0 then ", " else "" : String) ++ t) (n := n) fun t ht => h t (List.mem_cons_of_mem _ ht)
    show (textFrom (i + 1) (acc ++ (if i > 0 then ", " else "" : String) ++ t) ts).length ≤ _
    refine Nat.le_trans ih ?_
    have e : ((if i > 0 then ", " else "" : String) : Str).length ≤ 2 := by
      split <;> decide +kernel
    rw [len_app, len_app, List.length_cons, Nat.succ_mul]
    omega
theorem shownAll_len : ∀ ds : List D, (PyData.shownAll (pyL ds)).length = ds.length
  | [] => rfl
  | d :: ds => by
    simp only [pyL, PyData.shownAll, List.length_cons, shownAll_len ds]
theorem oks_all {k n : Nat} : ∀ {ds : List D}, (∀ d ∈ ds, OkS d k n) → plainL ds = true ∧ PyData.showableAll (pyL ds) = true ∧ PyData.hasDictAll (pyL ds) = false ∧ PyData.depthAll (pyL ds) ≤ k ∧ (∀ t ∈ PyData.shownAll (pyL ds), t.length ≤ n) ∧ PyData.canLayAll0 (pyL ds) = true
  | [], _ => ⟨rfl, rfl, rfl, by simp [pyL, PyData.depthAll], fun t ht => by simp [pyL, PyData.shownAll] at ht, rfl⟩
  | d :: ds, h => by
    obtain ⟨a1, a2, a3, a4, a5, a6⟩ := oks_all (ds := ds) fun e he => h e (List.mem_cons_of_mem _ he)
    have hd := h d List.mem_cons_self
    refine ⟨?_, ?_, ?_, ?_, ?_, ?_⟩
    · simp only [plainL, hd.pl, a1, Bool.and_self]
    · simp only [pyL, PyData.showableAll, hd.sw, a2, Bool.and_self]
    · simp only [pyL, PyData.hasDictAll, hd.nd, a3, Bool.or_self]
    · simp only [pyL, PyData.depthAll]
      have := hd.dp
      omega
    · intro t ht
      simp only [pyL, PyData.shownAll, List.mem_cons] at ht
      rcases ht with rfl | ht
      · exact hd.ln
      · exact a5 t ht
    · simp only [pyL, PyData.canLayAll0, hd.cl, a6, Bool.and_self]
theorem oks_lst {ds : List D} {k n m : Nat} (h : ∀ d ∈ ds, OkS d k n) (hm : ds.length ≤ m) : OkS (D.lst ds) (k + 1) (m * (n + 2) + 2) := by
  obtain ⟨a1, a2, a3, a4, a5, a6⟩ := oks_all h
  refine ⟨?_, ?_, ?_, ?_, ?_, ?_⟩
  · simp only [plainD]; exact a1
  · simp only [pyOf, PyData.showable]; exact a2
  · simp only [pyOf, PyData.hasDict]; exact a3
  · simp only [pyOf, PyData.depth]; omega
  · simp only [pyOf, PyData.shown]
    unfold listText
    rw [len_app]
    have t := textFrom_le (i := 0) (acc := "[") a5
    rw [shownAll_len] at t
    have l1 : (("[" : String) : Str).length = 1 := by decide +kernel
    have l2 : (("]" : String) : Str).length = 1 := by decide +kernel
    have : ds.length * (n + 2) ≤ m * (n + 2) := Nat.mul_le_mul_right _ hm
    first
      | omega
      | (show (textFrom 0 ("[" : Str) _).length + ("]" : Str).length ≤ _; have l3 : ("[" : Str).length = 1 := by decide +kernel; have l4 : ("]" : Str).length = 1 := by decide +kernel; omega)
  · simp only [pyOf, PyData.canLay0]; exact a6
theorem oks_map {α : Type} {e : α → D} {xs : List α} {k n m : Nat} (h : ∀ x ∈ xs, OkS (e x) k n) (hm : xs.length ≤ m) : OkS (D.lst (xs.map e)) (k + 1) (m * (n + 2) + 2) :=
  oks_lst (fun d hd => by
    obtain ⟨x, hx, rfl⟩ := List.mem_map.mp hd
    exact h x hx) (by rw [List.length_map]; exact hm)
theorem p899 {n : Int} (h0 : 0 ≤ n) (h : n < 10 ^ 70) : n.natAbs < 2 ^ 899 := by
  have e : (10 : Int) ^ 70 < 2 ^ 255 := by decide
  have e3 : ((2 ^ 255 : Nat) : Int) = (2 : Int) ^ 255 := by decide
  have : n.natAbs < 2 ^ 255 := by omega
  exact Nat.lt_trans this (Nat.pow_lt_pow_right (by decide) (by decide))
/-! ### seats and marks (this law's names) -/
theorem seatU_ok {r : RT} (h : RV r) {n t d : Int} (h4 : 4 ≤ n) (bg : n.natAbs < 2 ^ 899) (d0 : 0 ≤ d) (d1 : d < n - 1) {k : Int → Prop} (q : k (seatF r.1 n t d)) : M_seat r n t d k := by
  unfold M_seat M_Rule_step
  have s7 := h.s7
  refine ⟨cmul7 (by omega) d0 (by omega) bg, by omega, fun v => v = seatF r.1 n t d, ?_, fun v hv => by rw [hv]; exact q⟩
  unfold seatF
  by_cases c : (t - r.1 * d) % (n - 1) < n / 2
  · rw [if_pos (decide_eq_true c), if_pos c]
  · rw [if_neg (by simpa using c), if_neg c]
theorem markof_ok {r : RT} (h : RV r) {n t d : Int} (hn : 2 * lst r.2.1 + 2 ≤ n) (ev : n % 2 = 0) (bg : n.natAbs < 2 ^ 899) (t0 : 0 ≤ t) (t1 : t < n) (d0 : 0 ≤ d) (d1 : d < n - 1) {k : Str → Prop} (q : k (S [markF r n t d])) : M_mark_of r n t d k := by
  unfold M_mark_of
  have l1 := @lst_ge r.2.1
  refine check_ok h hn ev t0 t1 d0 d1 ?_
  unfold markF at q
  by_cases c : t = n - 1
  · rw [if_pos (by rw [eqI']; exact c)]
    rw [if_pos c] at q
    exact stander_ok h.st q
  · rw [if_neg (by rw [eqI']; exact c)]
    rw [if_neg c] at q
    obtain ⟨b1, b2⟩ := @seatF_b r.1 n t d (by omega) ev
    exact seatU_ok h (by omega) bg d0 d1 (markat_ok h hn ev b2 b1 q)
/-! ### sheets and seasons -/
theorem pickc_ok {k : Str → Prop} (q : ∀ c, c = 104 ∨ c = 97 → k (Str.mk #[c])) : M_pick_ps ("ha" : Str) k := by
  unfold M_pick_ps
  have e : (("ha" : Str).length : Int) = 2 := by decide +kernel
  refine ⟨by decide +kernel, ?_⟩
  rw [e]
  refine draw_ok (by decide) (by decide) fun d d0 d1 => ⟨by decide +kernel, ?_⟩
  have he : d = 0 ∨ d = 1 := by omega
  rcases he with rfl | rfl
  · exact ⟨104, by decide +kernel, q _ (.inl rfl)⟩
  · exact ⟨97, by decide +kernel, q _ (.inr rfl)⟩
theorem marks_ok {ns : List Int} (h0 : 0 < ns.length) (h1 : ns.length < 100) (h4 : ∀ n ∈ ns, 0 ≤ n ∧ n ≤ 4) {k : Str → Prop} (q : ∀ z : Str, ∀ n ∈ ns, ((L z).length : Int) = n → (∀ c ∈ L z, c = 104 ∨ c = 97) → k z) : M_marks ns k := by
  unfold M_marks
  refine pick_ok h0 (by omega) fun n hn => ?_
  obtain ⟨n0, n4⟩ := h4 n hn
  refine ⟨by rw [rangeI_len]; omega, ?_⟩
  refine mapC_any (fun y => ∃ c, y = Str.mk #[c] ∧ (c = 104 ∨ c = 97)) (fun x _ k' hk => pickc_ok fun c hc => hk _ ⟨c, rfl, hc⟩) fun ys hl hp => ?_
  rw [List.nil_append]
  rw [rangeI_len] at hl
  have hs : ∀ zs : List Str, (∀ y ∈ zs, ∃ c, y = Str.mk #[c] ∧ (c = 104 ∨ c = 97)) → (zs.map (·.length)).sum = zs.length ∧ ((zs.map L).flatten).length = zs.length ∧ ∀ c ∈ (zs.map L).flatten, c = 104 ∨ c = 97 := by
    intro zs
    induction zs with
    | nil => intro _; exact ⟨rfl, rfl, fun c hc => absurd hc (by simp)⟩
    | cons z zs ih =>
      intro h
      obtain ⟨c, rfl, hc⟩ := h z List.mem_cons_self
      obtain ⟨i1, i2, i3⟩ := ih fun y hy => h y (List.mem_cons_of_mem _ hy)
      refine ⟨?_, ?_, fun c' hc' => ?_⟩
      · rw [List.map_cons, List.sum_cons, i1, str1, List.length_cons]
        omega
      · rw [List.map_cons, List.flatten_cons, List.length_append, i2, L_one, List.length_cons, List.length_cons, List.length_nil]
        omega
      · rw [List.map_cons, List.flatten_cons, L_one] at hc'
        rcases List.mem_append.mp hc' with hc' | hc'
        · rw [List.mem_singleton.mp hc']
          exact hc
        · exact i3 c' hc'
  obtain ⟨s1, s2, s3⟩ := hs ys hp
  refine ⟨?_, q _ n hn ?_ ?_⟩
  · rw [s1, len_L, L_empty]
    show ys.length + ys.length * 0 ≤ _
    omega
  · rw [join_L, s2]
    omega
  · rw [join_L]
    exact s3
theorem sheet_ok {k : RT → Prop} (q : ∀ r, RV r → k r) : M_sheet k := by
  unfold M_sheet
  refine pick_ok (by decide) (by decide) fun a ha => pick_ok (by decide) (by decide) fun b hb => ?_
  have a1 : 1 ≤ a ∧ a ≤ 7 := by
    simp only [List.mem_cons, List.not_mem_nil, or_false] at ha
    omega
  have b1 : b = 1 ∨ b = -1 := by
    simp only [List.mem_cons, List.not_mem_nil, or_false] at hb
    omega
  refine ⟨cm3 (a := 4) (by omega) (by decide) (by omega) (by decide), ?_⟩
  refine marks_ok (by decide) (by decide) (by decide) fun z1 n1 h1 l1 c1 => marks_ok (by decide) (by decide) (by decide) fun z2 n2 h2 l2 c2 => marks_ok (by decide) (by decide) (by decide) fun z3 n3 h3 l3 c3 => ?_
  refine pickS_ok (by decide) (by decide) fun s hs => draw_ok (by decide) (by decide) fun d _ _ => ?_
  simp only [List.mem_cons, List.not_mem_nil, or_false] at h1 h2 h3
  have w : WV (z1, z2, z3) := ⟨show (L z1).length ≤ 4 by omega, show 1 ≤ (L z2).length by omega, show (L z2).length ≤ 4 by omega, show (L z3).length ≤ 4 by omega, c1, c2, c3⟩
  refine q (a * b, (z1, z2, z3), s, _) ⟨?_, ?_, w, ?_⟩
  · show a * b ≠ 0
    rcases b1 with rfl | rfl <;> omega
  · show (a * b).natAbs ≤ 7
    rcases b1 with rfl | rfl <;> omega
  · show s ∈ standers
    simp only [List.mem_cons, List.not_mem_nil, or_false] at hs
    unfold standers
    simp only [List.mem_cons, List.not_mem_nil, or_false]
    rcases hs with h | h | h | h | h
    · exact .inl h
    · exact .inr (.inl h)
    · exact .inr (.inr (.inl h))
    · exact .inr (.inr (.inl h))
    · exact .inr (.inr (.inr h))
theorem made_ok {r : RT} (h : RV r) {k : RT → Prop} (q : k r) : M_made r k := by
  unfold M_made
  exact ⟨word_ok h.w, rinit_ok h.s0 h.s7 h.st q⟩
abbrev LT := Int × Int × Bool
structure LegV (l : LT) : Prop where
  b0 : 0 ≤ l.1
  b3 : l.1 ≤ 3
  w : l.2.1 = 1 ∨ l.2.1 = -1
structure LgV (ls : List LT) : Prop where
  l : ∀ x ∈ ls, LegV x
  p : 0 < ls.length
  l4 : ls.length ≤ 4
theorem season_ok {k : List LT → Prop} (q : ∀ ls, LgV ls → k ls) : M_season k := by
  unfold M_season
  refine draw_ok (by decide) (by decide) fun d d0 d1 => ?_
  refine forC_okN (fun j s => s.length = j ∧ ∀ x ∈ s, LegV x) 4 (i := 0) (by rw [rangeI_len]; omega) (fun x hx j s k' hj ⟨g1, g2⟩ q' => ?_) ⟨rfl, fun x h => absurd h List.not_mem_nil⟩ fun s ⟨g1, g2⟩ => ?_
  · refine draw_ok (by decide) (by decide) fun a a0 a1 => pick_ok (by decide) (by decide) fun b hb => draw_ok (by decide) (by decide) fun e _ _ => ⟨by omega, q' _ ⟨by rw [List.length_append, g1]; rfl, fun y hy => ?_⟩⟩
    rcases List.mem_append.mp hy with hy | hy
    · exact g2 y hy
    · rw [List.mem_singleton.mp hy]
      simp only [List.mem_cons, List.not_mem_nil, or_false] at hb
      exact ⟨a0, by show a ≤ 3; omega, by show b = 1 ∨ b = -1; omega⟩
  · rw [rangeI_len] at g1
    exact q s ⟨g2, by omega, by omega⟩
theorem isleg_ok {l : LT} (h : LegV l) {k : Bool → Prop} (q : k true) : M_is_leg l k := by
  have b0 := h.b0
  have b3 := h.b3
  unfold M_is_leg M_is_count M_is_integer
  rw [if_neg (show ¬ (!(decide (V.int (3 : Int) = V.int (3 : Int)))) = true by decide)]
  show if (!false) = true then _ else _
  rw [if_pos (show (!false) = true from rfl)]
  show if (!(decide (0 ≤ l.1))) = true then _ else _
  rw [if_neg (by simpa using b0), if_neg (by simpa using b3)]
  show if (!false) = true then _ else _
  rw [if_pos (show (!false) = true from rfl), if_pos]
  · exact q
  · rw [eqI']
    rcases h.w with e | e <;> rw [e] <;> decide
theorem legs_ok {ls : List LT} (h : LgV ls) {k : Unit → Prop} (q : k ()) : M_check_legs ls k := by
  have p := h.p
  have l4 := h.l4
  unfold M_check_legs M_is_list
  show if (!true) = true then _ else _
  rw [if_neg (by decide), if_neg (by rw [eqI']; omega)]
  refine forC_ok (fun _ => True) (fun x hx s k' _ q' => ?_) trivial fun s _ => ?_
  · refine isleg_ok (h.l _ (List.of_mem_zip hx).2) ?_
    rw [if_neg (by decide)]
    exact q' () trivial
  · rw [if_neg (by simp; omega)]
    exact q
theorem legsT_ok {ls : List LT} (h : LgV ls) {k : Unit → Prop} (q : k ()) : M_check_legs_vtiib ls k := (legs_ok h q : M_check_legs ls k)
/-! ### homes of pairs -/
def mks (r : RT) (n t : Int) (ds : List Int) : List Nat := ds.map (markF r n t)
def legN (ms : List Nat) (b : Bool) : Int := ((ms.count (if b then 97 else 104) : Nat) : Int)
def phF (r : RT) (n : Int) (ls : List LT) (one other : Int) : Int := (ls.map fun l => legN (mks r n one (roundsF r.1 n one other)) l.2.2).sum
theorem count_S (c : Nat) (ms : List Nat) : (ms.map fun m => S [m]).count (S [c]) = ms.count c := by
  induction ms with
  | nil => rfl
  | cons m ms ih =>
    rw [List.map_cons, List.count_cons, List.count_cons, ih]
    congr 1
    by_cases e : m = c
    · subst e
      simp
    · have e2 : S [m] ≠ S [c] := fun z => e (by
        have := congrArg L z
        rw [L_S, L_S] at this
        simpa using this)
      simp [e, e2]
theorem pairh_ok {r : RT} (h : RV r) {n a b : Int} {ls : List LT} (hl : LgV ls) (hn : 2 * lst r.2.1 + 2 ≤ n) (ev : n % 2 = 0) (bg : n.natAbs < 2 ^ 899) (a0 : 0 ≤ a) (a1 : a < n) (b0 : 0 ≤ b) (b1 : b < n) (ab : a ≠ b) (few : (roundsF r.1 n a b).length < 100000) {k : Int → Prop} (q : k (phF r n ls a b)) : M_pair_homes r n ls a b k := by
  have l1 := @lst_ge r.2.1
  unfold M_pair_homes
  refine chksize_ok h.w hn ev (legs_ok hl (roundsof_ok h hn ev bg a0 a1 b0 b1 ab ?_))
  rw [show (if a = n - 1 then roundsL r.1 b (n - 1) else if b = n - 1 then roundsL r.1 a (n - 1) else roundsL (2 * r.1) (a + b) (n - 1)) = roundsF r.1 n a b from rfl]
  refine ⟨few, ?_⟩
  refine mapC_ok (fun d => S [markF r n a d]) (fun d hd k' hk => ?_) ?_
  · obtain ⟨d0, d1, _⟩ := (roundsF_mem h.s0 (by omega)).mp hd
    exact markof_ok h hn ev bg a0 a1 d0 d1 hk
  · rw [List.nil_append]
    have e : (roundsF r.1 n a b).map (fun d => S [markF r n a d]) = (mks r n a (roundsF r.1 n a b)).map fun m => S [m] := by
      unfold mks
      rw [List.map_map]
      rfl
    rw [e]
    refine ⟨by have := hl.l4; omega, ?_⟩
    refine mapC_ok (fun l : LT => legN (mks r n a (roundsF r.1 n a b)) l.2.2) (fun l _ k' hk => ?_) ?_
    · refine ⟨fun s => s = S [if l.2.2 then 97 else 104], ?_, fun s hs => ?_⟩
      · cases l.2.2 with
        | true => exact S_a
        | false => exact S_h
      · rw [hs, count_S]
        exact hk
    · rw [List.nil_append]
      exact q
theorem pairhT_ok {r : RT} (h : RV r) {n a b : Int} {ls : List LT} (hl : LgV ls) (hn : 2 * lst r.2.1 + 2 ≤ n) (ev : n % 2 = 0) (bg : n.natAbs < 2 ^ 899) (a0 : 0 ≤ a) (a1 : a < n) (b0 : 0 ≤ b) (b1 : b < n) (ab : a ≠ b) (few : (roundsF r.1 n a b).length < 100000) {k : Int → Prop} (q : k (phF r n ls a b)) : M_pair_homes_oRuleivtiibii r n ls a b k :=
  (pairh_ok h hl hn ev bg a0 a1 b0 b1 ab few q : M_pair_homes r n ls a b k)
/-! ### the law's days -/
theorem perm_asc {l k : List Int} (p : k.Perm l) (nd : l.Nodup) (s : k.Pairwise (· ≤ ·)) : k.Pairwise (· < ·) := by
  have nk : k.Nodup := p.nodup_iff.mpr nd
  exact (nk.and s).imp fun {a b} ⟨n, h⟩ => by omega
theorem fdiv_of {x y q : Int} (hy : y ≠ 0) (e : x = y * q) : Int.fdiv x y = q := by
  subst e
  exact Int.mul_fdiv_cancel_left q hy
theorem fmod_dvd {x y : Int} : Int.fmod x y = 0 ↔ y ∣ x := ⟨fun h => Int.dvd_of_fmod_eq_zero h, fun h => Int.fmod_eq_zero_of_dvd h⟩
structure DayI (by_ due ring : Int) (s : List Int) (t : Int) : Prop where
  mem : ∀ q, q ∈ s ↔ 0 ≤ q ∧ q < ring ∧ ∃ u, -20 ≤ u ∧ u < t ∧ by_ * q = due + u * ring
  nd : s.Nodup
  l : (s.length : Int) ≤ t + 20
theorem days_for {by_ due ring : Int} (hb : by_ ≠ 0) (hb2 : by_.natAbs < 1073741824) (r0 : 0 < ring) (big : ring.natAbs < 2 ^ 899) {k : List Int → Prop} (q : ∀ s, DayI by_ due ring s 21 → k s) :
    forC (fun (x44 : Int) (s46 : (List Int)) (k47 : ((List Int)) → Prop) => (CMulW x44 ring ∧ (by_ ≠ 0 ∧ (if (decide (V.int (Int.fmod (due + (x44 * ring)) by_) = V.int (0 : Int))) = true then (CMulW x44 ring ∧ (CDivN (due + (x44 * ring)) by_ ∧ (if (decide ((0 : Int) ≤ (Int.fdiv (due + (x44 * ring)) by_))) = true then (if (decide ((Int.fdiv (due + (x44 * ring)) by_) < ring)) = true then (CMulW x44 ring ∧ (CDivN (due + (x44 * ring)) by_ ∧ (s46.length < 16777216 ∧ (k47 ((s46 ++ [(Int.fdiv (due + (x44 * ring)) by_)])))))) else (k47 (s46))) else (k47 (s46))))) else (k47 (s46)))))) (rangeI (-(20 : Int)) (21 : Int)) (([] : List Int)) k := by
  have cm : ∀ u : Int, -20 ≤ u → u < 21 → CMulW u ring := fun u u0 u1 => wide_mul (a := 5) (b := 899) (by omega) (by omega) (by decide) (by decide) (by decide)
  have rng : ∀ (m : Nat) (t : Int) (s : List Int), 21 = t + m → -20 ≤ t → DayI by_ due ring s t → forC (fun (x44 : Int) (s46 : (List Int)) (k47 : ((List Int)) → Prop) => (CMulW x44 ring ∧ (by_ ≠ 0 ∧ (if (decide (V.int (Int.fmod (due + (x44 * ring)) by_) = V.int (0 : Int))) = true then (CMulW x44 ring ∧ (CDivN (due + (x44 * ring)) by_ ∧ (if (decide ((0 : Int) ≤ (Int.fdiv (due + (x44 * ring)) by_))) = true then (if (decide ((Int.fdiv (due + (x44 * ring)) by_) < ring)) = true then (CMulW x44 ring ∧ (CDivN (due + (x44 * ring)) by_ ∧ (s46.length < 16777216 ∧ (k47 ((s46 ++ [(Int.fdiv (due + (x44 * ring)) by_)])))))) else (k47 (s46))) else (k47 (s46))))) else (k47 (s46)))))) (rangeI t (21 : Int)) s k := by
    intro m
    induction m with
    | zero =>
      intro t s e21 t0 d
      have : t = 21 := by omega
      subst this
      have : rangeI 21 21 = [] := by unfold rangeI; simp
      rw [this]
      exact q s d
    | succ m ih =>
      intro t s e21 t0 d
      have ec : rangeI t 21 = t :: rangeI (t + 1) 21 := by
        unfold rangeI
        rw [show (21 - t).toNat = (21 - (t + 1)).toNat + 1 by omega, List.range_succ_eq_map, List.map_cons, List.map_map]
        congr 1
        · omega
        · refine List.map_congr_left fun i _ => ?_
          show t + ((i + 1 : Nat) : Int) = t + 1 + (i : Int)
          omega
      rw [ec]
      have sl := d.l
      have keep : ¬ (∃ q, 0 ≤ q ∧ q < ring ∧ by_ * q = due + t * ring) → DayI by_ due ring s (t + 1) := fun no => by
        refine ⟨fun q => ?_, d.nd, by omega⟩
        rw [d.mem]
        constructor
        · rintro ⟨a, b, u, u0, u1, e⟩
          exact ⟨a, b, u, u0, by omega, e⟩
        · rintro ⟨a, b, u, u0, u1, e⟩
          by_cases z : u = t
          · subst z
            exact absurd ⟨q, a, b, e⟩ no
          · exact ⟨a, b, u, u0, by omega, e⟩
      refine ⟨cm t t0 (by omega), hb, ?_⟩
      by_cases c1 : Int.fmod (due + t * ring) by_ = 0
      · rw [if_pos (by rw [eqI']; exact c1)]
        refine ⟨cm t t0 (by omega), ⟨hb, hb2⟩, ?_⟩
        obtain ⟨g, hg⟩ := fmod_dvd.mp c1
        have ef : Int.fdiv (due + t * ring) by_ = g := fdiv_of hb hg
        rw [ef]
        have uniq : ∀ q, by_ * q = due + t * ring → q = g := fun q hq => by
          rw [hg] at hq
          exact Int.eq_of_mul_eq_mul_left hb hq
        by_cases c2 : 0 ≤ g
        · rw [if_pos (decide_eq_true c2)]
          by_cases c3 : g < ring
          · rw [if_pos (decide_eq_true c3)]
            refine ⟨cm t t0 (by omega), ⟨hb, hb2⟩, by omega, ih (t + 1) _ (by omega) (by omega) ⟨fun q => ?_, ?_, ?_⟩⟩
            · rw [List.mem_append, d.mem, List.mem_singleton]
              constructor
              · rintro (⟨a, b, u, u0, u1, e⟩ | rfl)
                · exact ⟨a, b, u, u0, by omega, e⟩
                · exact ⟨c2, c3, t, t0, by omega, hg.symm⟩
              · rintro ⟨a, b, u, u0, u1, e⟩
                by_cases z : u = t
                · subst z
                  exact .inr (uniq q e)
                · exact .inl ⟨a, b, u, u0, by omega, e⟩
            · refine List.nodup_append.mpr ⟨d.nd, List.nodup_cons.mpr ⟨List.not_mem_nil, List.nodup_nil⟩, fun x hx y hy => ?_⟩
              rw [List.mem_singleton.mp hy]
              rintro rfl
              obtain ⟨_, _, u, _, u1, eu⟩ := (d.mem _).mp hx
              rw [← hg] at eu
              have : (u - t) * ring = 0 := by rw [Int.sub_mul]; omega
              rcases Int.mul_eq_zero.mp this with z | z <;> omega
            · rw [List.length_append, List.length_singleton]
              omega
          · rw [if_neg (by simpa using c3)]
            exact ih (t + 1) s (by omega) (by omega) (keep fun ⟨q, a, b, e⟩ => by rw [uniq q e] at b; omega)
        · rw [if_neg (by simpa using c2)]
          exact ih (t + 1) s (by omega) (by omega) (keep fun ⟨q, a, b, e⟩ => by rw [uniq q e] at a; omega)
      · rw [if_neg (by rw [eqI']; exact c1)]
        exact ih (t + 1) s (by omega) (by omega) (keep fun ⟨q, a, b, e⟩ => c1 (fmod_dvd.mpr ⟨q, e.symm⟩))
  exact rng 41 (-20) [] (by omega) (by omega) ⟨fun q => ⟨fun h => absurd h List.not_mem_nil, fun ⟨_, _, u, u0, u1, _⟩ => by omega⟩, List.nodup_nil, by decide⟩
theorem mul_bd {b q ring : Int} (hb : b.natAbs ≤ 14) (q0 : 0 ≤ q) (q1 : q < ring) : -(14 * ring) ≤ b * q ∧ b * q ≤ 14 * ring := by
  have h1 : b * q ≤ 14 * q := Int.mul_le_mul_of_nonneg_right (by omega) q0
  have h2 : (-14) * q ≤ b * q := Int.mul_le_mul_of_nonneg_right (by omega) q0
  omega
theorem u_bd {u ring : Int} (r0 : 0 < ring) (h1 : -(16 * ring) ≤ u * ring) (h2 : u * ring ≤ 16 * ring) : -20 ≤ u ∧ u < 21 := by
  constructor
  · refine Classical.byContradiction fun n => ?_
    have := Int.mul_le_mul_of_nonneg_right (show u ≤ -21 by omega) (Int.le_of_lt r0)
    omega
  · refine Classical.byContradiction fun n => ?_
    have := Int.mul_le_mul_of_nonneg_right (show 21 ≤ u by omega) (Int.le_of_lt r0)
    omega
theorem turn_dvd {b due ring q : Int} (hb : b.natAbs ≤ 14) (r0 : 0 < ring) (d0 : 0 ≤ due) (d1 : due ≤ 2 * ring) (q0 : 0 ≤ q) (q1 : q < ring) : (∃ u, -20 ≤ u ∧ u < 21 ∧ b * q = due + u * ring) ↔ ring ∣ due - b * q := by
  constructor
  · rintro ⟨u, _, _, e⟩
    exact ⟨-u, by rw [e, Int.mul_comm ring (-u), Int.neg_mul]; omega⟩
  · rintro ⟨v, e⟩
    obtain ⟨m1, m2⟩ := mul_bd hb q0 q1
    have e2 : (-v) * ring = b * q - due := by rw [Int.neg_mul, Int.mul_comm v ring]; omega
    obtain ⟨u0, u1⟩ := u_bd (u := -v) r0 (by omega) (by omega)
    exact ⟨-v, u0, u1, by omega⟩
theorem daysof_ok {r : RT} (h : RV r) {ring a b : Int} (r3 : 3 ≤ ring) (bg : ring.natAbs < 2 ^ 899) (a0 : 0 ≤ a) (a1 : a ≤ ring) (b0 : 0 ≤ b) (b1 : b ≤ ring) (ab : a ≠ b) {k : List Int → Prop} (q : k (roundsF r.1 (ring + 1) a b)) : M_days_of r ring a b k := by
  have s0 := h.s0
  have s7 := h.s7
  unfold M_days_of
  refine ⟨fun p => p.1 ≠ 0 ∧ p.1.natAbs ≤ 14 ∧ 0 ≤ p.2 ∧ p.2 ≤ 2 * ring ∧ ∀ q, meets r.1 (ring + 1) a b q ↔ ring ∣ p.2 - p.1 * q, ?_, fun p ⟨p0, p14, d0, d1, hm⟩ => ?_⟩
  · rw [inV2]
    have e1 : ring + 1 - 1 = ring := by omega
    by_cases c : ring = a ∨ ring = b
    · rw [if_pos (decide_eq_true c)]
      refine ⟨s0, by show r.1.natAbs ≤ 14; omega, ?_, ?_, fun q => ?_⟩
      · show 0 ≤ (if b < a then b else a)
        split <;> omega
      · show (if b < a then b else a) ≤ 2 * ring
        split <;> omega
      · unfold meets
        rw [e1]
        by_cases c1 : a = ring
        · rw [if_pos c1, if_pos (show b < a by omega)]
        · rw [if_neg c1, if_pos (show b = ring by omega), if_neg (show ¬ b < a by omega)]
    · rw [if_neg (by simpa using c)]
      refine ⟨by show 2 * r.1 ≠ 0; omega, by show (2 * r.1).natAbs ≤ 14; omega, by show 0 ≤ a + b; omega, by show a + b ≤ 2 * ring; omega, fun q => ?_⟩
      unfold meets
      rw [e1, if_neg (by omega), if_neg (by omega)]
  · refine days_for p0 (by omega) (by omega) bg fun s D ys pm sy => ?_
    have e : ys = roundsF r.1 (ring + 1) a b := asc_ext (perm_asc pm D.nd sy) (roundsF_asc s0 (by omega)) fun x => by
      rw [pm.mem_iff, D.mem, roundsF_mem s0 (by omega), hm]
      constructor
      · rintro ⟨x0, x1, hu⟩
        exact ⟨x0, by omega, (turn_dvd p14 (by omega) d0 d1 x0 x1).mp hu⟩
      · rintro ⟨x0, x1, hd⟩
        exact ⟨x0, by omega, (turn_dvd p14 (by omega) d0 d1 x0 (by omega)).mpr hd⟩
    rw [e]
    exact q
/-! ### hosts and signs -/
theorem host_ok {s : Str} (h : s ∈ standers) {d : Int} {K : Str → Prop} (q : K (S [standF s d])) : M_host s d K := by
  unfold M_host
  simp only [standers, List.mem_cons, List.not_mem_nil, or_false] at h
  rcases h with e | e | e | e <;> subst e
  · rw [if_pos (by decide +kernel)]
    refine ⟨fun r => r = S [standF "home" d], ?_, fun r hr => by rw [hr]; exact q⟩
    rw [if_pos (by simp)]
    show "h" = S [standF "home" d]
    rw [S_h]
    unfold standF
    rw [if_pos rfl]
  · rw [if_pos (by decide +kernel)]
    refine ⟨fun r => r = S [standF "away" d], ?_, fun r hr => by rw [hr]; exact q⟩
    rw [if_neg (by decide +kernel)]
    show "a" = S [standF "away" d]
    rw [S_a]
    unfold standF
    rw [if_neg (by decide +kernel), if_pos rfl]
  · rw [if_neg (by decide +kernel)]
    refine ⟨fun r => r = S [standF "even" d], ?_, fun r hr => by rw [hr]; exact q⟩
    by_cases f : d % 2 = 0
    · rw [if_pos (by rw [f]; decide +kernel)]
      show "h" = S [standF "even" d]
      rw [S_h]
      unfold standF
      rw [if_neg (by decide +kernel), if_neg (by decide +kernel), if_pos rfl, if_pos f]
    · have f1 : d % 2 = 1 := by omega
      rw [if_neg (by rw [f1]; decide +kernel)]
      show "a" = S [standF "even" d]
      rw [S_a]
      unfold standF
      rw [if_neg (by decide +kernel), if_neg (by decide +kernel), if_pos rfl, if_neg f]
  · rw [if_neg (by decide +kernel)]
    refine ⟨fun r => r = S [standF "odd" d], ?_, fun r hr => by rw [hr]; exact q⟩
    by_cases f : d % 2 = 0
    · rw [if_neg (by rw [f]; decide +kernel)]
      show "a" = S [standF "odd" d]
      rw [S_a]
      unfold standF
      rw [if_neg (by decide +kernel), if_neg (by decide +kernel), if_neg (by decide +kernel), if_pos f]
    · have f1 : d % 2 = 1 := by omega
      rw [if_pos (by rw [f1]; decide +kernel)]
      show "h" = S [standF "odd" d]
      rw [S_h]
      unfold standF
      rw [if_neg (by decide +kernel), if_neg (by decide +kernel), if_neg (by decide +kernel), if_neg f]
theorem contr_ok {c : Nat} (h : M1 c) {K : Str → Prop} (q : K (S [ctrc c])) : M_contrary (S [c]) K := by
  unfold M_contrary
  refine ⟨fun r => r = S [ctrc c], ?_, fun r hr => by rw [hr]; exact q⟩
  rcases h with rfl | rfl
  · rw [if_pos (by rw [S_h]; simp)]
    exact S_a
  · rw [if_neg (by rw [S_h, eqM]; decide)]
    exact S_h
theorem at_neg {xs : List Nat} {i : Int} {c : Nat} (h0 : i < 0) (h1 : -(xs.length : Int) ≤ i) (h : xs[(i + xs.length).toNat]? = some c) : atI xs i = some c := by
  unfold atI ixN
  rw [if_neg (by omega), if_pos h1]
  exact h
theorem markw_ok {w : Str × Str × Str} (hw : WV w) {p i : Int} (hp : lst w ≤ p) (h1 : 1 ≤ i) (h2 : i ≤ p) {k : Str → Prop} (q : k (S [wmF w p i])) : M_mark w p i k := by
  have g := @lst_ge w
  have m1 := hw.m1
  unfold M_mark
  refine ⟨line4 hw.h4, ?_⟩
  have hc := wmF_at hp h1 h2
  generalize wmF w p i = c at hc q
  by_cases b1 : i ≤ (L w.1).length
  · rw [if_pos (by rw [len_L]; simpa using b1)]
    refine ⟨line4 hw.h4, c, at_nat' (by omega) ?_, q⟩
    rw [row_head (by omega)] at hc
    exact hc
  · rw [if_neg (by rw [len_L]; simpa using b1)]
    refine ⟨line4 hw.t4, ?_⟩
    by_cases b2 : p - i < (L w.2.2).length
    · rw [if_pos (by rw [len_L]; simpa using b2)]
      have el : (w.2.2.cps.toList).length = (L w.2.2).length := rfl
      refine ⟨line4 hw.t4, c, at_neg (by omega) (by rw [el]; omega) ?_, q⟩
      rw [row_tail (by omega) (by omega)] at hc
      rw [← hc]
      show (L w.2.2)[_]? = _
      congr 1
      rw [el]
      omega
    · rw [if_neg (by rw [len_L]; simpa using b2)]
      refine ⟨line4 hw.h4, line4 hw.m4, (by rw [len_L]; omega), line4 hw.m4, c, at_nat' (Int.emod_nonneg _ (by rw [len_L]; omega)) ?_, q⟩
      rw [row_mid (by omega) (by omega) (by omega) (by omega)] at hc
      rw [← hc]
      congr 1
      rw [len_L, len_L, emod_nat (by omega)]
      congr 1
      omega
theorem ctrc_M1 (c : Nat) : M1 (ctrc c) := ctrc_mk c
theorem turnc_ok {r : RT} {d : Int} {c : Nat} (h : M1 c) {F : Prop} [Decidable F] {K : Str → Prop} (q : K (S [if F then ctrc (tIf r d c) else tIf r d c])) :
    ∃ KB47 : Str → Prop, (if r.2.2.2 = true then (if (!(decide (V.bl (decide F) = V.bl (decide (V.int (d % (2 : Int)) = V.int (1 : Int)))))) = true then (M_contrary (S [c]) fun r50 => (KB47 r50)) else (KB47 (S [c]))) else (if (!(decide (V.bl (decide F) = V.bl false))) = true then (M_contrary (S [c]) fun r55 => (KB47 r55)) else (KB47 (S [c])))) ∧ ∀ r60 : Str, KB47 r60 → (K r60) := by
  refine ⟨fun s => s = S [if F then ctrc (tIf r d c) else tIf r d c], ?_, fun s hs => by rw [hs]; exact q⟩
  have cc := ctrc_ctrc h
  unfold tIf
  by_cases b : r.2.2.2 = true
  · rw [if_pos b]
    by_cases f : d % 2 = 1
    · rw [if_pos (c := r.2.2.2 = true ∧ d % 2 = 1) ⟨b, f⟩]
      by_cases g : F
      · rw [if_neg (by rw [f]; simp [g]), if_pos g, cc]
      · rw [if_pos (by rw [f]; simp [g]), if_neg g]
        exact contr_ok h rfl
    · rw [if_neg (c := r.2.2.2 = true ∧ d % 2 = 1) (fun z => f z.2)]
      have f0 : d % 2 = 0 := by omega
      by_cases g : F
      · rw [if_pos (by rw [f0]; simp [g]), if_pos g]
        exact contr_ok h rfl
      · rw [if_neg (by rw [f0]; simp [g]), if_neg g]
  · rw [if_neg b, if_neg (c := r.2.2.2 = true ∧ d % 2 = 1) (fun z => b z.1)]
    by_cases g : F
    · rw [if_pos (by simp [g]), if_pos g]
      exact contr_ok h rfl
    · rw [if_neg (by simp [g]), if_neg g]
theorem mark_val {r : RT} {ring t d : Int} (r3 : 3 ≤ ring) (odd : ring % 2 = 1) : markF r (ring + 1) t d = if t = ring then standF r.2.2.1 d else if (t - r.1 * d) % ring = 0 then ctrc (standF r.2.2.1 d) else if ring < 2 * ((t - r.1 * d) % ring) then ctrc (tIf r d (wmF r.2.1 (ring / 2) (ring - (t - r.1 * d) % ring))) else tIf r d (wmF r.2.1 (ring / 2) ((t - r.1 * d) % ring)) := by
  have b0 := Int.emod_nonneg (t - r.1 * d) (show ring ≠ 0 by omega)
  have b1 := Int.emod_lt_of_pos (t - r.1 * d) (show 0 < ring by omega)
  unfold markF atF seatF
  rw [show ring + 1 - 1 = ring by omega, show (ring + 1) / 2 - 1 = ring / 2 by omega]
  generalize (t - r.1 * d) % ring = a at b0 b1
  by_cases e : t = ring
  · rw [if_pos e, if_pos e]
  · rw [if_neg e, if_neg e]
    by_cases z : a = 0
    · rw [if_pos (show a < (ring + 1) / 2 by omega), if_pos z, if_pos z]
    · by_cases f : ring < 2 * a
      · rw [if_neg (show ¬ a < (ring + 1) / 2 by omega), if_neg (show ¬ a - ring = 0 by omega), if_neg z, if_neg (show ¬ 0 < a - ring by omega), if_pos f, show (((a - ring).natAbs : Nat) : Int) = ring - a by omega]
      · rw [if_pos (show a < (ring + 1) / 2 by omega), if_neg z, if_neg z, if_pos (show 0 < a by omega), if_neg f, show ((a.natAbs : Nat) : Int) = a by omega]
theorem far_ok {r : RT} (h : RV r) {ring t d : Int} (r3 : 3 ≤ ring) (odd : ring % 2 = 1) (hl : lst r.2.1 ≤ ring / 2) (bg : (ring + 1).natAbs < 2 ^ 899) (d0 : 0 ≤ d) (d1 : d < ring) {K : Str → Prop} (q : K (S [markF r (ring + 1) t d])) : M_far_sign r ring t d K := by
  have s7 := h.s7
  have b0 := Int.emod_nonneg (t - r.1 * d) (show ring ≠ 0 by omega)
  have b1 := Int.emod_lt_of_pos (t - r.1 * d) (show 0 < ring by omega)
  rw [mark_val r3 odd] at q
  unfold M_far_sign
  refine ⟨cmul7 (n := ring + 1) (by omega) d0 (by omega) bg, by omega, ?_⟩
  by_cases e : t = ring
  · rw [if_pos e] at q
    rw [if_pos (by rw [eqI']; exact e)]
    exact host_ok h.st q
  · rw [if_neg e] at q
    rw [if_neg (by rw [eqI']; exact e)]
    generalize (t - r.1 * d) % ring = a at b0 b1 q ⊢
    by_cases z : a = 0
    · rw [if_pos z] at q
      rw [if_pos (by rw [eqI']; exact z)]
      exact host_ok h.st (contr_ok (standF_m _ _) q)
    · rw [if_neg z] at q
      rw [if_neg (by rw [eqI']; exact z)]
      refine ⟨fun i => i = if ring < 2 * a then ring - a else a, ?_, fun i hi => ?_⟩
      · by_cases f : ring < 2 * a
        · rw [if_pos (decide_eq_true f), if_pos f]
        · rw [if_neg (by simpa using f), if_neg f]
      · have i1 : 1 ≤ i ∧ i ≤ ring / 2 := by
          rw [hi]
          split <;> omega
        refine markw_ok h.w hl i1.1 i1.2 (turnc_ok (F := ring < 2 * a) (wmF_m h.w hl i1.1 i1.2) ?_)
        rw [hi]
        by_cases f : ring < 2 * a
        · rw [if_pos f] at q
          rw [if_pos f, if_pos f]
          exact q
        · rw [if_neg f] at q
          rw [if_neg f, if_neg f]
          exact q
theorem count2 {ms : List Nat} (h : ∀ m ∈ ms, M1 m) : ms.count 97 + ms.count 104 = ms.length := by
  induction ms with
  | nil => rfl
  | cons m ms ih =>
    have := ih fun x hx => h x (List.mem_cons_of_mem _ hx)
    rw [List.count_cons, List.count_cons, List.length_cons]
    rcases h m List.mem_cons_self with rfl | rfl
    · simp
      omega
    · simp
      omega
theorem filt_h (ms : List Nat) : ((ms.map fun m => S [m]).filterMap fun s => if s = S [104] then some s else none).length = ms.count 104 := by
  induction ms with
  | nil => rfl
  | cons m ms ih =>
    rw [List.map_cons, List.count_cons]
    by_cases e : m = 104
    · subst e
      rw [List.filterMap_cons_some (b := S [104]) (by rw [if_pos rfl]), List.length_cons, ih]
      simp
    · have e2 : S [m] ≠ S [104] := fun z => e (by
        have := congrArg L z
        rw [L_S, L_S] at this
        simpa using this)
      rw [List.filterMap_cons_none (by rw [if_neg e2]), ih]
      simp [e]
theorem homes_ok {r : RT} (h : RV r) {ring t : Int} {ls : List LT} (hls : LgV ls) {ds : List Int} (r3 : 3 ≤ ring) (odd : ring % 2 = 1) (hl : lst r.2.1 ≤ ring / 2) (bg : (ring + 1).natAbs < 2 ^ 899) (hd : ∀ d ∈ ds, 0 ≤ d ∧ d < ring) (few : ds.length < 100000) (mk : ∀ d ∈ ds, M1 (markF r (ring + 1) t d)) {K : Int → Prop} (q : K ((ls.map fun l => legN (mks r (ring + 1) t ds) l.2.2).sum)) : M_homes r ring ls ds t K := by
  unfold M_homes
  refine ⟨few, ?_⟩
  refine mapC_ok (fun d => S [markF r (ring + 1) t d]) (fun d hd' k' hk => far_ok h r3 odd hl bg (hd d hd').1 (hd d hd').2 hk) ?_
  rw [List.nil_append]
  have e : ds.map (fun d => S [markF r (ring + 1) t d]) = (mks r (ring + 1) t ds).map fun m => S [m] := by
    unfold mks
    rw [List.map_map]
    rfl
  rw [e]
  have hm : ∀ m ∈ mks r (ring + 1) t ds, M1 m := fun m hm => by
    obtain ⟨d, hd', rfl⟩ := List.mem_map.mp hm
    exact mk d hd'
  have hlen : (mks r (ring + 1) t ds).length = ds.length := List.length_map _
  refine ⟨by rw [List.length_map, hlen]; exact few, ?_⟩
  refine filC_ok (fun s => if s = S [104] then some s else none) (fun s hs k' hk => ?_) ?_
  · by_cases c : s = S [104]
    · rw [if_pos c] at hk
      rw [if_pos (by rw [S_h, c]; simp)]
      exact hk
    · rw [if_neg c] at hk
      rw [if_neg (by rw [S_h]; simpa using c)]
      exact hk
  · rw [List.nil_append]
    refine ⟨by have := hls.l4; omega, ?_⟩
    refine mapC_ok (fun l : LT => legN (mks r (ring + 1) t ds) l.2.2) (fun l _ k' hk => ?_) ?_
    · refine ⟨fun v => v = legN (mks r (ring + 1) t ds) l.2.2, ?_, fun v hv => by rw [hv]; exact hk⟩
      have c2 := count2 hm
      rw [filt_h, List.length_map]
      unfold legN
      cases l.2.2 with
      | true =>
        rw [if_pos rfl]
        show _ = (((mks r (ring + 1) t ds).count 97 : Nat) : Int)
        omega
      | false =>
        rw [if_neg (by decide)]
        rfl
    · rw [List.nil_append]
      exact q
theorem rounds_few {st n a b : Int} (s7 : st.natAbs ≤ 7) : (roundsF st n a b).length ≤ 14 := by
  have one : ∀ s p m : Int, s.natAbs ≤ 14 → (roundsL s p m).length ≤ 14 := fun s p m hs => by
    unfold roundsL
    refine Nat.le_trans (List.length_filterMap_le _ _) ?_
    rw [List.length_map, rangeI_len]
    omega
  unfold roundsF
  split
  · exact one _ _ _ (by omega)
  · split
    · exact one _ _ _ (by omega)
    · exact one _ _ _ (by omega)
theorem leg_le (ms : List Nat) (b : Bool) : 0 ≤ legN ms b ∧ legN ms b ≤ ms.length := by
  unfold legN
  have := List.count_le_length (a := if b then 97 else 104) (l := ms)
  omega
theorem legs_bd {ms : List Nat} : ∀ ls : List LT, 0 ≤ (ls.map fun l => legN ms l.2.2).sum ∧ (ls.map fun l => legN ms l.2.2).sum ≤ ls.length * ms.length
  | [] => by simp
  | l :: ls => by
    obtain ⟨a, b⟩ := legs_bd (ms := ms) ls
    obtain ⟨c, d⟩ := leg_le ms l.2.2
    rw [List.map_cons, List.sum_cons, List.length_cons]
    have e : (((ls.length + 1 : Nat)) : Int) * (ms.length : Int) = ls.length * ms.length + ms.length := by rw [Int.natCast_add, Int.add_mul]; simp
    omega
theorem ctr_cnt {ms : List Nat} (h : ∀ m ∈ ms, M1 m) (b : Bool) : legN (ms.map ctrc) b = legN ms (!b) ∧ legN ms b + legN (ms.map ctrc) b = ms.length := by
  have c : ∀ ms : List Nat, (∀ m ∈ ms, M1 m) → (ms.map ctrc).count 97 = ms.count 104 ∧ (ms.map ctrc).count 104 = ms.count 97 := by
    intro ms
    induction ms with
    | nil => intro _; exact ⟨rfl, rfl⟩
    | cons m ms ih =>
      intro h
      obtain ⟨a, b⟩ := ih fun x hx => h x (List.mem_cons_of_mem _ hx)
      rw [List.map_cons, List.count_cons, List.count_cons, List.count_cons, List.count_cons, a, b]
      rcases h m List.mem_cons_self with rfl | rfl <;> exact ⟨rfl, rfl⟩
  obtain ⟨a, d⟩ := c ms h
  have t := count2 h
  unfold legN
  cases b with
  | true =>
    refine ⟨?_, ?_⟩
    · show (((ms.map ctrc).count 97 : Nat) : Int) = ((ms.count 104 : Nat) : Int)
      rw [a]
    · show ((ms.count 97 : Nat) : Int) + (((ms.map ctrc).count 97 : Nat) : Int) = _
      rw [a]
      omega
  | false =>
    refine ⟨?_, ?_⟩
    · show (((ms.map ctrc).count 104 : Nat) : Int) = ((ms.count 97 : Nat) : Int)
      rw [d]
    · show ((ms.count 104 : Nat) : Int) + (((ms.map ctrc).count 104 : Nat) : Int) = _
      rw [d]
      omega
theorem legs_two {ms : List Nat} (h : ∀ m ∈ ms, M1 m) : ∀ ls : List LT, (ls.map fun l => legN ms l.2.2).sum + (ls.map fun l => legN (ms.map ctrc) l.2.2).sum = ms.length * ls.length
  | [] => by simp
  | l :: ls => by
    have := legs_two h ls
    have := (ctr_cnt h l.2.2).2
    rw [List.map_cons, List.sum_cons, List.map_cons, List.sum_cons, List.length_cons]
    have e : (ms.length : Int) * (((ls.length + 1 : Nat)) : Int) = ms.length * ls.length + ms.length := by rw [Int.natCast_add, Int.mul_add]; simp
    omega
theorem small_i {i : Int} (h0 : 0 ≤ i) (h : i ≤ 1000) : i.natAbs < 2 ^ 1920 := by
  have e : i.natAbs < 2 ^ 10 := by omega
  exact Nat.lt_of_lt_of_le e (Nat.pow_le_pow_right (by decide) (by decide))
theorem mates {r : RT} (h : RV r) {n a b : Int} (hn : 2 * lst r.2.1 + 2 ≤ n) (ev : n % 2 = 0) (a0 : 0 ≤ a) (a1 : a < n) (b0 : 0 ≤ b) (b1 : b < n) (ab : a ≠ b) : mks r n b (roundsF r.1 n a b) = (mks r n a (roundsF r.1 n a b)).map ctrc := by
  have l1 := @lst_ge r.2.1
  unfold mks
  rw [List.map_map]
  refine List.map_congr_left fun d hd => ?_
  obtain ⟨d0, d1, hm⟩ := (roundsF_mem h.s0 (by omega)).mp hd
  have e := opp_meets (by omega) ev a0 a1 b0 b1 ab hm
  show markF r n b d = ctrc (markF r n a d)
  rw [← markF_opp h hn ev a0 a1, e]
theorem pairr_ok {r : RT} (h : RV r) {ring a b : Int} {ls : List LT} (hls : LgV ls) (r3 : 3 ≤ ring) (odd : ring % 2 = 1) (hl : lst r.2.1 ≤ ring / 2) (bg : (ring + 1).natAbs < 2 ^ 899) (bg2 : ring.natAbs < 2 ^ 899) (a0 : 0 ≤ a) (a1 : a ≤ ring) (b0 : 0 ≤ b) (b1 : b ≤ ring) (ab : a ≠ b) {K : Bool → Prop} (q : K true) : M_pair_right r r ring ls a b K := by
  have hn : 2 * lst r.2.1 + 2 ≤ ring + 1 := by omega
  have ev : (ring + 1) % 2 = 0 := by omega
  have few := @rounds_few r.1 (ring + 1) a b h.s7
  have few2 := @rounds_few r.1 (ring + 1) b a h.s7
  have hm : ∀ t, ∀ m ∈ mks r (ring + 1) t (roundsF r.1 (ring + 1) a b), M1 m := fun t m hm => by
    obtain ⟨d, _, rfl⟩ := List.mem_map.mp hm
    exact markF_m h hn ev
  have hd : ∀ d ∈ roundsF r.1 (ring + 1) a b, 0 ≤ d ∧ d < ring := fun d hd => by
    obtain ⟨d0, d1, _⟩ := (roundsF_mem h.s0 (by omega)).mp hd
    exact ⟨d0, by omega⟩
  have mt := mates h hn ev a0 (by omega) b0 (by omega) ab
  have ml : (mks r (ring + 1) a (roundsF r.1 (ring + 1) a b)).length = (roundsF r.1 (ring + 1) a b).length := List.length_map _
  have two := legs_two (hm a) ls
  have bd1 := legs_bd (ms := mks r (ring + 1) a (roundsF r.1 (ring + 1) a b)) ls
  have l4 := hls.l4
  have pr : (ls.length : Int) * ((roundsF r.1 (ring + 1) a b).length : Int) ≤ 56 := by
    have := Int.mul_le_mul_of_nonneg_right (show (ls.length : Int) ≤ 4 by omega) (show 0 ≤ ((roundsF r.1 (ring + 1) a b).length : Int) by omega)
    omega
  unfold M_pair_right
  refine daysof_ok h r3 bg2 a0 a1 b0 b1 ab (roundsof_ok h hn ev bg a0 (by omega) b0 (by omega) ab ?_)
  rw [show (if a = ring + 1 - 1 then roundsL r.1 b (ring + 1 - 1) else if b = ring + 1 - 1 then roundsL r.1 a (ring + 1 - 1) else roundsL (2 * r.1) (a + b) (ring + 1 - 1)) = roundsF r.1 (ring + 1) a b from rfl]
  refine ⟨⟨ints_plain _, ints_plain _, ints_shaped _, ints_shaped _⟩, ?_⟩
  rw [if_neg (by rw [eqv_ints _ []]; decide)]
  refine homes_ok h hls r3 odd hl bg hd (by omega) (fun d _ => markF_m h hn ev) (homes_ok h hls r3 odd hl bg hd (by omega) (fun d _ => markF_m h hn ev) ?_)
  refine pairh_ok h hls hn ev bg a0 (by omega) b0 (by omega) ab (by omega) ?_
  have o := oks_int (small_i bd1.1 (by rw [ml] at bd1; omega))
  refine ⟨o.rp (by decide) (by decide), o.rp (by decide) (by decide), ?_⟩
  have same : phF r (ring + 1) ls a b = (ls.map fun l => legN (mks r (ring + 1) a (roundsF r.1 (ring + 1) a b)) l.2.2).sum := rfl
  rw [same, if_neg (by simp)]
  refine pairhT_ok h hls hn ev bg b0 (by omega) a0 (by omega) (Ne.symm ab) (by omega) ?_
  have sw : phF r (ring + 1) ls b a = (ls.map fun l => legN (mks r (ring + 1) b (roundsF r.1 (ring + 1) a b)) l.2.2).sum := by
    unfold phF
    rw [roundsF_swap h.s0 (by omega) ab]
  rw [sw, if_neg (by simp)]
  refine ⟨by omega, ?_⟩
  refine mapC_ok (fun l : LT => (l.1, l.2.1, !l.2.2)) (fun l _ k' hk => hk) ?_
  rw [List.nil_append]
  refine ⟨cm3 (a := 4) (by omega) (by decide) (by omega) (by decide), ?_⟩
  rw [mt, if_neg (by rw [two, ml]; simp)]
  have hls2 : LgV (ls.map fun l : LT => (l.1, l.2.1, !l.2.2)) := ⟨fun x hx => by
    obtain ⟨l, hl, rfl⟩ := List.mem_map.mp hx
    exact ⟨(hls.l l hl).b0, (hls.l l hl).b3, (hls.l l hl).w⟩, by rw [List.length_map]; exact hls.p, by rw [List.length_map]; exact l4⟩
  refine pairh_ok h hls2 hn ev bg a0 (by omega) b0 (by omega) ab (by omega) ?_
  have fl : phF r (ring + 1) (ls.map fun l : LT => (l.1, l.2.1, !l.2.2)) a b = (ls.map fun l => legN ((mks r (ring + 1) a (roundsF r.1 (ring + 1) a b)).map ctrc) l.2.2).sum := by
    unfold phF
    rw [List.map_map]
    congr 1
    refine List.map_congr_left fun l _ => ?_
    exact ((ctr_cnt (hm a) l.2.2).1).symm
  rw [fl]
  have t : decide (V.int (ls.map fun l => legN ((mks r (ring + 1) a (roundsF r.1 (ring + 1) a b)).map ctrc) l.2.2).sum = V.int (ls.map fun l => legN ((mks r (ring + 1) a (roundsF r.1 (ring + 1) a b)).map ctrc) l.2.2).sum) = true := decide_eq_true rfl
  exact t ▸ q
theorem mul_L (x : Str) {k : Nat} (hk : 1 ≤ k) : L (Txt.mul x (k : Int)) = (List.replicate k (L x)).flatten := by
  unfold Txt.mul
  rw [if_neg (by omega)]
  by_cases c : (((k : Int) == 1) || x.length == 0) = true
  · rw [if_pos c]
    simp only [Bool.or_eq_true, beq_iff_eq] at c
    rcases c with c | c
    · have : k = 1 := by omega
      subst this
      simp
    · rw [len_L] at c
      rw [List.length_eq_zero_iff.mp c]
      simp
  · rw [if_neg c, Int.toNat_natCast]
    have go : ∀ (n : Nat) (acc : Array Nat), ((List.replicate n x.cps).foldl (· ++ ·) acc).toList = acc.toList ++ (List.replicate n x.cps.toList).flatten := by
      intro n
      induction n with
      | zero => intro acc; simp
      | succ n ih =>
        intro acc
        rw [List.replicate_succ, List.foldl_cons, ih, List.replicate_succ, List.flatten_cons, Array.toList_append, List.append_assoc]
    have := go k #[]
    simpa [L] using this
theorem mul_L0 (x : Str) (k : Nat) : L (Txt.mul x (k : Int)) = (List.replicate k (L x)).flatten := by
  cases k with
  | zero =>
    unfold Txt.mul
    rw [if_pos (by omega)]
    rfl
  | succ k => exact mul_L x (by omega)
theorem mulok0 {x : Str} {k : Nat} (h : (L x).length ≤ 4) (hk : k ≤ 1000) : MulOk x (k : Int) := by
  have hl : x.length ≤ 4 := by rw [len_L]; exact h
  refine ⟨?_, fun h1 _ => ?_, fun h1 _ => ?_⟩
  · rw [Bool.or_eq_false_iff, decide_eq_false_iff_not, decide_eq_false_iff_not]
    omega
  · have a : (4 : Int) ≤ (2 ^ 63 - 1) / (k : Int) := Int.le_ediv_of_mul_le (by omega) (by omega)
    have : (x.length : Int) ≤ 4 := by omega
    omega
  · unfold Builtin.Str.tooLong
    rw [decide_eq_false_iff_not, Int.toNat_natCast]
    have e : sizeLine = 16777216 := sizeLine_eq
    have : x.length * k ≤ 4 * 1000 := Nat.mul_le_mul hl hk
    omega
theorem cyc_rep {m : List Nat} (hm : 0 < m.length) : ∀ k : Nat, (List.replicate k m).flatten = cyc m (k * m.length)
  | 0 => by rw [Nat.zero_mul]; rfl
  | k + 1 => by
    rw [List.replicate_succ, List.flatten_cons, cyc_rep hm k, Nat.succ_mul, Nat.add_comm, cyc_add hm]
theorem cut_takeN (z : Str) {n : Nat} (h : n ≤ (L z).length) : L (cutS z none (some (n : Int))) = (L z).take n := by
  unfold cutS
  rw [L_mk, HT.sIx_none, HT.sIx_nat, List.drop_zero, Nat.sub_zero, Nat.min_eq_left (by rw [len_L]; exact h)]

theorem line_ok {w : Str × Str × Str} (hw : WV w) {p : Int} (hp : lst w ≤ p) (hp2 : p ≤ 900) {k : Str → Prop} (q : ∀ z : Str, L z = rw_ w p → k z) : M_line w p k := by
  have g := @lst_ge w
  have h4 := hw.h4
  have t4 := hw.t4
  have m1 := hw.m1
  have m4 := hw.m4
  have ell : (w.1 ++ w.2.2).length = (L w.1).length + (L w.2.2).length := by rw [len_L, L_app, List.length_append]
  unfold M_line
  rw [ell]
  obtain ⟨n, hn⟩ : ∃ n : Nat, p - (((L w.1).length + (L w.2.2).length : Nat) : Int) = (n : Int) := ⟨(p - (((L w.1).length + (L w.2.2).length : Nat) : Int)).toNat, by omega⟩
  rw [hn]
  have n9 : n ≤ 900 := by omega
  rw [show ((n : Int) + 1) = ((n + 1 : Nat) : Int) by omega]
  have em : L (Txt.mul w.2.1 ((n + 1 : Nat) : Int)) = cyc (L w.2.1) ((n + 1) * (L w.2.1).length) := by rw [mul_L0, cyc_rep (by omega)]
  have lm : (L (Txt.mul w.2.1 ((n + 1 : Nat) : Int))).length = (n + 1) * (L w.2.1).length := by rw [em, cyc_len]
  have lb : (n + 1) * (L w.2.1).length ≤ 901 * 4 := Nat.mul_le_mul (by omega) m4
  have ln : n ≤ (n + 1) * (L w.2.1).length := Nat.le_trans (Nat.le_succ n) (Nat.le_mul_of_pos_right _ (by omega))
  have ec : L (cutS (Txt.mul w.2.1 ((n + 1 : Nat) : Int)) none (some (n : Int))) = cyc (L w.2.1) n := by
    rw [cut_takeN _ (by rw [lm]; exact ln), em, cyc_take _ ln]
  refine ⟨by rw [len_L, len_L, sizeLine_eq]; omega, by rw [sizeLine_eq]; omega, mulok0 m4 (by omega), by rw [len_L, lm, sizeLine_eq]; omega, ?_, ?_, q _ ?_⟩
  · rw [len_L, len_L, ec, cyc_len, sizeLine_eq]
    omega
  · rw [len_L, len_L, L_app, ec, List.length_append, cyc_len, sizeLine_eq]
    omega
  · rw [L_app, L_app, ec]
    unfold rw_ row
    congr 2
    congr 1
    omega
theorem sign_ok {r : RT} (h : RV r) {ring t d : Int} {z : Str} (r3 : 3 ≤ ring) (odd : ring % 2 = 1) (hl : lst r.2.1 ≤ ring / 2) (small : ring ≤ 1000) (hz : L z = rw_ r.2.1 (ring / 2)) (d0 : 0 ≤ d) (d1 : d < ring) {K : Str → Prop} (q : K (S [markF r (ring + 1) t d])) : M_sign r z ring t d K := by
  have s7 := h.s7
  have b0 := Int.emod_nonneg (t - r.1 * d) (show ring ≠ 0 by omega)
  have b1 := Int.emod_lt_of_pos (t - r.1 * d) (show 0 < ring by omega)
  have zl : z.length ≤ sizeLine := by
    rw [len_L, hz, rw_len hl, sizeLine_eq]
    omega
  rw [mark_val r3 odd] at q
  unfold M_sign
  by_cases e : t = ring
  · rw [if_pos e] at q
    rw [if_pos (by rw [eqI']; exact e)]
    exact host_ok h.st q
  · rw [if_neg e] at q
    rw [if_neg (by rw [eqI']; exact e)]
    refine ⟨wide_mul (a := 4) (b := 20) (by omega) (by omega) (by decide) (by decide) (by decide), by omega, ?_⟩
    generalize (t - r.1 * d) % ring = a at b0 b1 q ⊢
    by_cases y : a = 0
    · rw [if_pos y] at q
      rw [if_pos (by rw [eqI']; exact y)]
      exact host_ok h.st (contr_ok (standF_m _ _) q)
    · rw [if_neg y] at q
      rw [if_neg (by rw [eqI']; exact y)]
      have at_ : ∀ i : Int, 1 ≤ i → i ≤ ring / 2 → atI z.cps.toList (i - 1) = some (wmF r.2.1 (ring / 2) i) := fun i i1 i2 => at_nat' (by omega) (by
        show (L z)[_]? = _
        rw [hz]
        exact wmF_at hl i1 i2)
      refine ⟨fun s => s = S [wmF r.2.1 (ring / 2) (if ring < 2 * a then ring - a else a)], ?_, fun s hs => ?_⟩
      · by_cases f : ring < 2 * a
        · rw [if_pos (decide_eq_true f), if_pos f]
          exact ⟨zl, _, at_ _ (by omega) (by omega), rfl⟩
        · rw [if_neg (by simpa using f), if_neg f]
          exact ⟨zl, _, at_ _ (by omega) (by omega), rfl⟩
      · rw [hs]
        have i1 : 1 ≤ (if ring < 2 * a then ring - a else a) ∧ (if ring < 2 * a then ring - a else a) ≤ ring / 2 := by split <;> omega
        refine turnc_ok (F := ring < 2 * a) (wmF_m h.w hl i1.1 i1.2) ?_
        by_cases f : ring < 2 * a
        · rw [if_pos f] at q
          rw [if_pos f, if_pos f]
          exact q
        · rw [if_neg f] at q
          rw [if_neg f, if_neg f]
          exact q
theorem neqI' {a b : Int} : ((!decide (V.int a = V.int b)) = true) = ¬ (a = b) := by
  rw [Bool.not_eq_true', ← Bool.not_eq_true, eqI']
def hv (m : Nat) (b : Bool) : Int := if (!(decide (V.bl (decide (V.str (S [m]) = V.str ("h" : Str))) = V.bl b))) = true then (1 : Int) else 0
def dayv (r : RT) (ring a b d : Int) (l : Bool) : Int := if a = ring then (if (b - r.1 * d) % ring = 0 then hv (markF r (ring + 1) a d) l else 0) else if b = ring then (if (a - r.1 * d) % ring = 0 then hv (markF r (ring + 1) a d) l else 0) else (if ((a - r.1 * d) % ring + ((b - r.1 * d) % ring + 0)) % ring = 0 then hv (markF r (ring + 1) a d) l else 0)
def smallB (r : RT) (z : Str) (ring a b : Int) (l : LT) : Int → Int → (Int → Prop) → Prop := (fun (x101 : Int) (s103 : Int) (k104 : Int → Prop) => (([a, b] : List Int).length < 100000 ∧ mapC (fun (x136 : Int) (k129 : Int → Prop) => (CMulW r.1 x101 ∧ (0 < ring ∧ (k129 ((x136 - (r.1 * x101)) % ring))))) ([a, b] : List Int) [] fun ys155 => (0 < ring ∧ (if (decide (V.int ((List.sum ys155) % ring) = V.int (0 : Int))) = true then (if (!(decide (V.int a = V.int ring))) = true then (if (!(decide (V.int b = V.int ring))) = true then (M_sign r z ring a x101 fun r159 => (k104 ((s103 + (if (!(decide (V.bl (decide (V.str r159 = V.str ("h" : Str))) = V.bl l.2.2))) then (1 : Int) else 0))))) else (if (decide (V.int a = V.int ring)) = true then (0 ≤ (1 : Int) ∧ ∃ g167 : Int.toNat (1 : Int) < ys155.length, ∀ x169, x169 = ys155[Int.toNat (1 : Int)]'g167 → (if (decide (V.int x169 = V.int (0 : Int))) = true then (M_sign r z ring a x101 fun r171 => (k104 ((s103 + (if (!(decide (V.bl (decide (V.str r171 = V.str ("h" : Str))) = V.bl l.2.2))) then (1 : Int) else 0))))) else (if (decide (V.int b = V.int ring)) = true then (0 ≤ (0 : Int) ∧ ∃ g179 : Int.toNat (0 : Int) < ys155.length, ∀ x181, x181 = ys155[Int.toNat (0 : Int)]'g179 → (M_sign r z ring a x101 fun r183 => (if (decide (V.int x181 = V.int (0 : Int))) = true then (k104 ((s103 + (if (!(decide (V.bl (decide (V.str r183 = V.str ("h" : Str))) = V.bl l.2.2))) then (1 : Int) else 0)))) else (k104 ((s103 + (if false then (1 : Int) else 0))))))) else (M_sign r z ring a x101 fun r190 => (k104 ((s103 + (if false then (1 : Int) else 0)))))))) else (if (decide (V.int b = V.int ring)) = true then (0 ≤ (0 : Int) ∧ ∃ g196 : Int.toNat (0 : Int) < ys155.length, ∀ x198, x198 = ys155[Int.toNat (0 : Int)]'g196 → (M_sign r z ring a x101 fun r200 => (if (decide (V.int x198 = V.int (0 : Int))) = true then (k104 ((s103 + (if (!(decide (V.bl (decide (V.str r200 = V.str ("h" : Str))) = V.bl l.2.2))) then (1 : Int) else 0)))) else (k104 ((s103 + (if false then (1 : Int) else 0))))))) else (M_sign r z ring a x101 fun r207 => (k104 ((s103 + (if false then (1 : Int) else 0)))))))) else (if (decide (V.int a = V.int ring)) = true then (0 ≤ (1 : Int) ∧ ∃ g213 : Int.toNat (1 : Int) < ys155.length, ∀ x215, x215 = ys155[Int.toNat (1 : Int)]'g213 → (if (decide (V.int x215 = V.int (0 : Int))) = true then (M_sign r z ring a x101 fun r217 => (k104 ((s103 + (if (!(decide (V.bl (decide (V.str r217 = V.str ("h" : Str))) = V.bl l.2.2))) then (1 : Int) else 0))))) else (if (decide (V.int b = V.int ring)) = true then (0 ≤ (0 : Int) ∧ ∃ g225 : Int.toNat (0 : Int) < ys155.length, ∀ x227, x227 = ys155[Int.toNat (0 : Int)]'g225 → (M_sign r z ring a x101 fun r229 => (if (decide (V.int x227 = V.int (0 : Int))) = true then (k104 ((s103 + (if (!(decide (V.bl (decide (V.str r229 = V.str ("h" : Str))) = V.bl l.2.2))) then (1 : Int) else 0)))) else (k104 ((s103 + (if false then (1 : Int) else 0))))))) else (M_sign r z ring a x101 fun r236 => (k104 ((s103 + (if false then (1 : Int) else 0)))))))) else (if (decide (V.int b = V.int ring)) = true then (0 ≤ (0 : Int) ∧ ∃ g242 : Int.toNat (0 : Int) < ys155.length, ∀ x244, x244 = ys155[Int.toNat (0 : Int)]'g242 → (M_sign r z ring a x101 fun r246 => (if (decide (V.int x244 = V.int (0 : Int))) = true then (k104 ((s103 + (if (!(decide (V.bl (decide (V.str r246 = V.str ("h" : Str))) = V.bl l.2.2))) then (1 : Int) else 0)))) else (k104 ((s103 + (if false then (1 : Int) else 0))))))) else (M_sign r z ring a x101 fun r253 => (k104 ((s103 + (if false then (1 : Int) else 0)))))))) else (if (decide (V.int a = V.int ring)) = true then (0 ≤ (1 : Int) ∧ ∃ g259 : Int.toNat (1 : Int) < ys155.length, ∀ x261, x261 = ys155[Int.toNat (1 : Int)]'g259 → (if (decide (V.int x261 = V.int (0 : Int))) = true then (M_sign r z ring a x101 fun r263 => (k104 ((s103 + (if (!(decide (V.bl (decide (V.str r263 = V.str ("h" : Str))) = V.bl l.2.2))) then (1 : Int) else 0))))) else (if (decide (V.int b = V.int ring)) = true then (0 ≤ (0 : Int) ∧ ∃ g271 : Int.toNat (0 : Int) < ys155.length, ∀ x273, x273 = ys155[Int.toNat (0 : Int)]'g271 → (M_sign r z ring a x101 fun r275 => (if (decide (V.int x273 = V.int (0 : Int))) = true then (k104 ((s103 + (if (!(decide (V.bl (decide (V.str r275 = V.str ("h" : Str))) = V.bl l.2.2))) then (1 : Int) else 0)))) else (k104 ((s103 + (if false then (1 : Int) else 0))))))) else (M_sign r z ring a x101 fun r282 => (k104 ((s103 + (if false then (1 : Int) else 0)))))))) else (if (decide (V.int b = V.int ring)) = true then (0 ≤ (0 : Int) ∧ ∃ g288 : Int.toNat (0 : Int) < ys155.length, ∀ x290, x290 = ys155[Int.toNat (0 : Int)]'g288 → (M_sign r z ring a x101 fun r292 => (if (decide (V.int x290 = V.int (0 : Int))) = true then (k104 ((s103 + (if (!(decide (V.bl (decide (V.str r292 = V.str ("h" : Str))) = V.bl l.2.2))) then (1 : Int) else 0)))) else (k104 ((s103 + (if false then (1 : Int) else 0))))))) else (M_sign r z ring a x101 fun r299 => (k104 ((s103 + (if false then (1 : Int) else 0)))))))))))
theorem small_body {r : RT} (h : RV r) {ring a b d s : Int} {z : Str} {l : LT} (r3 : 3 ≤ ring) (odd : ring % 2 = 1) (hl : lst r.2.1 ≤ ring / 2) (small : ring ≤ 1000) (hz : L z = rw_ r.2.1 (ring / 2)) (d0 : 0 ≤ d) (d1 : d < ring) (ab : a ≠ b) {k : Int → Prop} (q : k (s + dayv r ring a b d l.2.2)) : smallB r z ring a b l d s k := by
  have s7 := h.s7
  have sg : ∀ {K : Str → Prop}, K (S [markF r (ring + 1) a d]) → M_sign r z ring a d K := fun q => sign_ok h r3 odd hl small hz d0 d1 q
  unfold smallB
  refine ⟨by simp, ?_⟩
  refine mapC_ok (fun x => (x - r.1 * d) % ring) (fun x _ k' hk => ⟨wide_mul (a := 4) (b := 20) (by omega) (by omega) (by decide) (by decide) (by decide), by omega, hk⟩) ?_
  rw [List.nil_append]
  show 0 < ring ∧ (if (decide (V.int (((a - r.1 * d) % ring + ((b - r.1 * d) % ring + 0)) % ring) = V.int 0)) = true then _ else _)
  unfold dayv at q
  refine ⟨by omega, ?_⟩
  have z0 : s + (if false = true then (1 : Int) else 0) = s := by simp
  have pI : ∀ {x y : Int}, x = y → (decide (V.int x = V.int y)) = true := fun e => by rw [eqI']; exact e
  have nI : ∀ {x y : Int}, ¬ x = y → ¬ (decide (V.int x = V.int y)) = true := fun e => by rw [eqI']; exact e
  have pN : ∀ {x y : Int}, ¬ x = y → (!(decide (V.int x = V.int y))) = true := fun e => by rw [neqI']; exact e
  have nN : ∀ {x y : Int}, x = y → ¬ (!(decide (V.int x = V.int y))) = true := fun e => by rw [neqI']; exact fun n => n e
  by_cases ea : a = ring
  · have eb : ¬ b = ring := fun e => ab (ea.trans e.symm)
    rw [if_pos ea] at q
    by_cases c : ((a - r.1 * d) % ring + ((b - r.1 * d) % ring + 0)) % ring = 0
    · rw [if_pos (pI c), if_neg (nN ea), if_pos (pI ea)]
      refine ⟨by decide, by simp, fun v hv => ?_⟩
      have hv' : v = (b - r.1 * d) % ring := hv
      by_cases y : (b - r.1 * d) % ring = 0
      · rw [if_pos y] at q
        rw [if_pos (pI (hv'.trans y))]
        exact sg q
      · rw [if_neg y, Int.add_zero] at q
        rw [if_neg (nI (by rw [hv']; exact y)), if_neg (nI eb)]
        refine sg ?_
        rw [z0]
        exact q
    · rw [if_neg (nI c), if_pos (pI ea)]
      refine ⟨by decide, by simp, fun v hv => ?_⟩
      have hv' : v = (b - r.1 * d) % ring := hv
      by_cases y : (b - r.1 * d) % ring = 0
      · rw [if_pos y] at q
        rw [if_pos (pI (hv'.trans y))]
        exact sg q
      · rw [if_neg y, Int.add_zero] at q
        rw [if_neg (nI (by rw [hv']; exact y)), if_neg (nI eb)]
        refine sg ?_
        rw [z0]
        exact q
  · rw [if_neg ea] at q
    by_cases eb : b = ring
    · rw [if_pos eb] at q
      by_cases c : ((a - r.1 * d) % ring + ((b - r.1 * d) % ring + 0)) % ring = 0
      · rw [if_pos (pI c), if_pos (pN ea), if_neg (nN eb), if_neg (nI ea), if_pos (pI eb)]
        refine ⟨by decide, by simp, fun v hv => sg ?_⟩
        have hv' : v = (a - r.1 * d) % ring := hv
        by_cases x : (a - r.1 * d) % ring = 0
        · rw [if_pos x] at q
          rw [if_pos (pI (hv'.trans x))]
          exact q
        · rw [if_neg x, Int.add_zero] at q
          rw [if_neg (nI (by rw [hv']; exact x)), z0]
          exact q
      · rw [if_neg (nI c), if_neg (nI ea), if_pos (pI eb)]
        refine ⟨by decide, by simp, fun v hv => sg ?_⟩
        have hv' : v = (a - r.1 * d) % ring := hv
        by_cases x : (a - r.1 * d) % ring = 0
        · rw [if_pos x] at q
          rw [if_pos (pI (hv'.trans x))]
          exact q
        · rw [if_neg x, Int.add_zero] at q
          rw [if_neg (nI (by rw [hv']; exact x)), z0]
          exact q
    · rw [if_neg eb] at q
      by_cases c : ((a - r.1 * d) % ring + ((b - r.1 * d) % ring + 0)) % ring = 0
      · rw [if_pos c] at q
        rw [if_pos (pI c), if_pos (pN ea), if_pos (pN eb)]
        exact sg q
      · rw [if_neg c, Int.add_zero] at q
        rw [if_neg (nI c), if_neg (nI ea), if_neg (nI eb)]
        refine sg ?_
        rw [z0]
        exact q
theorem forC_sum {α : Type} {body : α → Int → (Int → Prop) → Prop} {k : Int → Prop} (f : α → Int) : ∀ {xs : List α} {s : Int}, (∀ x ∈ xs, ∀ (s : Int) (k' : Int → Prop), k' (s + f x) → body x s k') → k (s + (xs.map f).sum) → forC body xs s k
  | [], s, _, q => by
    rw [List.map_nil, List.sum_nil, Int.add_zero] at q
    exact q
  | x :: xs, s, hb, q => hb x List.mem_cons_self s _ (forC_sum f (fun y hy => hb y (List.mem_cons_of_mem _ hy)) (by
    rw [List.map_cons, List.sum_cons, ← Int.add_assoc] at q
    exact q))
theorem perm_sum {l1 l2 : List Int} (p : l1.Perm l2) : l1.sum = l2.sum := by
  induction p with
  | nil => rfl
  | cons x _ ih => rw [List.sum_cons, List.sum_cons, ih]
  | swap x y l => simp only [List.sum_cons]; omega
  | trans _ _ i1 i2 => rw [i1, i2]
theorem rangeI_in {lo hi x : Int} : x ∈ rangeI lo hi ↔ lo ≤ x ∧ x < hi := by
  refine ⟨rangeI_mem, fun ⟨h1, h2⟩ => ?_⟩
  unfold rangeI
  exact List.mem_map.mpr ⟨(x - lo).toNat, List.mem_range.mpr (by omega), by omega⟩
theorem emod_dvd {m x y : Int} (h : x % m = y % m) : m ∣ x - y := by
  refine ⟨x / m - y / m, ?_⟩
  have h1 := Int.mul_ediv_add_emod x m
  have h2 := Int.mul_ediv_add_emod y m
  rw [Int.mul_sub]
  omega
theorem days_perm {b w ring : Int} (r0 : 0 < ring) (hw : w = 1 ∨ w = -1) : ((rangeI 0 ring).map fun i => (b + w * i) % ring).Perm (rangeI 0 ring) := by
  refine (List.perm_ext_iff_of_nodup ?_ ?_).mpr fun x => ?_
  · unfold List.Nodup
    rw [List.pairwise_map]
    refine List.Pairwise.imp_of_mem (fun {i j} hi hj hij e => ?_) (rangeI_asc 0 ring)
    obtain ⟨i0, i1⟩ := rangeI_mem hi
    obtain ⟨j0, j1⟩ := rangeI_mem hj
    have d := emod_dvd e
    have d2 : ring ∣ j - i := by
      rcases hw with rfl | rfl
      · obtain ⟨v, hv⟩ := d
        exact ⟨-v, by rw [Int.mul_neg]; omega⟩
      · obtain ⟨v, hv⟩ := d
        exact ⟨v, by omega⟩
    have := Int.le_of_dvd (by omega) d2
    omega
  · exact (rangeI_asc 0 ring).imp fun {i j} h => by omega
  · rw [List.mem_map]
    constructor
    · rintro ⟨i, _, rfl⟩
      exact rangeI_in.mpr ⟨Int.emod_nonneg _ (by omega), Int.emod_lt_of_pos _ r0⟩
    · intro hx
      obtain ⟨x0, x1⟩ := rangeI_mem hx
      refine ⟨(w * (x - b)) % ring, rangeI_in.mpr ⟨Int.emod_nonneg _ (by omega), Int.emod_lt_of_pos _ r0⟩, ?_⟩
      rw [emod_is x0 x1]
      have d := @dvd_emod_sub ring (w * (x - b))
      obtain ⟨v, hv⟩ := d
      rcases hw with rfl | rfl
      · exact ⟨v, by omega⟩
      · exact ⟨-v, by rw [Int.mul_neg]; omega⟩
def pB (r : RT) (ring a b d : Int) : Bool := if a = ring then decide ((b - r.1 * d) % ring = 0) else if b = ring then decide ((a - r.1 * d) % ring = 0) else decide (((a - r.1 * d) % ring + ((b - r.1 * d) % ring + 0)) % ring = 0)
theorem dayv_pB (r : RT) (ring a b d : Int) (l : Bool) : dayv r ring a b d l = if pB r ring a b d = true then hv (markF r (ring + 1) a d) l else 0 := by
  unfold dayv pB
  by_cases ea : a = ring
  · rw [if_pos ea, if_pos ea]
    simp only [decide_eq_true_eq]
  · rw [if_neg ea, if_neg ea]
    by_cases eb : b = ring
    · rw [if_pos eb, if_pos eb]
      simp only [decide_eq_true_eq]
    · rw [if_neg eb, if_neg eb]
      simp only [decide_eq_true_eq]
theorem pB_meets (r : RT) (ring a b d : Int) : pB r ring a b d = true ↔ meets r.1 (ring + 1) a b d := by
  unfold pB meets
  rw [show ring + 1 - 1 = ring by omega]
  by_cases ea : a = ring
  · rw [if_pos ea, if_pos ea, decide_eq_true_eq]
    exact ⟨Int.dvd_of_emod_eq_zero, Int.emod_eq_zero_of_dvd⟩
  · rw [if_neg ea, if_neg ea]
    by_cases eb : b = ring
    · rw [if_pos eb, if_pos eb, decide_eq_true_eq]
      exact ⟨Int.dvd_of_emod_eq_zero, Int.emod_eq_zero_of_dvd⟩
    · rw [if_neg eb, if_neg eb, decide_eq_true_eq, Int.add_zero, ← Int.add_emod]
      have e : a - r.1 * d + (b - r.1 * d) = a + b - 2 * r.1 * d := by rw [Int.mul_assoc]; omega
      rw [e]
      exact ⟨Int.dvd_of_emod_eq_zero, Int.emod_eq_zero_of_dvd⟩
theorem sum_filt {p : Int → Bool} {g : Int → Int} : ∀ xs : List Int, (xs.map fun d => if p d = true then g d else 0).sum = ((xs.filter p).map g).sum
  | [] => rfl
  | x :: xs => by
    rw [List.map_cons, List.sum_cons, sum_filt xs]
    by_cases h : p x = true
    · rw [if_pos h, List.filter_cons_of_pos h, List.map_cons, List.sum_cons]
    · rw [if_neg h, List.filter_cons_of_neg h, Int.zero_add]
theorem hv_sum {ms : List Nat} (h : ∀ m ∈ ms, M1 m) (b : Bool) : (ms.map fun m => hv m b).sum = legN ms b := by
  unfold legN
  induction ms with
  | nil => cases b <;> rfl
  | cons m ms ih =>
    rw [List.map_cons, List.sum_cons, ih fun x hx => h x (List.mem_cons_of_mem _ hx), List.count_cons]
    rcases h m List.mem_cons_self with rfl | rfl <;> cases b
    · rw [show hv 104 false = 1 by decide +kernel]
      simp
      omega
    · rw [show hv 104 true = 0 by decide +kernel]
      simp
    · rw [show hv 97 false = 0 by decide +kernel]
      simp
    · rw [show hv 97 true = 1 by decide +kernel]
      simp
      omega
theorem leg_sum {r : RT} (h : RV r) {ring a b : Int} (r3 : 3 ≤ ring) (odd : ring % 2 = 1) (hl : lst r.2.1 ≤ ring / 2) (l : Bool) : ((rangeI 0 ring).map fun d => dayv r ring a b d l).sum = legN (mks r (ring + 1) a (roundsF r.1 (ring + 1) a b)) l := by
  have e : (rangeI 0 ring).filter (pB r ring a b) = roundsF r.1 (ring + 1) a b := asc_ext ((rangeI_asc 0 ring).sublist List.filter_sublist) (roundsF_asc h.s0 (by omega)) fun x => by
    rw [List.mem_filter, rangeI_in, pB_meets, roundsF_mem h.s0 (by omega)]
    constructor
    · rintro ⟨⟨x0, x1⟩, hm⟩
      exact ⟨x0, by omega, hm⟩
    · rintro ⟨x0, x1, hm⟩
      exact ⟨⟨x0, by omega⟩, hm⟩
  have e2 : ((rangeI 0 ring).map fun d => dayv r ring a b d l) = (rangeI 0 ring).map fun d => if pB r ring a b d = true then hv (markF r (ring + 1) a d) l else 0 := List.map_congr_left fun d _ => dayv_pB r ring a b d l
  rw [e2, sum_filt, e]
  have e3 : (roundsF r.1 (ring + 1) a b).map (fun d => hv (markF r (ring + 1) a d) l) = (mks r (ring + 1) a (roundsF r.1 (ring + 1) a b)).map fun m => hv m l := by
    unfold mks
    rw [List.map_map]
    rfl
  rw [e3]
  refine hv_sum (fun m hm => ?_) l
  obtain ⟨d, _, rfl⟩ := List.mem_map.mp hm
  exact markF_m h (by omega) (by omega)
theorem small_ok {r : RT} (h : RV r) {ring : Int} {ls : List LT} (hls : LgV ls) (r3 : 3 ≤ ring) (odd : ring % 2 = 1) (hl : lst r.2.1 ≤ ring / 2) (small : ring ≤ 1000) {K : Bool → Prop} (q : K true) : M_small_right r r ring ls K := by
  have bg : (ring + 1).natAbs < 2 ^ 899 := Nat.lt_of_lt_of_le (show (ring + 1).natAbs < 2 ^ 12 by omega) (Nat.pow_le_pow_right (by decide) (by decide))
  unfold M_small_right
  refine line_ok h.w hl (by omega) fun z hz => ?_
  refine forC_ok (fun _ => True) (fun a ha s k' _ q' => ?_) trivial fun s _ => q
  obtain ⟨a0, a1⟩ := rangeI_mem ha
  refine ⟨by rw [rangeI_len]; omega, ?_⟩
  refine filC_ok (fun x : Int => if x = a then none else some x) (fun x _ k2 hk2 => ?_) ?_
  · by_cases c : x = a
    · rw [if_pos c] at hk2
      rw [if_neg (by rw [neqI']; exact fun n => n c)]
      exact hk2
    · rw [if_neg c] at hk2
      rw [if_pos (by rw [neqI']; exact c)]
      exact hk2
  · rw [List.nil_append]
    refine forC_ok (fun _ => True) (fun b hb s2 k2 _ q2 => ?_) trivial fun s2 _ => q' () trivial
    obtain ⟨x, hx, ex⟩ := List.mem_filterMap.mp hb
    have exb : x = b ∧ ¬ b = a := by
      by_cases c : x = a
      · rw [if_pos c] at ex
        cases ex
      · rw [if_neg c] at ex
        have := Option.some.inj ex
        exact ⟨this, by rw [← this]; exact c⟩
    obtain ⟨rfl, ba⟩ := exb
    obtain ⟨b0, b1⟩ := rangeI_mem hx
    refine forC_sum (fun l : LT => legN (mks r (ring + 1) a (roundsF r.1 (ring + 1) a x)) l.2.2) (fun l hl' s3 k3 q3 => ?_) ?_
    · unfold M_days
      refine ⟨by rw [rangeI_len]; omega, ?_⟩
      have lw := (hls.l l hl').w
      refine mapC_ok (fun i => (l.1 + l.2.1 * i) % ring) (fun i hi k4 hk4 => ?_) ?_
      · obtain ⟨i0, i1⟩ := rangeI_mem hi
        exact ⟨wide_mul (a := 2) (b := 20) (by omega) (by omega) (by decide) (by decide) (by decide), by omega, hk4⟩
      · rw [List.nil_append]
        show forC (smallB r z ring a x l) _ s3 _
        refine forC_sum (fun d => dayv r ring a x d l.2.2) (fun d hd s4 k4 q4 => ?_) ?_
        · obtain ⟨d0, d1⟩ := rangeI_mem ((days_perm (by omega) lw).mem_iff.mp hd)
          exact small_body h r3 odd hl small hz d0 d1 (Ne.symm ba) q4
        · rw [perm_sum ((days_perm (b := l.1) (by omega) lw).map fun d => dayv r ring a x d l.2.2), leg_sum h r3 odd hl]
          exact q3
    · refine pairh_ok h hls (by omega) (by omega) bg a0 a1 b0 b1 (Ne.symm ba) (by have := @rounds_few r.1 (ring + 1) a x h.s7; omega) ?_
      rw [Int.zero_add]
      rw [if_neg (by rw [neqI']; exact fun n => n rfl)]
      exact q2 () trivial
theorem fewest_ok {r : RT} (hw : WV r.2.1) {K : Int → Prop} (q : K (lst r.2.1)) : M_fewest r K := by
  have h4 := hw.h4
  have t4 := hw.t4
  have ell : (r.2.1.1 ++ r.2.1.2.2).length = (L r.2.1.1).length + (L r.2.1.2.2).length := by rw [len_L, L_app, List.length_append]
  unfold M_fewest
  rw [ell]
  refine ⟨by rw [len_L, len_L, sizeLine_eq]; omega, by rw [sizeLine_eq]; omega, ?_⟩
  rw [Int.natCast_add]
  exact q
theorem great_lt {n T : Int} (hT : T = 10 ^ 58) (h0 : 0 ≤ n) (h : n ≤ 200 * T) : n.natAbs < 2 ^ 300 := by
  subst hT
  have e : (200 : Int) * 10 ^ 58 < 2 ^ 300 := by decide
  have e2 : ((2 ^ 300 : Nat) : Int) = (2 : Int) ^ 300 := by decide
  omega
theorem drawg_ok {n T : Int} (hT : T = 10 ^ 58) {k : Int → Prop} (h0 : 0 < n) (h1 : n ≤ 200 * T) (q : ∀ d, 0 ≤ d → d < n → k d) : M_draw n k := ⟨⟨h0, Nat.lt_of_lt_of_le (PySem.Flt.log2_lt_of (by decide) (great_lt hT (by omega) h1)) (by decide)⟩, q⟩
theorem right_true : M_right fun r => r = true := by
  unfold M_right
  refine sheet_ok fun r h => season_ok fun ls hls => made_ok h (fewest_ok h.w (draw_ok (by decide) (by decide) fun e e0 e1 => ?_))
  have g1 := @lst_ge r.2.1
  have g8 := lst_le h.w
  have s0 := h.s0
  have s7 := h.s7
  refine small_ok h hls (by omega) (by omega) (by omega) (by omega) ?_
  rw [if_neg (by decide)]
  obtain ⟨T, hT⟩ : ∃ T : Int, T = 10 ^ 58 := ⟨_, rfl⟩
  have hT6 : 1000000 ≤ T := by rw [hT]; decide
  refine forC_ok (fun _ => True) (fun g hg s k' _ q' => ?_) trivial fun s _ => rfl
  have gb : 12 ≤ g ∧ g ≤ T := by
    simp only [List.mem_cons, List.not_mem_nil, or_false] at hg
    rw [hT]
    rcases hg with rfl | rfl | rfl | rfl <;> decide
  refine draw_ok (by decide) (by decide) fun x x0 x1 => ?_
  have x2 : x < 1000000 := x1
  refine forC_ok (fun _ => True) (fun t _ s2 k2 _ q2 => ?_) trivial fun s2 _ => q' () trivial
  refine ⟨fun w => 25 ≤ w ∧ w ≤ 100 * T, ?_, fun w ⟨w25, wb⟩ => ?_⟩
  · refine draw_ok (by decide) (by decide) fun y _ _ => ?_
    have base : 25 ≤ 2 * (g + x) + 1 ∧ 2 * (g + x) + 1 ≤ 10 * T := by omega
    by_cases c : y = 0
    · rw [if_pos (by rw [eqI']; exact c)]
      have m7 : 1 ≤ (if r.1 < 0 then -r.1 else r.1) ∧ (if r.1 < 0 then -r.1 else r.1) ≤ 7 := by split <;> omega
      generalize (if r.1 < 0 then -r.1 else r.1) = m at m7
      generalize 2 * (g + x) + 1 = n at base
      refine ⟨wide_mul (a := 300) (b := 4) (great_lt hT (by omega) (by omega)) (by omega) (by decide) (by decide) (by decide), ?_⟩
      have : m = 1 ∨ m = 2 ∨ m = 3 ∨ m = 4 ∨ m = 5 ∨ m = 6 ∨ m = 7 := by omega
      rcases this with rfl | rfl | rfl | rfl | rfl | rfl | rfl <;> exact ⟨by omega, by omega⟩
    · rw [if_neg (by rw [eqI']; exact c)]
      exact ⟨base.1, by omega⟩
  · have W1 : 25 ≤ w + 1 - w % 2 ∧ w + 1 - w % 2 ≤ 101 * T ∧ (w + 1 - w % 2) % 2 = 1 := by omega
    generalize w + 1 - w % 2 = W at W1
    obtain ⟨W25, WT, Wo⟩ := W1
    have big : (W + 1).natAbs < 2 ^ 899 := Nat.lt_of_lt_of_le (great_lt hT (by omega) (by omega)) (Nat.pow_le_pow_right (by decide) (by decide))
    have big2 : W.natAbs < 2 ^ 899 := Nat.lt_of_lt_of_le (great_lt hT (by omega) (by omega)) (Nat.pow_le_pow_right (by decide) (by decide))
    refine drawg_ok hT (by omega) (by omega) fun u u0 u1 => draw_ok (by decide) (by decide) fun v v0 v1 => ⟨by omega, ?_⟩
    have vm0 := Int.emod_nonneg v (show W ≠ 0 by omega)
    have vm1 := Int.emod_lt_of_pos v (show 0 < W by omega)
    refine pick_ok (by simp) (by simp) fun a ha => ?_
    have ab : 0 ≤ a ∧ a ≤ W := by
      simp only [List.mem_cons, List.not_mem_nil, or_false] at ha
      omega
    refine drawg_ok hT (by omega) (by omega) fun p p0 p1 => ⟨by omega, ?_⟩
    have b0 := Int.emod_nonneg (a + 1 + p) (show W + 1 ≠ 0 by omega)
    have b1 := Int.emod_lt_of_pos (a + 1 + p) (show 0 < W + 1 by omega)
    have ne : a ≠ (a + 1 + p) % (W + 1) := fun e => by
      have d := (emod_is (m := W + 1) (x := a + 1 + p) (t := a) ab.1 (by omega)).mp e.symm
      have := Int.le_of_dvd (by omega) d
      omega
    refine pairr_ok h hls (by omega) Wo (by omega) big big2 ab.1 ab.2 b0 (by omega) ne ?_
    rw [if_neg (by decide)]
    exact q2 () trivial

def sp_law (K : PySem.W.Frag) : Sp := fun vs H Q _ => ∃ (a : Addr) (ns : List Int), vs = [.ref a] ∧ SqL K H a (ns.map V.int) ∧ ns.length ≤ 63 ∧ ∀ H1 : Hp, Q (.bl true) H1
theorem law_enter {K : PySem.W.Frag} {H : Hp} {a : Addr} {ns : List Int} (hl : ns.length ≤ 63) (_ : Only H) (hS : SqL K H a (ns.map V.int)) : sp_law K [.ref a] H (fun v _ => v = .bl true) fun _ _ _ => False := ⟨a, ns, rfl, hS, hl, fun _ => rfl⟩
theorem sq_keep {K : PySem.W.Frag} {H H1 : Hp} {a : Addr} {xs : List V} (k : ∀ b o, H b = some o → H1 b = some o) (h : SqL K H a xs) : SqL K H1 a xs := by
  rcases h with (h | ⟨o, h⟩) | h
  · exact .inl (.inl (k _ _ h))
  · exact .inl (.inr ⟨o, k _ _ h⟩)
  · exact .inr h
theorem ok_law {P : Program} {w : World} {K : PySem.W.Frag} {mg : Str → Option Value} {base : Heap} {A : Ad} (T : Txt w K mg A) : FnG P w K mg base 12 A.a_law A.d_law ["_law_script"] (sp_law K) := by
  refine okG T.F_law sc_law (fun vs H Q E h => ?_) (fun cdv A_ outer s_ H_0 vs Q E gu hr h => ?_)
  · obtain ⟨a, ns, rfl, _⟩ := h
    rfl
  · obtain ⟨a, ns, rfl, hS, hl, hQ⟩ := h
    refine ⟨_, pss_one (ps_ret (pe_callB (cr_all rfl) (by rfl) T.z_all (by decide +kernel) (pa_cons (pe_lc (own := [("_law_k", 1)]) (g := gName 1) rfl sc_law.nd
      (pi_range1 (by rfl) T.z_range (pa_cons (pe_callB (call_max2 rfl) (by rfl) T.z_max (by decide +kernel) (pa_cons pe_int (pa_cons (pe_callB (call_min2 rfl) (by rfl) T.z_min (by decide +kernel) (pa_cons (pe_callB call_len (by rfl) T.z_len PySem.boot_len (pa_cons (pv 0) pa_nil)) (pa_cons pe_int pa_nil))) pa_nil))) pa_nil))
      (blkOk_by (N := ["_law_script", "_law_k"]) (sc := defScope s_law) (by decide +kernel)) (fun _ _ _ _ _ => pg_name (i := 1) sc_law.nd rfl (by first | exact Or.inl rfl | exact Or.inr rfl)) (fun _ _ _ _ _ => pts_nil)
      (fun _ _ _ _ _ => pe_callG (ok_right T) gu (hr.mono (by decide)) (by rfl) T.g_right T.F_right.kp T.b_right (pa_cons (pe_call (ok_pot T) (hr.mono (by decide)) (by rfl) T.g_pot T.F_pot.kp T.b_pot .nil pass0 (pa_cons (pv 0) (pa_cons (pv 1) pa_nil))) pa_nil))) pa_nil))), ?_⟩
    refine ⟨_, rfl, _, ns.length, rfl, .inl ⟨_, hS, by rw [List.length_map]⟩, _, _, rfl, _, _, rfl, _, rfl, ?_, ?_, fun L nl => ?_⟩
    · split <;> split <;> omega
    · split <;> split <;> omega
    have hsq : ∀ H : Hp, (∀ o, H_0 a = some o → H a = some o) → SqL K H a (ns.map V.int) := fun H k => by
      rcases hS with (h | ⟨o, h⟩) | h
      · exact .inl (.inl (k _ h))
      · exact .inl (.inr ⟨o, k _ h⟩)
      · exact .inr h
    refine lc_range (lo := 0) (fun i H => (∀ o, H_0 a = some o → H a = some o) ∧ ∃ n, n ≤ i ∧ H L = some (.lst (List.replicate n (.bl true)))) ⟨fun o h => (Rx.Ext.new nl).keep h, 0, Nat.le_refl _, upd_same⟩ (fun i H hi ⟨hS1, n, hn, hL⟩ => ?_) (fun H ⟨hS1, n, hn, hL⟩ => ?_)
    · refine ⟨rfl, ?_⟩
      refine tyes_of ?_
      have hi4 : i < 64 := by
        refine Nat.lt_of_lt_of_le hi ?_
        split <;> split <;> omega
      refine ⟨_, rfl, _, rfl, a, ns, 0 + (i : Int), rfl, hsq H hS1, hl, by omega, by omega, fun p H1 i1 j1 np e1 hp hj => ?_⟩
      refine ⟨[p], p, fun r => r = true, rfl, ⟨fun _ _ _ h => h, fun _ h => h, fun m hm => ?_, fun b hb => ?_, fun b hb => hb, fun c hc => absurd hc List.not_mem_nil⟩, right_true, fun r u H2 hr2 e2 hu => ?_⟩
      · rw [List.mem_singleton.mp hm, hp]
        exact fun z => nomatch z
      · rw [List.mem_singleton.mp hb]
        exact ⟨i1, j1, hp, hj⟩
      · obtain rfl := of_v hu
        have e3 : ∀ b o, H b = some o → H2 b = some o := fun b o h => e2.kp b o (fun z => by
          rw [List.mem_singleton.mp z, np] at h
          cases h) (e1.keep h)
        refine ⟨_, e3 _ _ hL, ?_, fun o h => ?_, n + 1, Nat.succ_le_succ hn, by rw [upd_same, hr2, List.replicate_succ']⟩
        · rw [List.length_replicate]
          exact Nat.lt_of_le_of_lt (show n ≤ 64 by omega) (by decide)
        · rw [upd_ne (ne_of_none h nl)]
          exact e3 _ _ (hS1 _ h)
    · refine ⟨L, List.replicate n true, rfl, .inl (.inl (by rw [List.map_replicate]; exact hL)), ?_⟩
      have : (List.replicate n true).all id = true := by
        rw [List.all_eq_true]
        intro x hx
        rw [(List.mem_replicate.mp hx).2]
        rfl
      rw [this]
      exact hQ _

theorem all_mk {l : PySem.W.OpenLaw} {w : World} {K : PySem.W.Frag} {h : Heap} {mg : Str → Option Value} {fa Ais_marks Acheck_part Adraw Apick Amarks Asheet Aseason Ais_integer ARule_init Amade Afewest Aline Adays Ahost Acontrary Asign AWord_least ARule_least_size Ais_size Acheck_size Ais_list Ais_count Ais_leg Acheck_legs Acheck_team Acheck_pair ARule_step Arounds_at Arounds_of Acheck_day Acheck ARule_stander Astander_mark Aseat Acontrary_marks ARule_word Acheck_places AWord_mark ARule_turned Aturned_if Amark_at Amark_of Apair_homes Asmall_right Adays_of Amark Afar_sign Ahomes Apair_right Aright Apot Alaw AWord_init CWord CRule : Addr} (X : K.In h) (G : h.Ns mainGlobals mg) (hfa : mg "law" = some (.ref fa))
    {odis_marks anis_marks : Option Addr} {slis_marks : Array (Option Value)} {ocis_marks kVis_marks dcis_marks pmis_marks cdis_marks ctis_marks : Value}
    {odcheck_part ancheck_part : Option Addr} {slcheck_part : Array (Option Value)} {occheck_part kVcheck_part dccheck_part pmcheck_part cdcheck_part ctcheck_part : Value}
    {oddraw andraw : Option Addr} {sldraw : Array (Option Value)} {ocdraw kVdraw dcdraw pmdraw cddraw ctdraw : Value}
    {odpick anpick : Option Addr} {slpick : Array (Option Value)} {ocpick kVpick dcpick pmpick cdpick ctpick : Value}
    {odmarks anmarks : Option Addr} {slmarks : Array (Option Value)} {ocmarks kVmarks dcmarks pmmarks cdmarks ctmarks : Value}
    {odsheet ansheet : Option Addr} {slsheet : Array (Option Value)} {ocsheet kVsheet dcsheet pmsheet cdsheet ctsheet : Value}
    {odseason anseason : Option Addr} {slseason : Array (Option Value)} {ocseason kVseason dcseason pmseason cdseason ctseason : Value}
    {odis_integer anis_integer : Option Addr} {slis_integer : Array (Option Value)} {ocis_integer kVis_integer dcis_integer pmis_integer cdis_integer ctis_integer : Value}
    {odRule_init anRule_init : Option Addr} {slRule_init : Array (Option Value)} {ocRule_init kVRule_init dcRule_init pmRule_init cdRule_init ctRule_init : Value}
    {TRule_init : Addr} {toRule_init : Option Addr} {tiRule_init : Nat} {tsRule_init : Array (Option Value)} 
    {odmade anmade : Option Addr} {slmade : Array (Option Value)} {ocmade kVmade dcmade pmmade cdmade ctmade : Value}
    {odfewest anfewest : Option Addr} {slfewest : Array (Option Value)} {ocfewest kVfewest dcfewest pmfewest cdfewest ctfewest : Value}
    {odline anline : Option Addr} {slline : Array (Option Value)} {ocline kVline dcline pmline cdline ctline : Value}
    {oddays andays : Option Addr} {sldays : Array (Option Value)} {ocdays kVdays dcdays pmdays cddays ctdays : Value}
    {odhost anhost : Option Addr} {slhost : Array (Option Value)} {ochost kVhost dchost pmhost cdhost cthost : Value}
    {odcontrary ancontrary : Option Addr} {slcontrary : Array (Option Value)} {occontrary kVcontrary dccontrary pmcontrary cdcontrary ctcontrary : Value}
    {odsign ansign : Option Addr} {slsign : Array (Option Value)} {ocsign kVsign dcsign pmsign cdsign ctsign : Value}
    {PWord_least : Addr}
    {RWord_least : List Value}
    {odWord_least anWord_least : Option Addr} {slWord_least : Array (Option Value)} {ocWord_least kVWord_least dcWord_least pmWord_least cdWord_least ctWord_least : Value}
    {PRule_least_size : Addr}
    {RRule_least_size : List Value}
    {odRule_least_size anRule_least_size : Option Addr} {slRule_least_size : Array (Option Value)} {ocRule_least_size kVRule_least_size dcRule_least_size pmRule_least_size cdRule_least_size ctRule_least_size : Value}
    {odis_size anis_size : Option Addr} {slis_size : Array (Option Value)} {ocis_size kVis_size dcis_size pmis_size cdis_size ctis_size : Value}
    {odcheck_size ancheck_size : Option Addr} {slcheck_size : Array (Option Value)} {occheck_size kVcheck_size dccheck_size pmcheck_size cdcheck_size ctcheck_size : Value}
    {odis_list anis_list : Option Addr} {slis_list : Array (Option Value)} {ocis_list kVis_list dcis_list pmis_list cdis_list ctis_list : Value}
    {odis_count anis_count : Option Addr} {slis_count : Array (Option Value)} {ocis_count kVis_count dcis_count pmis_count cdis_count ctis_count : Value}
    {odis_leg anis_leg : Option Addr} {slis_leg : Array (Option Value)} {ocis_leg kVis_leg dcis_leg pmis_leg cdis_leg ctis_leg : Value}
    {odcheck_legs ancheck_legs : Option Addr} {slcheck_legs : Array (Option Value)} {occheck_legs kVcheck_legs dccheck_legs pmcheck_legs cdcheck_legs ctcheck_legs : Value}
    {odcheck_team ancheck_team : Option Addr} {slcheck_team : Array (Option Value)} {occheck_team kVcheck_team dccheck_team pmcheck_team cdcheck_team ctcheck_team : Value}
    {odcheck_pair ancheck_pair : Option Addr} {slcheck_pair : Array (Option Value)} {occheck_pair kVcheck_pair dccheck_pair pmcheck_pair cdcheck_pair ctcheck_pair : Value}
    {PRule_step : Addr}
    {RRule_step : List Value}
    {odRule_step anRule_step : Option Addr} {slRule_step : Array (Option Value)} {ocRule_step kVRule_step dcRule_step pmRule_step cdRule_step ctRule_step : Value}
    {odrounds_at anrounds_at : Option Addr} {slrounds_at : Array (Option Value)} {ocrounds_at kVrounds_at dcrounds_at pmrounds_at cdrounds_at ctrounds_at : Value}
    {odrounds_of anrounds_of : Option Addr} {slrounds_of : Array (Option Value)} {ocrounds_of kVrounds_of dcrounds_of pmrounds_of cdrounds_of ctrounds_of : Value}
    {odcheck_day ancheck_day : Option Addr} {slcheck_day : Array (Option Value)} {occheck_day kVcheck_day dccheck_day pmcheck_day cdcheck_day ctcheck_day : Value}
    {odcheck ancheck : Option Addr} {slcheck : Array (Option Value)} {occheck kVcheck dccheck pmcheck cdcheck ctcheck : Value}
    {PRule_stander : Addr}
    {RRule_stander : List Value}
    {odRule_stander anRule_stander : Option Addr} {slRule_stander : Array (Option Value)} {ocRule_stander kVRule_stander dcRule_stander pmRule_stander cdRule_stander ctRule_stander : Value}
    {odstander_mark anstander_mark : Option Addr} {slstander_mark : Array (Option Value)} {ocstander_mark kVstander_mark dcstander_mark pmstander_mark cdstander_mark ctstander_mark : Value}
    {odseat anseat : Option Addr} {slseat : Array (Option Value)} {ocseat kVseat dcseat pmseat cdseat ctseat : Value}
    {odcontrary_marks ancontrary_marks : Option Addr} {slcontrary_marks : Array (Option Value)} {occontrary_marks kVcontrary_marks dccontrary_marks pmcontrary_marks cdcontrary_marks ctcontrary_marks : Value}
    {PRule_word : Addr}
    {RRule_word : List Value}
    {odRule_word anRule_word : Option Addr} {slRule_word : Array (Option Value)} {ocRule_word kVRule_word dcRule_word pmRule_word cdRule_word ctRule_word : Value}
    {odcheck_places ancheck_places : Option Addr} {slcheck_places : Array (Option Value)} {occheck_places kVcheck_places dccheck_places pmcheck_places cdcheck_places ctcheck_places : Value}
    {odWord_mark anWord_mark : Option Addr} {slWord_mark : Array (Option Value)} {ocWord_mark kVWord_mark dcWord_mark pmWord_mark cdWord_mark ctWord_mark : Value}
    {PRule_turned : Addr}
    {RRule_turned : List Value}
    {odRule_turned anRule_turned : Option Addr} {slRule_turned : Array (Option Value)} {ocRule_turned kVRule_turned dcRule_turned pmRule_turned cdRule_turned ctRule_turned : Value}
    {odturned_if anturned_if : Option Addr} {slturned_if : Array (Option Value)} {octurned_if kVturned_if dcturned_if pmturned_if cdturned_if ctturned_if : Value}
    {odmark_at anmark_at : Option Addr} {slmark_at : Array (Option Value)} {ocmark_at kVmark_at dcmark_at pmmark_at cdmark_at ctmark_at : Value}
    {odmark_of anmark_of : Option Addr} {slmark_of : Array (Option Value)} {ocmark_of kVmark_of dcmark_of pmmark_of cdmark_of ctmark_of : Value}
    {odpair_homes anpair_homes : Option Addr} {slpair_homes : Array (Option Value)} {ocpair_homes kVpair_homes dcpair_homes pmpair_homes cdpair_homes ctpair_homes : Value}
    {odsmall_right ansmall_right : Option Addr} {slsmall_right : Array (Option Value)} {ocsmall_right kVsmall_right dcsmall_right pmsmall_right cdsmall_right ctsmall_right : Value}
    {oddays_of andays_of : Option Addr} {sldays_of : Array (Option Value)} {ocdays_of kVdays_of dcdays_of pmdays_of cddays_of ctdays_of : Value}
    {odmark anmark : Option Addr} {slmark : Array (Option Value)} {ocmark kVmark dcmark pmmark cdmark ctmark : Value}
    {odfar_sign anfar_sign : Option Addr} {slfar_sign : Array (Option Value)} {ocfar_sign kVfar_sign dcfar_sign pmfar_sign cdfar_sign ctfar_sign : Value}
    {odhomes anhomes : Option Addr} {slhomes : Array (Option Value)} {ochomes kVhomes dchomes pmhomes cdhomes cthomes : Value}
    {odpair_right anpair_right : Option Addr} {slpair_right : Array (Option Value)} {ocpair_right kVpair_right dcpair_right pmpair_right cdpair_right ctpair_right : Value}
    {odright anright : Option Addr} {slright : Array (Option Value)} {ocright kVright dcright pmright cdright ctright : Value}
    {odpot anpot : Option Addr} {slpot : Array (Option Value)} {ocpot kVpot dcpot pmpot cdpot ctpot : Value}
    {odlaw anlaw : Option Addr} {sllaw : Array (Option Value)} {oclaw kVlaw dclaw pmlaw cdlaw ctlaw : Value}
    {odWord_init anWord_init : Option Addr} {slWord_init : Array (Option Value)} {ocWord_init kVWord_init dcWord_init pmWord_init cdWord_init ctWord_init : Value}
    {DCONTRARIES : Addr} {esCONTRARIES : Array DictEntry} {enCONTRARIES : Nat}
    {tCONTRARIES1 : Tok}
    {tCONTRARIES0 : Tok}
    {DCONTRARY_STANDERS : Addr} {esCONTRARY_STANDERS : Array DictEntry} {enCONTRARY_STANDERS : Nat}
    {tCONTRARY_STANDERS3 : Tok}
    {tCONTRARY_STANDERS2 : Tok}
    {tCONTRARY_STANDERS1 : Tok}
    {tCONTRARY_STANDERS0 : Tok}
    {DSTANDER_MARKS : Addr} {esSTANDER_MARKS : Array DictEntry} {enSTANDER_MARKS : Nat}
    {tSTANDER_MARKS3 : Tok}
    {tSTANDER_MARKS2 : Tok}
    {tSTANDER_MARKS1 : Tok}
    {tSTANDER_MARKS0 : Tok}
    {tMOST_BEGIN : Tok}
    {tMOST_LEGS : Tok}
    {tMOST_MARKS : Tok}
    {tMOST_STEP : Tok}
    (a_is_marks : PySem.W.nsIn K mainGlobals "is_marks" = some (some (.ref Ais_marks)))
    (l_is_marks : K.lookup Ais_marks = some ⟨ocis_marks, odis_marks, .func (PySem.W.fnOf "is_marks" "is_marks" (defArgs s_is_marks) (defBody s_is_marks) (defScope s_is_marks) .none kVis_marks dcis_marks pmis_marks anis_marks cdis_marks ctis_marks), slis_marks⟩)
    (o_is_marks : PySem.W.codeIn K cdis_marks "is_marks" = true)
    (k_is_marks : PySem.W.keepIn K (.ref Ais_marks) = true)
    (a_check_part : PySem.W.nsIn K mainGlobals "_check_part" = some (some (.ref Acheck_part)))
    (l_check_part : K.lookup Acheck_part = some ⟨occheck_part, odcheck_part, .func (PySem.W.fnOf "_check_part" "_check_part" (defArgs s_check_part) (defBody s_check_part) (defScope s_check_part) .none kVcheck_part dccheck_part pmcheck_part ancheck_part cdcheck_part ctcheck_part), slcheck_part⟩)
    (o_check_part : PySem.W.codeIn K cdcheck_part "_check_part" = true)
    (k_check_part : PySem.W.keepIn K (.ref Acheck_part) = true)
    (a_draw : PySem.W.nsIn K mainGlobals "_law_draw" = some (some (.ref Adraw)))
    (l_draw : K.lookup Adraw = some ⟨ocdraw, oddraw, .func (PySem.W.fnOf "_law_draw" "_law_draw" (defArgs s_draw) (defBody s_draw) (defScope s_draw) .none kVdraw dcdraw pmdraw andraw cddraw ctdraw), sldraw⟩)
    (o_draw : PySem.W.codeIn K cddraw "_law_draw" = true)
    (k_draw : PySem.W.keepIn K (.ref Adraw) = true)
    (a_pick : PySem.W.nsIn K mainGlobals "_law_pick" = some (some (.ref Apick)))
    (l_pick : K.lookup Apick = some ⟨ocpick, odpick, .func (PySem.W.fnOf "_law_pick" "_law_pick" (defArgs s_pick) (defBody s_pick) (defScope s_pick) .none kVpick dcpick pmpick anpick cdpick ctpick), slpick⟩)
    (o_pick : PySem.W.codeIn K cdpick "_law_pick" = true)
    (k_pick : PySem.W.keepIn K (.ref Apick) = true)
    (a_marks : PySem.W.nsIn K mainGlobals "_law_marks" = some (some (.ref Amarks)))
    (l_marks : K.lookup Amarks = some ⟨ocmarks, odmarks, .func (PySem.W.fnOf "_law_marks" "_law_marks" (defArgs s_marks) (defBody s_marks) (defScope s_marks) .none kVmarks dcmarks pmmarks anmarks cdmarks ctmarks), slmarks⟩)
    (o_marks : PySem.W.codeIn K cdmarks "_law_marks" = true)
    (k_marks : PySem.W.keepIn K (.ref Amarks) = true)
    (a_sheet : PySem.W.nsIn K mainGlobals "_law_sheet" = some (some (.ref Asheet)))
    (l_sheet : K.lookup Asheet = some ⟨ocsheet, odsheet, .func (PySem.W.fnOf "_law_sheet" "_law_sheet" (defArgs s_sheet) (defBody s_sheet) (defScope s_sheet) .none kVsheet dcsheet pmsheet ansheet cdsheet ctsheet), slsheet⟩)
    (o_sheet : PySem.W.codeIn K cdsheet "_law_sheet" = true)
    (k_sheet : PySem.W.keepIn K (.ref Asheet) = true)
    (a_season : PySem.W.nsIn K mainGlobals "_law_season" = some (some (.ref Aseason)))
    (l_season : K.lookup Aseason = some ⟨ocseason, odseason, .func (PySem.W.fnOf "_law_season" "_law_season" (defArgs s_season) (defBody s_season) (defScope s_season) .none kVseason dcseason pmseason anseason cdseason ctseason), slseason⟩)
    (o_season : PySem.W.codeIn K cdseason "_law_season" = true)
    (k_season : PySem.W.keepIn K (.ref Aseason) = true)
    (a_is_integer : PySem.W.nsIn K mainGlobals "is_integer" = some (some (.ref Ais_integer)))
    (l_is_integer : K.lookup Ais_integer = some ⟨ocis_integer, odis_integer, .func (PySem.W.fnOf "is_integer" "is_integer" (defArgs s_is_integer) (defBody s_is_integer) (defScope s_is_integer) .none kVis_integer dcis_integer pmis_integer anis_integer cdis_integer ctis_integer), slis_integer⟩)
    (o_is_integer : PySem.W.codeIn K cdis_integer "is_integer" = true)
    (k_is_integer : PySem.W.keepIn K (.ref Ais_integer) = true)
    (a_Rule_init : PySem.W.findIn K (.ref CRule) "__init__" = some (some (.ref ARule_init)))
    (i_Rule_init : PySem.W.isFn K (.ref ARule_init) = true)
    (t_Rule_init : K.lookup TRule_init = some ⟨.type "tuple", toRule_init, .seq #[.bool false] tiRule_init, tsRule_init⟩)
    (l_Rule_init : K.lookup ARule_init = some ⟨ocRule_init, odRule_init, .func (PySem.W.fnOf "__init__" "Rule.__init__" (defArgs s_Rule_init) (defBody s_Rule_init) (defScope s_Rule_init) (.ref TRule_init) kVRule_init dcRule_init pmRule_init anRule_init cdRule_init ctRule_init), slRule_init⟩)
    (o_Rule_init : PySem.W.codeIn K cdRule_init "Rule.__init__" = true)
    (k_Rule_init : PySem.W.keepIn K (.ref ARule_init) = true)
    (a_made : PySem.W.nsIn K mainGlobals "_law_made" = some (some (.ref Amade)))
    (l_made : K.lookup Amade = some ⟨ocmade, odmade, .func (PySem.W.fnOf "_law_made" "_law_made" (defArgs s_made) (defBody s_made) (defScope s_made) .none kVmade dcmade pmmade anmade cdmade ctmade), slmade⟩)
    (o_made : PySem.W.codeIn K cdmade "_law_made" = true)
    (k_made : PySem.W.keepIn K (.ref Amade) = true)
    (a_fewest : PySem.W.nsIn K mainGlobals "_law_fewest" = some (some (.ref Afewest)))
    (l_fewest : K.lookup Afewest = some ⟨ocfewest, odfewest, .func (PySem.W.fnOf "_law_fewest" "_law_fewest" (defArgs s_fewest) (defBody s_fewest) (defScope s_fewest) .none kVfewest dcfewest pmfewest anfewest cdfewest ctfewest), slfewest⟩)
    (o_fewest : PySem.W.codeIn K cdfewest "_law_fewest" = true)
    (k_fewest : PySem.W.keepIn K (.ref Afewest) = true)
    (a_line : PySem.W.nsIn K mainGlobals "_law_line" = some (some (.ref Aline)))
    (l_line : K.lookup Aline = some ⟨ocline, odline, .func (PySem.W.fnOf "_law_line" "_law_line" (defArgs s_line) (defBody s_line) (defScope s_line) .none kVline dcline pmline anline cdline ctline), slline⟩)
    (o_line : PySem.W.codeIn K cdline "_law_line" = true)
    (k_line : PySem.W.keepIn K (.ref Aline) = true)
    (a_days : PySem.W.nsIn K mainGlobals "_law_days" = some (some (.ref Adays)))
    (l_days : K.lookup Adays = some ⟨ocdays, oddays, .func (PySem.W.fnOf "_law_days" "_law_days" (defArgs s_days) (defBody s_days) (defScope s_days) .none kVdays dcdays pmdays andays cddays ctdays), sldays⟩)
    (o_days : PySem.W.codeIn K cddays "_law_days" = true)
    (k_days : PySem.W.keepIn K (.ref Adays) = true)
    (a_host : PySem.W.nsIn K mainGlobals "_law_host" = some (some (.ref Ahost)))
    (l_host : K.lookup Ahost = some ⟨ochost, odhost, .func (PySem.W.fnOf "_law_host" "_law_host" (defArgs s_host) (defBody s_host) (defScope s_host) .none kVhost dchost pmhost anhost cdhost cthost), slhost⟩)
    (o_host : PySem.W.codeIn K cdhost "_law_host" = true)
    (k_host : PySem.W.keepIn K (.ref Ahost) = true)
    (a_contrary : PySem.W.nsIn K mainGlobals "_law_contrary" = some (some (.ref Acontrary)))
    (l_contrary : K.lookup Acontrary = some ⟨occontrary, odcontrary, .func (PySem.W.fnOf "_law_contrary" "_law_contrary" (defArgs s_contrary) (defBody s_contrary) (defScope s_contrary) .none kVcontrary dccontrary pmcontrary ancontrary cdcontrary ctcontrary), slcontrary⟩)
    (o_contrary : PySem.W.codeIn K cdcontrary "_law_contrary" = true)
    (k_contrary : PySem.W.keepIn K (.ref Acontrary) = true)
    (a_sign : PySem.W.nsIn K mainGlobals "_law_sign" = some (some (.ref Asign)))
    (l_sign : K.lookup Asign = some ⟨ocsign, odsign, .func (PySem.W.fnOf "_law_sign" "_law_sign" (defArgs s_sign) (defBody s_sign) (defScope s_sign) .none kVsign dcsign pmsign ansign cdsign ctsign), slsign⟩)
    (o_sign : PySem.W.codeIn K cdsign "_law_sign" = true)
    (k_sign : PySem.W.keepIn K (.ref Asign) = true)
    (pa_Word_least : PySem.W.findIn K (.ref CWord) "least" = some (some (.ref PWord_least)))
    (pg_Word_least : PySem.W.specialIn K (.ref PWord_least) "__get__" = some (some (.builtin "property.__get__")))
    (pt_Word_least : PySem.W.takesIn K (.ref PWord_least) = some true)
    (pr_Word_least : PySem.W.recIn K PWord_least "property" = some (.ref AWord_least :: RWord_least))
    (l_Word_least : K.lookup AWord_least = some ⟨ocWord_least, odWord_least, .func (PySem.W.fnOf "least" "Word.least" (defArgs s_Word_least) (defBody s_Word_least) (defScope s_Word_least) .none kVWord_least dcWord_least pmWord_least anWord_least cdWord_least ctWord_least), slWord_least⟩)
    (o_Word_least : PySem.W.codeIn K cdWord_least "Word.least" = true)
    (k_Word_least : PySem.W.keepIn K (.ref AWord_least) = true)
    (pa_Rule_least_size : PySem.W.findIn K (.ref CRule) "least_size" = some (some (.ref PRule_least_size)))
    (pg_Rule_least_size : PySem.W.specialIn K (.ref PRule_least_size) "__get__" = some (some (.builtin "property.__get__")))
    (pt_Rule_least_size : PySem.W.takesIn K (.ref PRule_least_size) = some true)
    (pr_Rule_least_size : PySem.W.recIn K PRule_least_size "property" = some (.ref ARule_least_size :: RRule_least_size))
    (l_Rule_least_size : K.lookup ARule_least_size = some ⟨ocRule_least_size, odRule_least_size, .func (PySem.W.fnOf "least_size" "Rule.least_size" (defArgs s_Rule_least_size) (defBody s_Rule_least_size) (defScope s_Rule_least_size) .none kVRule_least_size dcRule_least_size pmRule_least_size anRule_least_size cdRule_least_size ctRule_least_size), slRule_least_size⟩)
    (o_Rule_least_size : PySem.W.codeIn K cdRule_least_size "Rule.least_size" = true)
    (k_Rule_least_size : PySem.W.keepIn K (.ref ARule_least_size) = true)
    (a_is_size : PySem.W.nsIn K mainGlobals "is_size" = some (some (.ref Ais_size)))
    (l_is_size : K.lookup Ais_size = some ⟨ocis_size, odis_size, .func (PySem.W.fnOf "is_size" "is_size" (defArgs s_is_size) (defBody s_is_size) (defScope s_is_size) .none kVis_size dcis_size pmis_size anis_size cdis_size ctis_size), slis_size⟩)
    (o_is_size : PySem.W.codeIn K cdis_size "is_size" = true)
    (k_is_size : PySem.W.keepIn K (.ref Ais_size) = true)
    (a_check_size : PySem.W.nsIn K mainGlobals "check_size" = some (some (.ref Acheck_size)))
    (l_check_size : K.lookup Acheck_size = some ⟨occheck_size, odcheck_size, .func (PySem.W.fnOf "check_size" "check_size" (defArgs s_check_size) (defBody s_check_size) (defScope s_check_size) .none kVcheck_size dccheck_size pmcheck_size ancheck_size cdcheck_size ctcheck_size), slcheck_size⟩)
    (o_check_size : PySem.W.codeIn K cdcheck_size "check_size" = true)
    (k_check_size : PySem.W.keepIn K (.ref Acheck_size) = true)
    (a_is_list : PySem.W.nsIn K mainGlobals "is_list" = some (some (.ref Ais_list)))
    (l_is_list : K.lookup Ais_list = some ⟨ocis_list, odis_list, .func (PySem.W.fnOf "is_list" "is_list" (defArgs s_is_list) (defBody s_is_list) (defScope s_is_list) .none kVis_list dcis_list pmis_list anis_list cdis_list ctis_list), slis_list⟩)
    (o_is_list : PySem.W.codeIn K cdis_list "is_list" = true)
    (k_is_list : PySem.W.keepIn K (.ref Ais_list) = true)
    (a_is_count : PySem.W.nsIn K mainGlobals "is_count" = some (some (.ref Ais_count)))
    (l_is_count : K.lookup Ais_count = some ⟨ocis_count, odis_count, .func (PySem.W.fnOf "is_count" "is_count" (defArgs s_is_count) (defBody s_is_count) (defScope s_is_count) .none kVis_count dcis_count pmis_count anis_count cdis_count ctis_count), slis_count⟩)
    (o_is_count : PySem.W.codeIn K cdis_count "is_count" = true)
    (k_is_count : PySem.W.keepIn K (.ref Ais_count) = true)
    (a_is_leg : PySem.W.nsIn K mainGlobals "_is_leg" = some (some (.ref Ais_leg)))
    (l_is_leg : K.lookup Ais_leg = some ⟨ocis_leg, odis_leg, .func (PySem.W.fnOf "_is_leg" "_is_leg" (defArgs s_is_leg) (defBody s_is_leg) (defScope s_is_leg) .none kVis_leg dcis_leg pmis_leg anis_leg cdis_leg ctis_leg), slis_leg⟩)
    (o_is_leg : PySem.W.codeIn K cdis_leg "_is_leg" = true)
    (k_is_leg : PySem.W.keepIn K (.ref Ais_leg) = true)
    (a_check_legs : PySem.W.nsIn K mainGlobals "_check_legs" = some (some (.ref Acheck_legs)))
    (l_check_legs : K.lookup Acheck_legs = some ⟨occheck_legs, odcheck_legs, .func (PySem.W.fnOf "_check_legs" "_check_legs" (defArgs s_check_legs) (defBody s_check_legs) (defScope s_check_legs) .none kVcheck_legs dccheck_legs pmcheck_legs ancheck_legs cdcheck_legs ctcheck_legs), slcheck_legs⟩)
    (o_check_legs : PySem.W.codeIn K cdcheck_legs "_check_legs" = true)
    (k_check_legs : PySem.W.keepIn K (.ref Acheck_legs) = true)
    (a_check_team : PySem.W.nsIn K mainGlobals "check_team" = some (some (.ref Acheck_team)))
    (l_check_team : K.lookup Acheck_team = some ⟨occheck_team, odcheck_team, .func (PySem.W.fnOf "check_team" "check_team" (defArgs s_check_team) (defBody s_check_team) (defScope s_check_team) .none kVcheck_team dccheck_team pmcheck_team ancheck_team cdcheck_team ctcheck_team), slcheck_team⟩)
    (o_check_team : PySem.W.codeIn K cdcheck_team "check_team" = true)
    (k_check_team : PySem.W.keepIn K (.ref Acheck_team) = true)
    (a_check_pair : PySem.W.nsIn K mainGlobals "check_pair" = some (some (.ref Acheck_pair)))
    (l_check_pair : K.lookup Acheck_pair = some ⟨occheck_pair, odcheck_pair, .func (PySem.W.fnOf "check_pair" "check_pair" (defArgs s_check_pair) (defBody s_check_pair) (defScope s_check_pair) .none kVcheck_pair dccheck_pair pmcheck_pair ancheck_pair cdcheck_pair ctcheck_pair), slcheck_pair⟩)
    (o_check_pair : PySem.W.codeIn K cdcheck_pair "check_pair" = true)
    (k_check_pair : PySem.W.keepIn K (.ref Acheck_pair) = true)
    (pa_Rule_step : PySem.W.findIn K (.ref CRule) "step" = some (some (.ref PRule_step)))
    (pg_Rule_step : PySem.W.specialIn K (.ref PRule_step) "__get__" = some (some (.builtin "property.__get__")))
    (pt_Rule_step : PySem.W.takesIn K (.ref PRule_step) = some true)
    (pr_Rule_step : PySem.W.recIn K PRule_step "property" = some (.ref ARule_step :: RRule_step))
    (l_Rule_step : K.lookup ARule_step = some ⟨ocRule_step, odRule_step, .func (PySem.W.fnOf "step" "Rule.step" (defArgs s_Rule_step) (defBody s_Rule_step) (defScope s_Rule_step) .none kVRule_step dcRule_step pmRule_step anRule_step cdRule_step ctRule_step), slRule_step⟩)
    (o_Rule_step : PySem.W.codeIn K cdRule_step "Rule.step" = true)
    (k_Rule_step : PySem.W.keepIn K (.ref ARule_step) = true)
    (a_rounds_at : PySem.W.nsIn K mainGlobals "_rounds_at" = some (some (.ref Arounds_at)))
    (l_rounds_at : K.lookup Arounds_at = some ⟨ocrounds_at, odrounds_at, .func (PySem.W.fnOf "_rounds_at" "_rounds_at" (defArgs s_rounds_at) (defBody s_rounds_at) (defScope s_rounds_at) .none kVrounds_at dcrounds_at pmrounds_at anrounds_at cdrounds_at ctrounds_at), slrounds_at⟩)
    (o_rounds_at : PySem.W.codeIn K cdrounds_at "_rounds_at" = true)
    (k_rounds_at : PySem.W.keepIn K (.ref Arounds_at) = true)
    (a_rounds_of : PySem.W.nsIn K mainGlobals "rounds_of" = some (some (.ref Arounds_of)))
    (l_rounds_of : K.lookup Arounds_of = some ⟨ocrounds_of, odrounds_of, .func (PySem.W.fnOf "rounds_of" "rounds_of" (defArgs s_rounds_of) (defBody s_rounds_of) (defScope s_rounds_of) .none kVrounds_of dcrounds_of pmrounds_of anrounds_of cdrounds_of ctrounds_of), slrounds_of⟩)
    (o_rounds_of : PySem.W.codeIn K cdrounds_of "rounds_of" = true)
    (k_rounds_of : PySem.W.keepIn K (.ref Arounds_of) = true)
    (a_check_day : PySem.W.nsIn K mainGlobals "check_day" = some (some (.ref Acheck_day)))
    (l_check_day : K.lookup Acheck_day = some ⟨occheck_day, odcheck_day, .func (PySem.W.fnOf "check_day" "check_day" (defArgs s_check_day) (defBody s_check_day) (defScope s_check_day) .none kVcheck_day dccheck_day pmcheck_day ancheck_day cdcheck_day ctcheck_day), slcheck_day⟩)
    (o_check_day : PySem.W.codeIn K cdcheck_day "check_day" = true)
    (k_check_day : PySem.W.keepIn K (.ref Acheck_day) = true)
    (a_check : PySem.W.nsIn K mainGlobals "_check" = some (some (.ref Acheck)))
    (l_check : K.lookup Acheck = some ⟨occheck, odcheck, .func (PySem.W.fnOf "_check" "_check" (defArgs s_check) (defBody s_check) (defScope s_check) .none kVcheck dccheck pmcheck ancheck cdcheck ctcheck), slcheck⟩)
    (o_check : PySem.W.codeIn K cdcheck "_check" = true)
    (k_check : PySem.W.keepIn K (.ref Acheck) = true)
    (pa_Rule_stander : PySem.W.findIn K (.ref CRule) "stander" = some (some (.ref PRule_stander)))
    (pg_Rule_stander : PySem.W.specialIn K (.ref PRule_stander) "__get__" = some (some (.builtin "property.__get__")))
    (pt_Rule_stander : PySem.W.takesIn K (.ref PRule_stander) = some true)
    (pr_Rule_stander : PySem.W.recIn K PRule_stander "property" = some (.ref ARule_stander :: RRule_stander))
    (l_Rule_stander : K.lookup ARule_stander = some ⟨ocRule_stander, odRule_stander, .func (PySem.W.fnOf "stander" "Rule.stander" (defArgs s_Rule_stander) (defBody s_Rule_stander) (defScope s_Rule_stander) .none kVRule_stander dcRule_stander pmRule_stander anRule_stander cdRule_stander ctRule_stander), slRule_stander⟩)
    (o_Rule_stander : PySem.W.codeIn K cdRule_stander "Rule.stander" = true)
    (k_Rule_stander : PySem.W.keepIn K (.ref ARule_stander) = true)
    (a_stander_mark : PySem.W.nsIn K mainGlobals "stander_mark" = some (some (.ref Astander_mark)))
    (l_stander_mark : K.lookup Astander_mark = some ⟨ocstander_mark, odstander_mark, .func (PySem.W.fnOf "stander_mark" "stander_mark" (defArgs s_stander_mark) (defBody s_stander_mark) (defScope s_stander_mark) .none kVstander_mark dcstander_mark pmstander_mark anstander_mark cdstander_mark ctstander_mark), slstander_mark⟩)
    (o_stander_mark : PySem.W.codeIn K cdstander_mark "stander_mark" = true)
    (k_stander_mark : PySem.W.keepIn K (.ref Astander_mark) = true)
    (a_seat : PySem.W.nsIn K mainGlobals "_seat" = some (some (.ref Aseat)))
    (l_seat : K.lookup Aseat = some ⟨ocseat, odseat, .func (PySem.W.fnOf "_seat" "_seat" (defArgs s_seat) (defBody s_seat) (defScope s_seat) .none kVseat dcseat pmseat anseat cdseat ctseat), slseat⟩)
    (o_seat : PySem.W.codeIn K cdseat "_seat" = true)
    (k_seat : PySem.W.keepIn K (.ref Aseat) = true)
    (a_contrary_marks : PySem.W.nsIn K mainGlobals "contrary_marks" = some (some (.ref Acontrary_marks)))
    (l_contrary_marks : K.lookup Acontrary_marks = some ⟨occontrary_marks, odcontrary_marks, .func (PySem.W.fnOf "contrary_marks" "contrary_marks" (defArgs s_contrary_marks) (defBody s_contrary_marks) (defScope s_contrary_marks) .none kVcontrary_marks dccontrary_marks pmcontrary_marks ancontrary_marks cdcontrary_marks ctcontrary_marks), slcontrary_marks⟩)
    (o_contrary_marks : PySem.W.codeIn K cdcontrary_marks "contrary_marks" = true)
    (k_contrary_marks : PySem.W.keepIn K (.ref Acontrary_marks) = true)
    (pa_Rule_word : PySem.W.findIn K (.ref CRule) "word" = some (some (.ref PRule_word)))
    (pg_Rule_word : PySem.W.specialIn K (.ref PRule_word) "__get__" = some (some (.builtin "property.__get__")))
    (pt_Rule_word : PySem.W.takesIn K (.ref PRule_word) = some true)
    (pr_Rule_word : PySem.W.recIn K PRule_word "property" = some (.ref ARule_word :: RRule_word))
    (l_Rule_word : K.lookup ARule_word = some ⟨ocRule_word, odRule_word, .func (PySem.W.fnOf "word" "Rule.word" (defArgs s_Rule_word) (defBody s_Rule_word) (defScope s_Rule_word) .none kVRule_word dcRule_word pmRule_word anRule_word cdRule_word ctRule_word), slRule_word⟩)
    (o_Rule_word : PySem.W.codeIn K cdRule_word "Rule.word" = true)
    (k_Rule_word : PySem.W.keepIn K (.ref ARule_word) = true)
    (a_check_places : PySem.W.nsIn K mainGlobals "_check_places" = some (some (.ref Acheck_places)))
    (l_check_places : K.lookup Acheck_places = some ⟨occheck_places, odcheck_places, .func (PySem.W.fnOf "_check_places" "_check_places" (defArgs s_check_places) (defBody s_check_places) (defScope s_check_places) .none kVcheck_places dccheck_places pmcheck_places ancheck_places cdcheck_places ctcheck_places), slcheck_places⟩)
    (o_check_places : PySem.W.codeIn K cdcheck_places "_check_places" = true)
    (k_check_places : PySem.W.keepIn K (.ref Acheck_places) = true)
    (a_Word_mark : PySem.W.findIn K (.ref CWord) "mark" = some (some (.ref AWord_mark)))
    (i_Word_mark : PySem.W.isFn K (.ref AWord_mark) = true)
    (l_Word_mark : K.lookup AWord_mark = some ⟨ocWord_mark, odWord_mark, .func (PySem.W.fnOf "mark" "Word.mark" (defArgs s_Word_mark) (defBody s_Word_mark) (defScope s_Word_mark) .none kVWord_mark dcWord_mark pmWord_mark anWord_mark cdWord_mark ctWord_mark), slWord_mark⟩)
    (o_Word_mark : PySem.W.codeIn K cdWord_mark "Word.mark" = true)
    (k_Word_mark : PySem.W.keepIn K (.ref AWord_mark) = true)
    (pa_Rule_turned : PySem.W.findIn K (.ref CRule) "turned" = some (some (.ref PRule_turned)))
    (pg_Rule_turned : PySem.W.specialIn K (.ref PRule_turned) "__get__" = some (some (.builtin "property.__get__")))
    (pt_Rule_turned : PySem.W.takesIn K (.ref PRule_turned) = some true)
    (pr_Rule_turned : PySem.W.recIn K PRule_turned "property" = some (.ref ARule_turned :: RRule_turned))
    (l_Rule_turned : K.lookup ARule_turned = some ⟨ocRule_turned, odRule_turned, .func (PySem.W.fnOf "turned" "Rule.turned" (defArgs s_Rule_turned) (defBody s_Rule_turned) (defScope s_Rule_turned) .none kVRule_turned dcRule_turned pmRule_turned anRule_turned cdRule_turned ctRule_turned), slRule_turned⟩)
    (o_Rule_turned : PySem.W.codeIn K cdRule_turned "Rule.turned" = true)
    (k_Rule_turned : PySem.W.keepIn K (.ref ARule_turned) = true)
    (a_turned_if : PySem.W.nsIn K mainGlobals "_turned_if" = some (some (.ref Aturned_if)))
    (l_turned_if : K.lookup Aturned_if = some ⟨octurned_if, odturned_if, .func (PySem.W.fnOf "_turned_if" "_turned_if" (defArgs s_turned_if) (defBody s_turned_if) (defScope s_turned_if) .none kVturned_if dcturned_if pmturned_if anturned_if cdturned_if ctturned_if), slturned_if⟩)
    (o_turned_if : PySem.W.codeIn K cdturned_if "_turned_if" = true)
    (k_turned_if : PySem.W.keepIn K (.ref Aturned_if) = true)
    (a_mark_at : PySem.W.nsIn K mainGlobals "_mark_at" = some (some (.ref Amark_at)))
    (l_mark_at : K.lookup Amark_at = some ⟨ocmark_at, odmark_at, .func (PySem.W.fnOf "_mark_at" "_mark_at" (defArgs s_mark_at) (defBody s_mark_at) (defScope s_mark_at) .none kVmark_at dcmark_at pmmark_at anmark_at cdmark_at ctmark_at), slmark_at⟩)
    (o_mark_at : PySem.W.codeIn K cdmark_at "_mark_at" = true)
    (k_mark_at : PySem.W.keepIn K (.ref Amark_at) = true)
    (a_mark_of : PySem.W.nsIn K mainGlobals "mark_of" = some (some (.ref Amark_of)))
    (l_mark_of : K.lookup Amark_of = some ⟨ocmark_of, odmark_of, .func (PySem.W.fnOf "mark_of" "mark_of" (defArgs s_mark_of) (defBody s_mark_of) (defScope s_mark_of) .none kVmark_of dcmark_of pmmark_of anmark_of cdmark_of ctmark_of), slmark_of⟩)
    (o_mark_of : PySem.W.codeIn K cdmark_of "mark_of" = true)
    (k_mark_of : PySem.W.keepIn K (.ref Amark_of) = true)
    (a_pair_homes : PySem.W.nsIn K mainGlobals "pair_homes" = some (some (.ref Apair_homes)))
    (l_pair_homes : K.lookup Apair_homes = some ⟨ocpair_homes, odpair_homes, .func (PySem.W.fnOf "pair_homes" "pair_homes" (defArgs s_pair_homes) (defBody s_pair_homes) (defScope s_pair_homes) .none kVpair_homes dcpair_homes pmpair_homes anpair_homes cdpair_homes ctpair_homes), slpair_homes⟩)
    (o_pair_homes : PySem.W.codeIn K cdpair_homes "pair_homes" = true)
    (k_pair_homes : PySem.W.keepIn K (.ref Apair_homes) = true)
    (a_small_right : PySem.W.nsIn K mainGlobals "_law_small_right" = some (some (.ref Asmall_right)))
    (l_small_right : K.lookup Asmall_right = some ⟨ocsmall_right, odsmall_right, .func (PySem.W.fnOf "_law_small_right" "_law_small_right" (defArgs s_small_right) (defBody s_small_right) (defScope s_small_right) .none kVsmall_right dcsmall_right pmsmall_right ansmall_right cdsmall_right ctsmall_right), slsmall_right⟩)
    (o_small_right : PySem.W.codeIn K cdsmall_right "_law_small_right" = true)
    (k_small_right : PySem.W.keepIn K (.ref Asmall_right) = true)
    (a_days_of : PySem.W.nsIn K mainGlobals "_law_days_of" = some (some (.ref Adays_of)))
    (l_days_of : K.lookup Adays_of = some ⟨ocdays_of, oddays_of, .func (PySem.W.fnOf "_law_days_of" "_law_days_of" (defArgs s_days_of) (defBody s_days_of) (defScope s_days_of) .none kVdays_of dcdays_of pmdays_of andays_of cddays_of ctdays_of), sldays_of⟩)
    (o_days_of : PySem.W.codeIn K cddays_of "_law_days_of" = true)
    (k_days_of : PySem.W.keepIn K (.ref Adays_of) = true)
    (a_mark : PySem.W.nsIn K mainGlobals "_law_mark" = some (some (.ref Amark)))
    (l_mark : K.lookup Amark = some ⟨ocmark, odmark, .func (PySem.W.fnOf "_law_mark" "_law_mark" (defArgs s_mark) (defBody s_mark) (defScope s_mark) .none kVmark dcmark pmmark anmark cdmark ctmark), slmark⟩)
    (o_mark : PySem.W.codeIn K cdmark "_law_mark" = true)
    (k_mark : PySem.W.keepIn K (.ref Amark) = true)
    (a_far_sign : PySem.W.nsIn K mainGlobals "_law_far_sign" = some (some (.ref Afar_sign)))
    (l_far_sign : K.lookup Afar_sign = some ⟨ocfar_sign, odfar_sign, .func (PySem.W.fnOf "_law_far_sign" "_law_far_sign" (defArgs s_far_sign) (defBody s_far_sign) (defScope s_far_sign) .none kVfar_sign dcfar_sign pmfar_sign anfar_sign cdfar_sign ctfar_sign), slfar_sign⟩)
    (o_far_sign : PySem.W.codeIn K cdfar_sign "_law_far_sign" = true)
    (k_far_sign : PySem.W.keepIn K (.ref Afar_sign) = true)
    (a_homes : PySem.W.nsIn K mainGlobals "_law_homes" = some (some (.ref Ahomes)))
    (l_homes : K.lookup Ahomes = some ⟨ochomes, odhomes, .func (PySem.W.fnOf "_law_homes" "_law_homes" (defArgs s_homes) (defBody s_homes) (defScope s_homes) .none kVhomes dchomes pmhomes anhomes cdhomes cthomes), slhomes⟩)
    (o_homes : PySem.W.codeIn K cdhomes "_law_homes" = true)
    (k_homes : PySem.W.keepIn K (.ref Ahomes) = true)
    (a_pair_right : PySem.W.nsIn K mainGlobals "_law_pair_right" = some (some (.ref Apair_right)))
    (l_pair_right : K.lookup Apair_right = some ⟨ocpair_right, odpair_right, .func (PySem.W.fnOf "_law_pair_right" "_law_pair_right" (defArgs s_pair_right) (defBody s_pair_right) (defScope s_pair_right) .none kVpair_right dcpair_right pmpair_right anpair_right cdpair_right ctpair_right), slpair_right⟩)
    (o_pair_right : PySem.W.codeIn K cdpair_right "_law_pair_right" = true)
    (k_pair_right : PySem.W.keepIn K (.ref Apair_right) = true)
    (a_right : PySem.W.nsIn K mainGlobals "_law_right" = some (some (.ref Aright)))
    (l_right : K.lookup Aright = some ⟨ocright, odright, .func (PySem.W.fnOf "_law_right" "_law_right" (defArgs s_right) (defBody s_right) (defScope s_right) .none kVright dcright pmright anright cdright ctright), slright⟩)
    (o_right : PySem.W.codeIn K cdright "_law_right" = true)
    (k_right : PySem.W.keepIn K (.ref Aright) = true)
    (a_pot : PySem.W.nsIn K mainGlobals "_law_pot" = some (some (.ref Apot)))
    (l_pot : K.lookup Apot = some ⟨ocpot, odpot, .func (PySem.W.fnOf "_law_pot" "_law_pot" (defArgs s_pot) (defBody s_pot) (defScope s_pot) .none kVpot dcpot pmpot anpot cdpot ctpot), slpot⟩)
    (o_pot : PySem.W.codeIn K cdpot "_law_pot" = true)
    (k_pot : PySem.W.keepIn K (.ref Apot) = true)
    (a_law : PySem.W.nsIn K mainGlobals "law" = some (some (.ref Alaw)))
    (l_law : K.lookup Alaw = some ⟨oclaw, odlaw, .func (PySem.W.fnOf "law" "law" (defArgs s_law) (defBody s_law) (defScope s_law) .none kVlaw dclaw pmlaw anlaw cdlaw ctlaw), sllaw⟩)
    (o_law : PySem.W.codeIn K cdlaw "law" = true)
    (k_law : PySem.W.keepIn K (.ref Alaw) = true)
    (a_Word_init : PySem.W.findIn K (.ref CWord) "__init__" = some (some (.ref AWord_init)))
    (i_Word_init : PySem.W.isFn K (.ref AWord_init) = true)
    (l_Word_init : K.lookup AWord_init = some ⟨ocWord_init, odWord_init, .func (PySem.W.fnOf "__init__" "Word.__init__" (defArgs s_Word_init) (defBody s_Word_init) (defScope s_Word_init) .none kVWord_init dcWord_init pmWord_init anWord_init cdWord_init ctWord_init), slWord_init⟩)
    (o_Word_init : PySem.W.codeIn K cdWord_init "Word.__init__" = true)
    (k_Word_init : PySem.W.keepIn K (.ref AWord_init) = true)
    (aC_Word : PySem.W.nsIn K mainGlobals "Word" = some (some (.ref CWord)))
    (pg_Word : PySem.W.plainGet K CWord Str.empty = true)
    (hd_Word : PySem.W.hasDictIn K CWord = true)
    (po_Word : PySem.W.plainOver K CWord = true)
    (sa_Word : PySem.W.findIn K (.ref CWord) "__setattr__" = some (some (.builtin "object.__setattr__")))
    (mk_Word : PySem.W.makesIn K CWord = true)
    (kc_Word : PySem.W.keepIn K (.ref CWord) = true)
    (na_Word__head : PySem.W.findIn K (.ref CWord) "_head" = some none)
    (na_Word__middle : PySem.W.findIn K (.ref CWord) "_middle" = some none)
    (na_Word__tail : PySem.W.findIn K (.ref CWord) "_tail" = some none)
    (aC_Rule : PySem.W.nsIn K mainGlobals "Rule" = some (some (.ref CRule)))
    (pg_Rule : PySem.W.plainGet K CRule Str.empty = true)
    (hd_Rule : PySem.W.hasDictIn K CRule = true)
    (po_Rule : PySem.W.plainOver K CRule = true)
    (sa_Rule : PySem.W.findIn K (.ref CRule) "__setattr__" = some (some (.builtin "object.__setattr__")))
    (mk_Rule : PySem.W.makesIn K CRule = true)
    (kc_Rule : PySem.W.keepIn K (.ref CRule) = true)
    (na_Rule__step : PySem.W.findIn K (.ref CRule) "_step" = some none)
    (na_Rule__word : PySem.W.findIn K (.ref CRule) "_word" = some none)
    (na_Rule__stander : PySem.W.findIn K (.ref CRule) "_stander" = some none)
    (na_Rule__turned : PySem.W.findIn K (.ref CRule) "_turned" = some none)
    (gd_CONTRARIES : PySem.W.nsIn K mainGlobals "CONTRARIES" = some (some (.ref DCONTRARIES)))
    (ld_CONTRARIES : K.lookup DCONTRARIES = some ⟨.type "dict", none, .dict esCONTRARIES enCONTRARIES, #[]⟩)
    (lk_CONTRARIES : PySem.W.KeysLit w.params esCONTRARIES.toList)
    (lv_CONTRARIES_1 : PySem.W.nsIn K DCONTRARIES "a" = some (some (.str "h" tCONTRARIES1)))
    (lv_CONTRARIES_0 : PySem.W.nsIn K DCONTRARIES "h" = some (some (.str "a" tCONTRARIES0)))
    (gd_CONTRARY_STANDERS : PySem.W.nsIn K mainGlobals "CONTRARY_STANDERS" = some (some (.ref DCONTRARY_STANDERS)))
    (ld_CONTRARY_STANDERS : K.lookup DCONTRARY_STANDERS = some ⟨.type "dict", none, .dict esCONTRARY_STANDERS enCONTRARY_STANDERS, #[]⟩)
    (lk_CONTRARY_STANDERS : PySem.W.KeysLit w.params esCONTRARY_STANDERS.toList)
    (lv_CONTRARY_STANDERS_3 : PySem.W.nsIn K DCONTRARY_STANDERS "odd" = some (some (.str "even" tCONTRARY_STANDERS3)))
    (lv_CONTRARY_STANDERS_2 : PySem.W.nsIn K DCONTRARY_STANDERS "even" = some (some (.str "odd" tCONTRARY_STANDERS2)))
    (lv_CONTRARY_STANDERS_1 : PySem.W.nsIn K DCONTRARY_STANDERS "away" = some (some (.str "home" tCONTRARY_STANDERS1)))
    (lv_CONTRARY_STANDERS_0 : PySem.W.nsIn K DCONTRARY_STANDERS "home" = some (some (.str "away" tCONTRARY_STANDERS0)))
    (gd_STANDER_MARKS : PySem.W.nsIn K mainGlobals "STANDER_MARKS" = some (some (.ref DSTANDER_MARKS)))
    (ld_STANDER_MARKS : K.lookup DSTANDER_MARKS = some ⟨.type "dict", none, .dict esSTANDER_MARKS enSTANDER_MARKS, #[]⟩)
    (lk_STANDER_MARKS : PySem.W.KeysLit w.params esSTANDER_MARKS.toList)
    (lv_STANDER_MARKS_3 : PySem.W.nsIn K DSTANDER_MARKS "odd" = some (some (.str "ah" tSTANDER_MARKS3)))
    (lv_STANDER_MARKS_2 : PySem.W.nsIn K DSTANDER_MARKS "even" = some (some (.str "ha" tSTANDER_MARKS2)))
    (lv_STANDER_MARKS_1 : PySem.W.nsIn K DSTANDER_MARKS "away" = some (some (.str "aa" tSTANDER_MARKS1)))
    (lv_STANDER_MARKS_0 : PySem.W.nsIn K DSTANDER_MARKS "home" = some (some (.str "hh" tSTANDER_MARKS0)))
    (lo_CONTRARY_STANDERS : (DCONTRARY_STANDERS == sysModules) = false)
    (z_abs : PySem.W.nsIn K mainGlobals "abs" = some none)
    (z_all : PySem.W.nsIn K mainGlobals "all" = some none)
    (z_bool : PySem.W.nsIn K mainGlobals "bool" = some none)
    (z_divmod : PySem.W.nsIn K mainGlobals "divmod" = some none)
    (z_enumerate : PySem.W.nsIn K mainGlobals "enumerate" = some none)
    (z_int : PySem.W.nsIn K mainGlobals "int" = some none)
    (z_isinstance : PySem.W.nsIn K mainGlobals "isinstance" = some none)
    (z_len : PySem.W.nsIn K mainGlobals "len" = some none)
    (z_list : PySem.W.nsIn K mainGlobals "list" = some none)
    (z_max : PySem.W.nsIn K mainGlobals "max" = some none)
    (z_min : PySem.W.nsIn K mainGlobals "min" = some none)
    (z_range : PySem.W.nsIn K mainGlobals "range" = some none)
    (z_repr : PySem.W.nsIn K mainGlobals "repr" = some none)
    (z_sorted : PySem.W.nsIn K mainGlobals "sorted" = some none)
    (z_str : PySem.W.nsIn K mainGlobals "str" = some none)
    (z_sum : PySem.W.nsIn K mainGlobals "sum" = some none)
    (z_tuple : PySem.W.nsIn K mainGlobals "tuple" = some none)
    (c_MOST_BEGIN : PySem.W.nsIn K mainGlobals "MOST_BEGIN" = some (some (.int 3 tMOST_BEGIN)))
    (c_MOST_LEGS : PySem.W.nsIn K mainGlobals "MOST_LEGS" = some (some (.int 4 tMOST_LEGS)))
    (c_MOST_MARKS : PySem.W.nsIn K mainGlobals "MOST_MARKS" = some (some (.int 4 tMOST_MARKS)))
    (c_MOST_STEP : PySem.W.nsIn K mainGlobals "MOST_STEP" = some (some (.int 7 tMOST_STEP))) :
    ∃ fd : FuncData, (∀ (s : Shared) (v : Value), BindsTo s fd ⟨[v], []⟩ [("_law_script", v)]) ∧ ∀ base : Heap, K.In base → base.Ns mainGlobals mg → FnG l.prog w K mg base 12 fa fd ["_law_script"] (sp_law K) := by
  have e := hfa.symm.trans (PySem.W.mg_of X G a_law)
  cases e
  have T : Txt w K mg ⟨Ais_marks, (PySem.W.fnOf "is_marks" "is_marks" (defArgs s_is_marks) (defBody s_is_marks) (defScope s_is_marks) .none kVis_marks dcis_marks pmis_marks anis_marks cdis_marks ctis_marks), Acheck_part, (PySem.W.fnOf "_check_part" "_check_part" (defArgs s_check_part) (defBody s_check_part) (defScope s_check_part) .none kVcheck_part dccheck_part pmcheck_part ancheck_part cdcheck_part ctcheck_part), Adraw, (PySem.W.fnOf "_law_draw" "_law_draw" (defArgs s_draw) (defBody s_draw) (defScope s_draw) .none kVdraw dcdraw pmdraw andraw cddraw ctdraw), Apick, (PySem.W.fnOf "_law_pick" "_law_pick" (defArgs s_pick) (defBody s_pick) (defScope s_pick) .none kVpick dcpick pmpick anpick cdpick ctpick), Amarks, (PySem.W.fnOf "_law_marks" "_law_marks" (defArgs s_marks) (defBody s_marks) (defScope s_marks) .none kVmarks dcmarks pmmarks anmarks cdmarks ctmarks), Asheet, (PySem.W.fnOf "_law_sheet" "_law_sheet" (defArgs s_sheet) (defBody s_sheet) (defScope s_sheet) .none kVsheet dcsheet pmsheet ansheet cdsheet ctsheet), Aseason, (PySem.W.fnOf "_law_season" "_law_season" (defArgs s_season) (defBody s_season) (defScope s_season) .none kVseason dcseason pmseason anseason cdseason ctseason), Ais_integer, (PySem.W.fnOf "is_integer" "is_integer" (defArgs s_is_integer) (defBody s_is_integer) (defScope s_is_integer) .none kVis_integer dcis_integer pmis_integer anis_integer cdis_integer ctis_integer), ARule_init, (PySem.W.fnOf "__init__" "Rule.__init__" (defArgs s_Rule_init) (defBody s_Rule_init) (defScope s_Rule_init) (.ref TRule_init) kVRule_init dcRule_init pmRule_init anRule_init cdRule_init ctRule_init), Amade, (PySem.W.fnOf "_law_made" "_law_made" (defArgs s_made) (defBody s_made) (defScope s_made) .none kVmade dcmade pmmade anmade cdmade ctmade), Afewest, (PySem.W.fnOf "_law_fewest" "_law_fewest" (defArgs s_fewest) (defBody s_fewest) (defScope s_fewest) .none kVfewest dcfewest pmfewest anfewest cdfewest ctfewest), Aline, (PySem.W.fnOf "_law_line" "_law_line" (defArgs s_line) (defBody s_line) (defScope s_line) .none kVline dcline pmline anline cdline ctline), Adays, (PySem.W.fnOf "_law_days" "_law_days" (defArgs s_days) (defBody s_days) (defScope s_days) .none kVdays dcdays pmdays andays cddays ctdays), Ahost, (PySem.W.fnOf "_law_host" "_law_host" (defArgs s_host) (defBody s_host) (defScope s_host) .none kVhost dchost pmhost anhost cdhost cthost), Acontrary, (PySem.W.fnOf "_law_contrary" "_law_contrary" (defArgs s_contrary) (defBody s_contrary) (defScope s_contrary) .none kVcontrary dccontrary pmcontrary ancontrary cdcontrary ctcontrary), Asign, (PySem.W.fnOf "_law_sign" "_law_sign" (defArgs s_sign) (defBody s_sign) (defScope s_sign) .none kVsign dcsign pmsign ansign cdsign ctsign), AWord_least, (PySem.W.fnOf "least" "Word.least" (defArgs s_Word_least) (defBody s_Word_least) (defScope s_Word_least) .none kVWord_least dcWord_least pmWord_least anWord_least cdWord_least ctWord_least), ARule_least_size, (PySem.W.fnOf "least_size" "Rule.least_size" (defArgs s_Rule_least_size) (defBody s_Rule_least_size) (defScope s_Rule_least_size) .none kVRule_least_size dcRule_least_size pmRule_least_size anRule_least_size cdRule_least_size ctRule_least_size), Ais_size, (PySem.W.fnOf "is_size" "is_size" (defArgs s_is_size) (defBody s_is_size) (defScope s_is_size) .none kVis_size dcis_size pmis_size anis_size cdis_size ctis_size), Acheck_size, (PySem.W.fnOf "check_size" "check_size" (defArgs s_check_size) (defBody s_check_size) (defScope s_check_size) .none kVcheck_size dccheck_size pmcheck_size ancheck_size cdcheck_size ctcheck_size), Ais_list, (PySem.W.fnOf "is_list" "is_list" (defArgs s_is_list) (defBody s_is_list) (defScope s_is_list) .none kVis_list dcis_list pmis_list anis_list cdis_list ctis_list), Ais_count, (PySem.W.fnOf "is_count" "is_count" (defArgs s_is_count) (defBody s_is_count) (defScope s_is_count) .none kVis_count dcis_count pmis_count anis_count cdis_count ctis_count), Ais_leg, (PySem.W.fnOf "_is_leg" "_is_leg" (defArgs s_is_leg) (defBody s_is_leg) (defScope s_is_leg) .none kVis_leg dcis_leg pmis_leg anis_leg cdis_leg ctis_leg), Acheck_legs, (PySem.W.fnOf "_check_legs" "_check_legs" (defArgs s_check_legs) (defBody s_check_legs) (defScope s_check_legs) .none kVcheck_legs dccheck_legs pmcheck_legs ancheck_legs cdcheck_legs ctcheck_legs), Acheck_team, (PySem.W.fnOf "check_team" "check_team" (defArgs s_check_team) (defBody s_check_team) (defScope s_check_team) .none kVcheck_team dccheck_team pmcheck_team ancheck_team cdcheck_team ctcheck_team), Acheck_pair, (PySem.W.fnOf "check_pair" "check_pair" (defArgs s_check_pair) (defBody s_check_pair) (defScope s_check_pair) .none kVcheck_pair dccheck_pair pmcheck_pair ancheck_pair cdcheck_pair ctcheck_pair), ARule_step, (PySem.W.fnOf "step" "Rule.step" (defArgs s_Rule_step) (defBody s_Rule_step) (defScope s_Rule_step) .none kVRule_step dcRule_step pmRule_step anRule_step cdRule_step ctRule_step), Arounds_at, (PySem.W.fnOf "_rounds_at" "_rounds_at" (defArgs s_rounds_at) (defBody s_rounds_at) (defScope s_rounds_at) .none kVrounds_at dcrounds_at pmrounds_at anrounds_at cdrounds_at ctrounds_at), Arounds_of, (PySem.W.fnOf "rounds_of" "rounds_of" (defArgs s_rounds_of) (defBody s_rounds_of) (defScope s_rounds_of) .none kVrounds_of dcrounds_of pmrounds_of anrounds_of cdrounds_of ctrounds_of), Acheck_day, (PySem.W.fnOf "check_day" "check_day" (defArgs s_check_day) (defBody s_check_day) (defScope s_check_day) .none kVcheck_day dccheck_day pmcheck_day ancheck_day cdcheck_day ctcheck_day), Acheck, (PySem.W.fnOf "_check" "_check" (defArgs s_check) (defBody s_check) (defScope s_check) .none kVcheck dccheck pmcheck ancheck cdcheck ctcheck), ARule_stander, (PySem.W.fnOf "stander" "Rule.stander" (defArgs s_Rule_stander) (defBody s_Rule_stander) (defScope s_Rule_stander) .none kVRule_stander dcRule_stander pmRule_stander anRule_stander cdRule_stander ctRule_stander), Astander_mark, (PySem.W.fnOf "stander_mark" "stander_mark" (defArgs s_stander_mark) (defBody s_stander_mark) (defScope s_stander_mark) .none kVstander_mark dcstander_mark pmstander_mark anstander_mark cdstander_mark ctstander_mark), Aseat, (PySem.W.fnOf "_seat" "_seat" (defArgs s_seat) (defBody s_seat) (defScope s_seat) .none kVseat dcseat pmseat anseat cdseat ctseat), Acontrary_marks, (PySem.W.fnOf "contrary_marks" "contrary_marks" (defArgs s_contrary_marks) (defBody s_contrary_marks) (defScope s_contrary_marks) .none kVcontrary_marks dccontrary_marks pmcontrary_marks ancontrary_marks cdcontrary_marks ctcontrary_marks), ARule_word, (PySem.W.fnOf "word" "Rule.word" (defArgs s_Rule_word) (defBody s_Rule_word) (defScope s_Rule_word) .none kVRule_word dcRule_word pmRule_word anRule_word cdRule_word ctRule_word), Acheck_places, (PySem.W.fnOf "_check_places" "_check_places" (defArgs s_check_places) (defBody s_check_places) (defScope s_check_places) .none kVcheck_places dccheck_places pmcheck_places ancheck_places cdcheck_places ctcheck_places), AWord_mark, (PySem.W.fnOf "mark" "Word.mark" (defArgs s_Word_mark) (defBody s_Word_mark) (defScope s_Word_mark) .none kVWord_mark dcWord_mark pmWord_mark anWord_mark cdWord_mark ctWord_mark), ARule_turned, (PySem.W.fnOf "turned" "Rule.turned" (defArgs s_Rule_turned) (defBody s_Rule_turned) (defScope s_Rule_turned) .none kVRule_turned dcRule_turned pmRule_turned anRule_turned cdRule_turned ctRule_turned), Aturned_if, (PySem.W.fnOf "_turned_if" "_turned_if" (defArgs s_turned_if) (defBody s_turned_if) (defScope s_turned_if) .none kVturned_if dcturned_if pmturned_if anturned_if cdturned_if ctturned_if), Amark_at, (PySem.W.fnOf "_mark_at" "_mark_at" (defArgs s_mark_at) (defBody s_mark_at) (defScope s_mark_at) .none kVmark_at dcmark_at pmmark_at anmark_at cdmark_at ctmark_at), Amark_of, (PySem.W.fnOf "mark_of" "mark_of" (defArgs s_mark_of) (defBody s_mark_of) (defScope s_mark_of) .none kVmark_of dcmark_of pmmark_of anmark_of cdmark_of ctmark_of), Apair_homes, (PySem.W.fnOf "pair_homes" "pair_homes" (defArgs s_pair_homes) (defBody s_pair_homes) (defScope s_pair_homes) .none kVpair_homes dcpair_homes pmpair_homes anpair_homes cdpair_homes ctpair_homes), Asmall_right, (PySem.W.fnOf "_law_small_right" "_law_small_right" (defArgs s_small_right) (defBody s_small_right) (defScope s_small_right) .none kVsmall_right dcsmall_right pmsmall_right ansmall_right cdsmall_right ctsmall_right), Adays_of, (PySem.W.fnOf "_law_days_of" "_law_days_of" (defArgs s_days_of) (defBody s_days_of) (defScope s_days_of) .none kVdays_of dcdays_of pmdays_of andays_of cddays_of ctdays_of), Amark, (PySem.W.fnOf "_law_mark" "_law_mark" (defArgs s_mark) (defBody s_mark) (defScope s_mark) .none kVmark dcmark pmmark anmark cdmark ctmark), Afar_sign, (PySem.W.fnOf "_law_far_sign" "_law_far_sign" (defArgs s_far_sign) (defBody s_far_sign) (defScope s_far_sign) .none kVfar_sign dcfar_sign pmfar_sign anfar_sign cdfar_sign ctfar_sign), Ahomes, (PySem.W.fnOf "_law_homes" "_law_homes" (defArgs s_homes) (defBody s_homes) (defScope s_homes) .none kVhomes dchomes pmhomes anhomes cdhomes cthomes), Apair_right, (PySem.W.fnOf "_law_pair_right" "_law_pair_right" (defArgs s_pair_right) (defBody s_pair_right) (defScope s_pair_right) .none kVpair_right dcpair_right pmpair_right anpair_right cdpair_right ctpair_right), Aright, (PySem.W.fnOf "_law_right" "_law_right" (defArgs s_right) (defBody s_right) (defScope s_right) .none kVright dcright pmright anright cdright ctright), Apot, (PySem.W.fnOf "_law_pot" "_law_pot" (defArgs s_pot) (defBody s_pot) (defScope s_pot) .none kVpot dcpot pmpot anpot cdpot ctpot), fa, (PySem.W.fnOf "law" "law" (defArgs s_law) (defBody s_law) (defScope s_law) .none kVlaw dclaw pmlaw anlaw cdlaw ctlaw), AWord_init, (PySem.W.fnOf "__init__" "Word.__init__" (defArgs s_Word_init) (defBody s_Word_init) (defScope s_Word_init) .none kVWord_init dcWord_init pmWord_init anWord_init cdWord_init ctWord_init), CWord, CRule, PRule_least_size, PRule_stander, PRule_step, PRule_turned, PRule_word, PWord_least, DCONTRARIES, DCONTRARY_STANDERS, DSTANDER_MARKS⟩ := ⟨fun_mk (st := s_is_marks) l_is_marks o_is_marks k_is_marks, (fun_mk (st := s_is_marks) l_is_marks o_is_marks k_is_marks).binds (ps := ["value"]) fun _ _ _ _ _ _ us hl => match us, hl with | [_], _ => rfl, PySem.W.mg_of X G a_is_marks, fun_mk (st := s_check_part) l_check_part o_check_part k_check_part, (fun_mk (st := s_check_part) l_check_part o_check_part k_check_part).binds (ps := ["marks"]) fun _ _ _ _ _ _ us hl => match us, hl with | [_], _ => rfl, PySem.W.mg_of X G a_check_part, fun_mk (st := s_draw) l_draw o_draw k_draw, (fun_mk (st := s_draw) l_draw o_draw k_draw).binds (ps := ["_law_pot_here", "_law_many"]) fun _ _ _ _ _ _ us hl => match us, hl with | [_, _], _ => rfl, PySem.W.mg_of X G a_draw, fun_mk (st := s_pick) l_pick o_pick k_pick, (fun_mk (st := s_pick) l_pick o_pick k_pick).binds (ps := ["_law_pot_here", "_law_some"]) fun _ _ _ _ _ _ us hl => match us, hl with | [_, _], _ => rfl, PySem.W.mg_of X G a_pick, fun_mk (st := s_marks) l_marks o_marks k_marks, (fun_mk (st := s_marks) l_marks o_marks k_marks).binds (ps := ["_law_pot_here", "_law_sizes"]) fun _ _ _ _ _ _ us hl => match us, hl with | [_, _], _ => rfl, PySem.W.mg_of X G a_marks, fun_mk (st := s_sheet) l_sheet o_sheet k_sheet, (fun_mk (st := s_sheet) l_sheet o_sheet k_sheet).binds (ps := ["_law_pot_here"]) fun _ _ _ _ _ _ us hl => match us, hl with | [_], _ => rfl, PySem.W.mg_of X G a_sheet, fun_mk (st := s_season) l_season o_season k_season, (fun_mk (st := s_season) l_season o_season k_season).binds (ps := ["_law_pot_here"]) fun _ _ _ _ _ _ us hl => match us, hl with | [_], _ => rfl, PySem.W.mg_of X G a_season, fun_mk (st := s_is_integer) l_is_integer o_is_integer k_is_integer, (fun_mk (st := s_is_integer) l_is_integer o_is_integer k_is_integer).binds (ps := ["value"]) fun _ _ _ _ _ _ us hl => match us, hl with | [_], _ => rfl, PySem.W.mg_of X G a_is_integer, ⟨⟨_, _, _, _, _, _, _, _, _, _, rfl, l_Rule_init, o_Rule_init, .inr ⟨by simp, TRule_init, _, _, _, rfl, t_Rule_init, rfl, .cons rfl (.nil)⟩, .inl rfl⟩, k_Rule_init⟩, (fun (F_ : FunD K "__init__" "Rule.__init__" (defArgs s_Rule_init) (defBody s_Rule_init) (defScope s_Rule_init) [V.bl false] [] ARule_init _) => FunD_b0 F_ (by simp) fun T_ kV_ doc_ pm_ an_ cdv_ ct_ us_ its_ h_ hi_ => match us_, its_, h_, hi_ with | [_, _, _, _, _], [_], _, _ => ⟨_, rfl, rfl⟩) ⟨⟨_, _, _, _, _, _, _, _, _, _, rfl, l_Rule_init, o_Rule_init, .inr ⟨by simp, TRule_init, _, _, _, rfl, t_Rule_init, rfl, .cons rfl (.nil)⟩, .inl rfl⟩, k_Rule_init⟩, fun_mk (st := s_made) l_made o_made k_made, (fun_mk (st := s_made) l_made o_made k_made).binds (ps := ["_law_sheet_here"]) fun _ _ _ _ _ _ us hl => match us, hl with | [_], _ => rfl, PySem.W.mg_of X G a_made, fun_mk (st := s_fewest) l_fewest o_fewest k_fewest, (fun_mk (st := s_fewest) l_fewest o_fewest k_fewest).binds (ps := ["_law_sheet_here"]) fun _ _ _ _ _ _ us hl => match us, hl with | [_], _ => rfl, PySem.W.mg_of X G a_fewest, fun_mk (st := s_line) l_line o_line k_line, (fun_mk (st := s_line) l_line o_line k_line).binds (ps := ["_law_parts", "_law_places"]) fun _ _ _ _ _ _ us hl => match us, hl with | [_, _], _ => rfl, PySem.W.mg_of X G a_line, fun_mk (st := s_days) l_days o_days k_days, (fun_mk (st := s_days) l_days o_days k_days).binds (ps := ["_law_leg", "_law_ring"]) fun _ _ _ _ _ _ us hl => match us, hl with | [_, _], _ => rfl, PySem.W.mg_of X G a_days, fun_mk (st := s_host) l_host o_host k_host, (fun_mk (st := s_host) l_host o_host k_host).binds (ps := ["_law_host_here", "_law_day_now"]) fun _ _ _ _ _ _ us hl => match us, hl with | [_, _], _ => rfl, PySem.W.mg_of X G a_host, fun_mk (st := s_contrary) l_contrary o_contrary k_contrary, (fun_mk (st := s_contrary) l_contrary o_contrary k_contrary).binds (ps := ["_law_sign_here"]) fun _ _ _ _ _ _ us hl => match us, hl with | [_], _ => rfl, PySem.W.mg_of X G a_contrary, fun_mk (st := s_sign) l_sign o_sign k_sign, (fun_mk (st := s_sign) l_sign o_sign k_sign).binds (ps := ["_law_sheet_here", "_law_line_here", "_law_ring", "_law_who", "_law_day_now"]) fun _ _ _ _ _ _ us hl => match us, hl with | [_, _, _, _, _], _ => rfl, PySem.W.mg_of X G a_sign, fun_mk (st := s_Word_least) l_Word_least o_Word_least k_Word_least, (fun_mk (st := s_Word_least) l_Word_least o_Word_least k_Word_least).binds (ps := ["self"]) fun _ _ _ _ _ _ us hl => match us, hl with | [_], _ => rfl, ⟨pa_Word_least, pg_Word_least, pt_Word_least, ⟨_, pr_Word_least⟩⟩, fun_mk (st := s_Rule_least_size) l_Rule_least_size o_Rule_least_size k_Rule_least_size, (fun_mk (st := s_Rule_least_size) l_Rule_least_size o_Rule_least_size k_Rule_least_size).binds (ps := ["self"]) fun _ _ _ _ _ _ us hl => match us, hl with | [_], _ => rfl, ⟨pa_Rule_least_size, pg_Rule_least_size, pt_Rule_least_size, ⟨_, pr_Rule_least_size⟩⟩, fun_mk (st := s_is_size) l_is_size o_is_size k_is_size, (fun_mk (st := s_is_size) l_is_size o_is_size k_is_size).binds (ps := ["rule", "value"]) fun _ _ _ _ _ _ us hl => match us, hl with | [_, _], _ => rfl, PySem.W.mg_of X G a_is_size, fun_mk (st := s_check_size) l_check_size o_check_size k_check_size, (fun_mk (st := s_check_size) l_check_size o_check_size k_check_size).binds (ps := ["rule", "size"]) fun _ _ _ _ _ _ us hl => match us, hl with | [_, _], _ => rfl, PySem.W.mg_of X G a_check_size, fun_mk (st := s_is_list) l_is_list o_is_list k_is_list, (fun_mk (st := s_is_list) l_is_list o_is_list k_is_list).binds (ps := ["value"]) fun _ _ _ _ _ _ us hl => match us, hl with | [_], _ => rfl, PySem.W.mg_of X G a_is_list, fun_mk (st := s_is_count) l_is_count o_is_count k_is_count, (fun_mk (st := s_is_count) l_is_count o_is_count k_is_count).binds (ps := ["value"]) fun _ _ _ _ _ _ us hl => match us, hl with | [_], _ => rfl, PySem.W.mg_of X G a_is_count, fun_mk (st := s_is_leg) l_is_leg o_is_leg k_is_leg, (fun_mk (st := s_is_leg) l_is_leg o_is_leg k_is_leg).binds (ps := ["value"]) fun _ _ _ _ _ _ us hl => match us, hl with | [_], _ => rfl, PySem.W.mg_of X G a_is_leg, fun_mk (st := s_check_legs) l_check_legs o_check_legs k_check_legs, (fun_mk (st := s_check_legs) l_check_legs o_check_legs k_check_legs).binds (ps := ["legs"]) fun _ _ _ _ _ _ us hl => match us, hl with | [_], _ => rfl, PySem.W.mg_of X G a_check_legs, fun_mk (st := s_check_team) l_check_team o_check_team k_check_team, (fun_mk (st := s_check_team) l_check_team o_check_team k_check_team).binds (ps := ["team", "teams"]) fun _ _ _ _ _ _ us hl => match us, hl with | [_, _], _ => rfl, PySem.W.mg_of X G a_check_team, fun_mk (st := s_check_pair) l_check_pair o_check_pair k_check_pair, (fun_mk (st := s_check_pair) l_check_pair o_check_pair k_check_pair).binds (ps := ["one", "other", "teams"]) fun _ _ _ _ _ _ us hl => match us, hl with | [_, _, _], _ => rfl, PySem.W.mg_of X G a_check_pair, fun_mk (st := s_Rule_step) l_Rule_step o_Rule_step k_Rule_step, (fun_mk (st := s_Rule_step) l_Rule_step o_Rule_step k_Rule_step).binds (ps := ["self"]) fun _ _ _ _ _ _ us hl => match us, hl with | [_], _ => rfl, ⟨pa_Rule_step, pg_Rule_step, pt_Rule_step, ⟨_, pr_Rule_step⟩⟩, fun_mk (st := s_rounds_at) l_rounds_at o_rounds_at k_rounds_at, (fun_mk (st := s_rounds_at) l_rounds_at o_rounds_at k_rounds_at).binds (ps := ["step", "places", "ring"]) fun _ _ _ _ _ _ us hl => match us, hl with | [_, _, _], _ => rfl, PySem.W.mg_of X G a_rounds_at, fun_mk (st := s_rounds_of) l_rounds_of o_rounds_of k_rounds_of, (fun_mk (st := s_rounds_of) l_rounds_of o_rounds_of k_rounds_of).binds (ps := ["rule", "size", "one", "other"]) fun _ _ _ _ _ _ us hl => match us, hl with | [_, _, _, _], _ => rfl, PySem.W.mg_of X G a_rounds_of, fun_mk (st := s_check_day) l_check_day o_check_day k_check_day, (fun_mk (st := s_check_day) l_check_day o_check_day k_check_day).binds (ps := ["day", "rounds"]) fun _ _ _ _ _ _ us hl => match us, hl with | [_, _], _ => rfl, PySem.W.mg_of X G a_check_day, fun_mk (st := s_check) l_check o_check k_check, (fun_mk (st := s_check) l_check o_check k_check).binds (ps := ["rule", "size", "team", "day"]) fun _ _ _ _ _ _ us hl => match us, hl with | [_, _, _, _], _ => rfl, PySem.W.mg_of X G a_check, fun_mk (st := s_Rule_stander) l_Rule_stander o_Rule_stander k_Rule_stander, (fun_mk (st := s_Rule_stander) l_Rule_stander o_Rule_stander k_Rule_stander).binds (ps := ["self"]) fun _ _ _ _ _ _ us hl => match us, hl with | [_], _ => rfl, ⟨pa_Rule_stander, pg_Rule_stander, pt_Rule_stander, ⟨_, pr_Rule_stander⟩⟩, fun_mk (st := s_stander_mark) l_stander_mark o_stander_mark k_stander_mark, (fun_mk (st := s_stander_mark) l_stander_mark o_stander_mark k_stander_mark).binds (ps := ["rule", "day"]) fun _ _ _ _ _ _ us hl => match us, hl with | [_, _], _ => rfl, PySem.W.mg_of X G a_stander_mark, fun_mk (st := s_seat) l_seat o_seat k_seat, (fun_mk (st := s_seat) l_seat o_seat k_seat).binds (ps := ["rule", "size", "team", "day"]) fun _ _ _ _ _ _ us hl => match us, hl with | [_, _, _, _], _ => rfl, PySem.W.mg_of X G a_seat, fun_mk (st := s_contrary_marks) l_contrary_marks o_contrary_marks k_contrary_marks, (fun_mk (st := s_contrary_marks) l_contrary_marks o_contrary_marks k_contrary_marks).binds (ps := ["marks"]) fun _ _ _ _ _ _ us hl => match us, hl with | [_], _ => rfl, PySem.W.mg_of X G a_contrary_marks, fun_mk (st := s_Rule_word) l_Rule_word o_Rule_word k_Rule_word, (fun_mk (st := s_Rule_word) l_Rule_word o_Rule_word k_Rule_word).binds (ps := ["self"]) fun _ _ _ _ _ _ us hl => match us, hl with | [_], _ => rfl, ⟨pa_Rule_word, pg_Rule_word, pt_Rule_word, ⟨_, pr_Rule_word⟩⟩, fun_mk (st := s_check_places) l_check_places o_check_places k_check_places, (fun_mk (st := s_check_places) l_check_places o_check_places k_check_places).binds (ps := ["word", "places"]) fun _ _ _ _ _ _ us hl => match us, hl with | [_, _], _ => rfl, PySem.W.mg_of X G a_check_places, fun_mk (st := s_Word_mark) l_Word_mark o_Word_mark k_Word_mark, (fun_mk (st := s_Word_mark) l_Word_mark o_Word_mark k_Word_mark).binds (ps := ["self", "places", "place"]) fun _ _ _ _ _ _ us hl => match us, hl with | [_, _, _], _ => rfl, ⟨a_Word_mark, i_Word_mark, k_Word_mark⟩, fun_mk (st := s_Rule_turned) l_Rule_turned o_Rule_turned k_Rule_turned, (fun_mk (st := s_Rule_turned) l_Rule_turned o_Rule_turned k_Rule_turned).binds (ps := ["self"]) fun _ _ _ _ _ _ us hl => match us, hl with | [_], _ => rfl, ⟨pa_Rule_turned, pg_Rule_turned, pt_Rule_turned, ⟨_, pr_Rule_turned⟩⟩, fun_mk (st := s_turned_if) l_turned_if o_turned_if k_turned_if, (fun_mk (st := s_turned_if) l_turned_if o_turned_if k_turned_if).binds (ps := ["rule", "day", "marks"]) fun _ _ _ _ _ _ us hl => match us, hl with | [_, _, _], _ => rfl, PySem.W.mg_of X G a_turned_if, fun_mk (st := s_mark_at) l_mark_at o_mark_at k_mark_at, (fun_mk (st := s_mark_at) l_mark_at o_mark_at k_mark_at).binds (ps := ["rule", "size", "at", "day"]) fun _ _ _ _ _ _ us hl => match us, hl with | [_, _, _, _], _ => rfl, PySem.W.mg_of X G a_mark_at, fun_mk (st := s_mark_of) l_mark_of o_mark_of k_mark_of, (fun_mk (st := s_mark_of) l_mark_of o_mark_of k_mark_of).binds (ps := ["rule", "size", "team", "day"]) fun _ _ _ _ _ _ us hl => match us, hl with | [_, _, _, _], _ => rfl, PySem.W.mg_of X G a_mark_of, fun_mk (st := s_pair_homes) l_pair_homes o_pair_homes k_pair_homes, (fun_mk (st := s_pair_homes) l_pair_homes o_pair_homes k_pair_homes).binds (ps := ["rule", "size", "legs", "one", "other"]) fun _ _ _ _ _ _ us hl => match us, hl with | [_, _, _, _, _], _ => rfl, PySem.W.mg_of X G a_pair_homes, fun_mk (st := s_small_right) l_small_right o_small_right k_small_right, (fun_mk (st := s_small_right) l_small_right o_small_right k_small_right).binds (ps := ["_law_sheet_here", "_law_plan", "_law_ring", "_law_legs_now"]) fun _ _ _ _ _ _ us hl => match us, hl with | [_, _, _, _], _ => rfl, PySem.W.mg_of X G a_small_right, fun_mk (st := s_days_of) l_days_of o_days_of k_days_of, (fun_mk (st := s_days_of) l_days_of o_days_of k_days_of).binds (ps := ["_law_sheet_here", "_law_ring", "_law_who", "_law_mate"]) fun _ _ _ _ _ _ us hl => match us, hl with | [_, _, _, _], _ => rfl, PySem.W.mg_of X G a_days_of, fun_mk (st := s_mark) l_mark o_mark k_mark, (fun_mk (st := s_mark) l_mark o_mark k_mark).binds (ps := ["_law_parts", "_law_places", "_law_place"]) fun _ _ _ _ _ _ us hl => match us, hl with | [_, _, _], _ => rfl, PySem.W.mg_of X G a_mark, fun_mk (st := s_far_sign) l_far_sign o_far_sign k_far_sign, (fun_mk (st := s_far_sign) l_far_sign o_far_sign k_far_sign).binds (ps := ["_law_sheet_here", "_law_ring", "_law_who", "_law_day_now"]) fun _ _ _ _ _ _ us hl => match us, hl with | [_, _, _, _], _ => rfl, PySem.W.mg_of X G a_far_sign, fun_mk (st := s_homes) l_homes o_homes k_homes, (fun_mk (st := s_homes) l_homes o_homes k_homes).binds (ps := ["_law_sheet_here", "_law_ring", "_law_legs_now", "_law_days_here", "_law_who"]) fun _ _ _ _ _ _ us hl => match us, hl with | [_, _, _, _, _], _ => rfl, PySem.W.mg_of X G a_homes, fun_mk (st := s_pair_right) l_pair_right o_pair_right k_pair_right, (fun_mk (st := s_pair_right) l_pair_right o_pair_right k_pair_right).binds (ps := ["_law_sheet_here", "_law_plan", "_law_ring", "_law_legs_now", "_law_who", "_law_mate"]) fun _ _ _ _ _ _ us hl => match us, hl with | [_, _, _, _, _, _], _ => rfl, PySem.W.mg_of X G a_pair_right, fun_mk (st := s_right) l_right o_right k_right, (fun_mk (st := s_right) l_right o_right k_right).binds (ps := ["_law_pot_here"]) fun _ _ _ _ _ _ us hl => match us, hl with | [_], _ => rfl, PySem.W.mg_of X G a_right, fun_mk (st := s_pot) l_pot o_pot k_pot, (fun_mk (st := s_pot) l_pot o_pot k_pot).binds (ps := ["_law_script", "_law_k"]) fun _ _ _ _ _ _ us hl => match us, hl with | [_, _], _ => rfl, PySem.W.mg_of X G a_pot, fun_mk (st := s_law) l_law o_law k_law, (fun_mk (st := s_law) l_law o_law k_law).binds (ps := ["_law_script"]) fun _ _ _ _ _ _ us hl => match us, hl with | [_], _ => rfl, PySem.W.mg_of X G a_law, fun_mk (st := s_Word_init) l_Word_init o_Word_init k_Word_init, (fun_mk (st := s_Word_init) l_Word_init o_Word_init k_Word_init).binds (ps := ["self", "head", "middle", "tail"]) fun _ _ _ _ _ _ us hl => match us, hl with | [_, _, _, _], _ => rfl, ⟨pg_Word, hd_Word, po_Word, sa_Word⟩, PySem.W.mg_of X G aC_Word, ⟨mk_Word, a_Word_init, i_Word_init, kc_Word⟩, na_Word__head, na_Word__middle, na_Word__tail, ⟨pg_Rule, hd_Rule, po_Rule, sa_Rule⟩, PySem.W.mg_of X G aC_Rule, ⟨mk_Rule, a_Rule_init, i_Rule_init, kc_Rule⟩, na_Rule__step, na_Rule__word, na_Rule__stander, na_Rule__turned, PySem.W.mg_of X G gd_CONTRARIES, (kd_cons ⟨_, _, _, ld_CONTRARIES, lk_CONTRARIES, lv_CONTRARIES_0, ⟨_, rfl⟩⟩ (kd_cons ⟨_, _, _, ld_CONTRARIES, lk_CONTRARIES, lv_CONTRARIES_1, ⟨_, rfl⟩⟩ kd_nil)), PySem.W.mg_of X G gd_CONTRARY_STANDERS, (kd_cons ⟨_, _, _, ld_CONTRARY_STANDERS, lk_CONTRARY_STANDERS, lv_CONTRARY_STANDERS_0, ⟨_, rfl⟩⟩ (kd_cons ⟨_, _, _, ld_CONTRARY_STANDERS, lk_CONTRARY_STANDERS, lv_CONTRARY_STANDERS_1, ⟨_, rfl⟩⟩ (kd_cons ⟨_, _, _, ld_CONTRARY_STANDERS, lk_CONTRARY_STANDERS, lv_CONTRARY_STANDERS_2, ⟨_, rfl⟩⟩ (kd_cons ⟨_, _, _, ld_CONTRARY_STANDERS, lk_CONTRARY_STANDERS, lv_CONTRARY_STANDERS_3, ⟨_, rfl⟩⟩ kd_nil)))), PySem.W.mg_of X G gd_STANDER_MARKS, (kd_cons ⟨_, _, _, ld_STANDER_MARKS, lk_STANDER_MARKS, lv_STANDER_MARKS_0, ⟨_, rfl⟩⟩ (kd_cons ⟨_, _, _, ld_STANDER_MARKS, lk_STANDER_MARKS, lv_STANDER_MARKS_1, ⟨_, rfl⟩⟩ (kd_cons ⟨_, _, _, ld_STANDER_MARKS, lk_STANDER_MARKS, lv_STANDER_MARKS_2, ⟨_, rfl⟩⟩ (kd_cons ⟨_, _, _, ld_STANDER_MARKS, lk_STANDER_MARKS, lv_STANDER_MARKS_3, ⟨_, rfl⟩⟩ kd_nil)))), lo_CONTRARY_STANDERS, PySem.W.mg_none_of X G z_abs, PySem.W.mg_none_of X G z_all, PySem.W.mg_none_of X G z_bool, PySem.W.mg_none_of X G z_divmod, PySem.W.mg_none_of X G z_enumerate, PySem.W.mg_none_of X G z_int, PySem.W.mg_none_of X G z_isinstance, PySem.W.mg_none_of X G z_len, PySem.W.mg_none_of X G z_list, PySem.W.mg_none_of X G z_max, PySem.W.mg_none_of X G z_min, PySem.W.mg_none_of X G z_range, PySem.W.mg_none_of X G z_repr, PySem.W.mg_none_of X G z_sorted, PySem.W.mg_none_of X G z_str, PySem.W.mg_none_of X G z_sum, PySem.W.mg_none_of X G z_tuple, ⟨_, PySem.W.mg_of X G c_MOST_BEGIN, ⟨_, rfl⟩⟩, ⟨_, PySem.W.mg_of X G c_MOST_LEGS, ⟨_, rfl⟩⟩, ⟨_, PySem.W.mg_of X G c_MOST_MARKS, ⟨_, rfl⟩⟩, ⟨_, PySem.W.mg_of X G c_MOST_STEP, ⟨_, rfl⟩⟩, ⟨fun s us ws _ h1 h2 => match us, ws, h1, h2 with | [], [_, _, _, _, _], _, _ => .of_eq rfl, fun r1 r2 => r1.append (.cons (vals_getD r2 4) (.cons (vals_getD r2 3) (.cons (vals_getD r2 2) (.cons (vals_getD r2 1) (.cons (vals_getD r2 0) (.nil))))))⟩⟩
  exact ⟨_, fun s v => .of_eq rfl, fun base _ _ => ok_law T⟩
end Lw
open PySem PySem.W PyProof.Rows in
set_option maxRecDepth 100000 in
set_option maxHeartbeats 0 in
theorem PySem.Challenge.cw_ringrows_k68_whole_homes_of_pairs_holds : PySem.Challenge.rw_ringrows_k68_whole_homes_of_pairs.Holds := by
  w_on; o_law; k_head; (case hw => w_witness2)
  k_fill
  refine Rx.walk_ofG (l := PySem.Challenge.rw_ringrows_k68_whole_homes_of_pairs) (n := 63) (k := 12) (x := "_law_script") (sp := fun w => Lw.sp_law _) rfl (by decide) rfl ⟨rfl, by decide, by decide⟩ (fun w h Y => PySem.W.kIn_of Y) ?F (fun w H a ns hl hO hS => Lw.law_enter hl hO hS)
  case F =>
    intro w mg fa h KX G hmg
    refine' Lw.all_mk KX G hmg ?a_is_marks ?l_is_marks ?o_is_marks ?k_is_marks ?a_check_part ?l_check_part ?o_check_part ?k_check_part ?a_draw ?l_draw ?o_draw ?k_draw ?a_pick ?l_pick ?o_pick ?k_pick ?a_marks ?l_marks ?o_marks ?k_marks ?a_sheet ?l_sheet ?o_sheet ?k_sheet ?a_season ?l_season ?o_season ?k_season ?a_is_integer ?l_is_integer ?o_is_integer ?k_is_integer ?a_Rule_init ?i_Rule_init ?t_Rule_init ?l_Rule_init ?o_Rule_init ?k_Rule_init ?a_made ?l_made ?o_made ?k_made ?a_fewest ?l_fewest ?o_fewest ?k_fewest ?a_line ?l_line ?o_line ?k_line ?a_days ?l_days ?o_days ?k_days ?a_host ?l_host ?o_host ?k_host ?a_contrary ?l_contrary ?o_contrary ?k_contrary ?a_sign ?l_sign ?o_sign ?k_sign ?pa_Word_least ?pg_Word_least ?pt_Word_least ?pr_Word_least ?l_Word_least ?o_Word_least ?k_Word_least ?pa_Rule_least_size ?pg_Rule_least_size ?pt_Rule_least_size ?pr_Rule_least_size ?l_Rule_least_size ?o_Rule_least_size ?k_Rule_least_size ?a_is_size ?l_is_size ?o_is_size ?k_is_size ?a_check_size ?l_check_size ?o_check_size ?k_check_size ?a_is_list ?l_is_list ?o_is_list ?k_is_list ?a_is_count ?l_is_count ?o_is_count ?k_is_count ?a_is_leg ?l_is_leg ?o_is_leg ?k_is_leg ?a_check_legs ?l_check_legs ?o_check_legs ?k_check_legs ?a_check_team ?l_check_team ?o_check_team ?k_check_team ?a_check_pair ?l_check_pair ?o_check_pair ?k_check_pair ?pa_Rule_step ?pg_Rule_step ?pt_Rule_step ?pr_Rule_step ?l_Rule_step ?o_Rule_step ?k_Rule_step ?a_rounds_at ?l_rounds_at ?o_rounds_at ?k_rounds_at ?a_rounds_of ?l_rounds_of ?o_rounds_of ?k_rounds_of ?a_check_day ?l_check_day ?o_check_day ?k_check_day ?a_check ?l_check ?o_check ?k_check ?pa_Rule_stander ?pg_Rule_stander ?pt_Rule_stander ?pr_Rule_stander ?l_Rule_stander ?o_Rule_stander ?k_Rule_stander ?a_stander_mark ?l_stander_mark ?o_stander_mark ?k_stander_mark ?a_seat ?l_seat ?o_seat ?k_seat ?a_contrary_marks ?l_contrary_marks ?o_contrary_marks ?k_contrary_marks ?pa_Rule_word ?pg_Rule_word ?pt_Rule_word ?pr_Rule_word ?l_Rule_word ?o_Rule_word ?k_Rule_word ?a_check_places ?l_check_places ?o_check_places ?k_check_places ?a_Word_mark ?i_Word_mark ?l_Word_mark ?o_Word_mark ?k_Word_mark ?pa_Rule_turned ?pg_Rule_turned ?pt_Rule_turned ?pr_Rule_turned ?l_Rule_turned ?o_Rule_turned ?k_Rule_turned ?a_turned_if ?l_turned_if ?o_turned_if ?k_turned_if ?a_mark_at ?l_mark_at ?o_mark_at ?k_mark_at ?a_mark_of ?l_mark_of ?o_mark_of ?k_mark_of ?a_pair_homes ?l_pair_homes ?o_pair_homes ?k_pair_homes ?a_small_right ?l_small_right ?o_small_right ?k_small_right ?a_days_of ?l_days_of ?o_days_of ?k_days_of ?a_mark ?l_mark ?o_mark ?k_mark ?a_far_sign ?l_far_sign ?o_far_sign ?k_far_sign ?a_homes ?l_homes ?o_homes ?k_homes ?a_pair_right ?l_pair_right ?o_pair_right ?k_pair_right ?a_right ?l_right ?o_right ?k_right ?a_pot ?l_pot ?o_pot ?k_pot ?a_law ?l_law ?o_law ?k_law ?a_Word_init ?i_Word_init ?l_Word_init ?o_Word_init ?k_Word_init ?aC_Word ?pg_Word ?hd_Word ?po_Word ?sa_Word ?mk_Word ?kc_Word ?na_Word__head ?na_Word__middle ?na_Word__tail ?aC_Rule ?pg_Rule ?hd_Rule ?po_Rule ?sa_Rule ?mk_Rule ?kc_Rule ?na_Rule__step ?na_Rule__word ?na_Rule__stander ?na_Rule__turned ?gd_CONTRARIES ?ld_CONTRARIES ?lk_CONTRARIES ?lv_CONTRARIES_1 ?lv_CONTRARIES_0 ?gd_CONTRARY_STANDERS ?ld_CONTRARY_STANDERS ?lk_CONTRARY_STANDERS ?lv_CONTRARY_STANDERS_3 ?lv_CONTRARY_STANDERS_2 ?lv_CONTRARY_STANDERS_1 ?lv_CONTRARY_STANDERS_0 ?gd_STANDER_MARKS ?ld_STANDER_MARKS ?lk_STANDER_MARKS ?lv_STANDER_MARKS_3 ?lv_STANDER_MARKS_2 ?lv_STANDER_MARKS_1 ?lv_STANDER_MARKS_0 ?lo_CONTRARY_STANDERS ?z_abs ?z_all ?z_bool ?z_divmod ?z_enumerate ?z_int ?z_isinstance ?z_len ?z_list ?z_max ?z_min ?z_range ?z_repr ?z_sorted ?z_str ?z_sum ?z_tuple ?c_MOST_BEGIN ?c_MOST_LEGS ?c_MOST_MARKS ?c_MOST_STEP
    (case aC_Word => k_is); (case aC_Rule => k_is); (case gd_CONTRARIES => k_is); (case gd_CONTRARY_STANDERS => k_is); (case gd_STANDER_MARKS => k_is); (case ld_CONTRARIES => k_is); (case ld_CONTRARY_STANDERS => k_is); (case ld_STANDER_MARKS => k_is); (case a_is_marks => k_is); (case l_is_marks => k_is); (case o_is_marks => k_is); (case k_is_marks => k_is); (case a_check_part => k_is); (case l_check_part => k_is); (case o_check_part => k_is); (case k_check_part => k_is); (case a_draw => k_is); (case l_draw => k_is); (case o_draw => k_is); (case k_draw => k_is); (case a_pick => k_is); (case l_pick => k_is); (case o_pick => k_is); (case k_pick => k_is); (case a_marks => k_is); (case l_marks => k_is); (case o_marks => k_is); (case k_marks => k_is); (case a_sheet => k_is); (case l_sheet => k_is); (case o_sheet => k_is); (case k_sheet => k_is); (case a_season => k_is); (case l_season => k_is); (case o_season => k_is); (case k_season => k_is); (case a_is_integer => k_is); (case l_is_integer => k_is); (case o_is_integer => k_is); (case k_is_integer => k_is); (case a_Rule_init => k_is); (case i_Rule_init => k_is); (case l_Rule_init => k_is); (case o_Rule_init => k_is); (case k_Rule_init => k_is); (case a_made => k_is); (case l_made => k_is); (case o_made => k_is); (case k_made => k_is); (case a_fewest => k_is); (case l_fewest => k_is); (case o_fewest => k_is); (case k_fewest => k_is); (case a_line => k_is); (case l_line => k_is); (case o_line => k_is); (case k_line => k_is); (case a_days => k_is); (case l_days => k_is); (case o_days => k_is); (case k_days => k_is); (case a_host => k_is); (case l_host => k_is); (case o_host => k_is); (case k_host => k_is); (case a_contrary => k_is); (case l_contrary => k_is); (case o_contrary => k_is); (case k_contrary => k_is); (case a_sign => k_is); (case l_sign => k_is); (case o_sign => k_is); (case k_sign => k_is); (case pa_Word_least => k_is); (case pg_Word_least => k_is); (case pt_Word_least => k_is); (case pr_Word_least => k_is); (case l_Word_least => k_is); (case o_Word_least => k_is); (case k_Word_least => k_is); (case pa_Rule_least_size => k_is); (case pg_Rule_least_size => k_is); (case pt_Rule_least_size => k_is); (case pr_Rule_least_size => k_is); (case l_Rule_least_size => k_is); (case o_Rule_least_size => k_is); (case k_Rule_least_size => k_is); (case a_is_size => k_is); (case l_is_size => k_is); (case o_is_size => k_is); (case k_is_size => k_is); (case a_check_size => k_is); (case l_check_size => k_is); (case o_check_size => k_is); (case k_check_size => k_is); (case a_is_list => k_is); (case l_is_list => k_is); (case o_is_list => k_is); (case k_is_list => k_is); (case a_is_count => k_is); (case l_is_count => k_is); (case o_is_count => k_is); (case k_is_count => k_is); (case a_is_leg => k_is); (case l_is_leg => k_is); (case o_is_leg => k_is); (case k_is_leg => k_is); (case a_check_legs => k_is); (case l_check_legs => k_is); (case o_check_legs => k_is); (case k_check_legs => k_is); (case a_check_team => k_is); (case l_check_team => k_is); (case o_check_team => k_is); (case k_check_team => k_is); (case a_check_pair => k_is); (case l_check_pair => k_is); (case o_check_pair => k_is); (case k_check_pair => k_is); (case pa_Rule_step => k_is); (case pg_Rule_step => k_is); (case pt_Rule_step => k_is); (case pr_Rule_step => k_is); (case l_Rule_step => k_is); (case o_Rule_step => k_is); (case k_Rule_step => k_is); (case a_rounds_at => k_is); (case l_rounds_at => k_is); (case o_rounds_at => k_is); (case k_rounds_at => k_is); (case a_rounds_of => k_is); (case l_rounds_of => k_is); (case o_rounds_of => k_is); (case k_rounds_of => k_is); (case a_check_day => k_is); (case l_check_day => k_is); (case o_check_day => k_is); (case k_check_day => k_is); (case a_check => k_is); (case l_check => k_is); (case o_check => k_is); (case k_check => k_is); (case pa_Rule_stander => k_is); (case pg_Rule_stander => k_is); (case pt_Rule_stander => k_is); (case pr_Rule_stander => k_is); (case l_Rule_stander => k_is); (case o_Rule_stander => k_is); (case k_Rule_stander => k_is); (case a_stander_mark => k_is); (case l_stander_mark => k_is); (case o_stander_mark => k_is); (case k_stander_mark => k_is); (case a_seat => k_is); (case l_seat => k_is); (case o_seat => k_is); (case k_seat => k_is); (case a_contrary_marks => k_is); (case l_contrary_marks => k_is); (case o_contrary_marks => k_is); (case k_contrary_marks => k_is); (case pa_Rule_word => k_is); (case pg_Rule_word => k_is); (case pt_Rule_word => k_is); (case pr_Rule_word => k_is); (case l_Rule_word => k_is); (case o_Rule_word => k_is); (case k_Rule_word => k_is); (case a_check_places => k_is); (case l_check_places => k_is); (case o_check_places => k_is); (case k_check_places => k_is); (case a_Word_mark => k_is); (case i_Word_mark => k_is); (case l_Word_mark => k_is); (case o_Word_mark => k_is); (case k_Word_mark => k_is); (case pa_Rule_turned => k_is); (case pg_Rule_turned => k_is); (case pt_Rule_turned => k_is); (case pr_Rule_turned => k_is); (case l_Rule_turned => k_is); (case o_Rule_turned => k_is); (case k_Rule_turned => k_is); (case a_turned_if => k_is); (case l_turned_if => k_is); (case o_turned_if => k_is); (case k_turned_if => k_is); (case a_mark_at => k_is); (case l_mark_at => k_is); (case o_mark_at => k_is); (case k_mark_at => k_is); (case a_mark_of => k_is); (case l_mark_of => k_is); (case o_mark_of => k_is); (case k_mark_of => k_is); (case a_pair_homes => k_is); (case l_pair_homes => k_is); (case o_pair_homes => k_is); (case k_pair_homes => k_is); (case a_small_right => k_is); (case l_small_right => k_is); (case o_small_right => k_is); (case k_small_right => k_is); (case a_days_of => k_is); (case l_days_of => k_is); (case o_days_of => k_is); (case k_days_of => k_is); (case a_mark => k_is); (case l_mark => k_is); (case o_mark => k_is); (case k_mark => k_is); (case a_far_sign => k_is); (case l_far_sign => k_is); (case o_far_sign => k_is); (case k_far_sign => k_is); (case a_homes => k_is); (case l_homes => k_is); (case o_homes => k_is); (case k_homes => k_is); (case a_pair_right => k_is); (case l_pair_right => k_is); (case o_pair_right => k_is); (case k_pair_right => k_is); (case a_right => k_is); (case l_right => k_is); (case o_right => k_is); (case k_right => k_is); (case a_pot => k_is); (case l_pot => k_is); (case o_pot => k_is); (case k_pot => k_is); (case a_law => k_is); (case l_law => k_is); (case o_law => k_is); (case k_law => k_is); (case a_Word_init => k_is); (case i_Word_init => k_is); (case l_Word_init => k_is); (case o_Word_init => k_is); (case k_Word_init => k_is); (case pg_Word => k_is); (case hd_Word => k_is); (case po_Word => k_is); (case sa_Word => k_is); (case mk_Word => k_is); (case kc_Word => k_is); (case na_Word__head => k_is); (case na_Word__middle => k_is); (case na_Word__tail => k_is); (case pg_Rule => k_is); (case hd_Rule => k_is); (case po_Rule => k_is); (case sa_Rule => k_is); (case mk_Rule => k_is); (case kc_Rule => k_is); (case na_Rule__step => k_is); (case na_Rule__word => k_is); (case na_Rule__stander => k_is); (case na_Rule__turned => k_is); (case lk_CONTRARIES => k_keys); (case lv_CONTRARIES_1 => k_is); (case lv_CONTRARIES_0 => k_is); (case lk_CONTRARY_STANDERS => k_keys); (case lv_CONTRARY_STANDERS_3 => k_is); (case lv_CONTRARY_STANDERS_2 => k_is); (case lv_CONTRARY_STANDERS_1 => k_is); (case lv_CONTRARY_STANDERS_0 => k_is); (case lk_STANDER_MARKS => k_keys); (case lv_STANDER_MARKS_3 => k_is); (case lv_STANDER_MARKS_2 => k_is); (case lv_STANDER_MARKS_1 => k_is); (case lv_STANDER_MARKS_0 => k_is); (case lo_CONTRARY_STANDERS => decide); (case z_abs => k_is); (case z_all => k_is); (case z_bool => k_is); (case z_divmod => k_is); (case z_enumerate => k_is); (case z_int => k_is); (case z_isinstance => k_is); (case z_len => k_is); (case z_list => k_is); (case z_max => k_is); (case z_min => k_is); (case z_range => k_is); (case z_repr => k_is); (case z_sorted => k_is); (case z_str => k_is); (case z_sum => k_is); (case z_tuple => k_is); (case c_MOST_BEGIN => k_is); (case c_MOST_LEGS => k_is); (case c_MOST_MARKS => k_is); (case c_MOST_STEP => k_is); (case t_Rule_init => k_is)
