import PyProof.Rows.All
import Wide.All
import OpenK.AllK
import Wide.FinOn
import KE.GoesEnum
import KE.GoesMore
import HandS.ForMost
import HandS.Property
import HandS.IsInst
import HandS.Wide
import HandS.WideBits
import HandS.Defaults
import HandS.StrMore
import HandS.Style
import HandS.Codes
import HandS.OwnEq
import HandS.Conv
import HandS.SetFor
import HandS.WrittenGet
import PyProof.StrBlock2
import PyProof.LongRange
import PyProof.ReprRoads
import HandS.FStr
import HandS.MakeKwOnly
import HandS.ListItems
import HandS.Gcd
import HandS.Small
import HandS.NoneIn
import HandS.Walk
import HandS.Deep
import HandS.SortRule
import HandS.SortInts
import PySem.Challenge.RW_ringrows_k51_pictures_told
set_option Elab.async false
set_option linter.all false
set_option maxRecDepth 100000
set_option maxHeartbeats 4000000
namespace Rx
open PySem PySem.Spec PyProof.Rows L2

inductive D where
  | v (x : V)
  | lst (xs : List D)
  | tup (xs : List D)
  | ins (C : Addr) (ns : List Str) (xs : List D)
  | dct (ks : List Key) (xs : List D)
  | dcT (ks : List (List Key)) (xs : List D)

mutual
def rep (ms : List Addr) (H : Hp) : D → V → Prop
  | .v x, u => u = x
  | .lst ds, u => ∃ p vs, u = .ref p ∧ p ∉ ms ∧ H p = some (.lst vs) ∧ repL ms H ds vs
  | .tup ds, u => ∃ p vs, u = .ref p ∧ p ∉ ms ∧ H p = some (.tup vs) ∧ repL ms H ds vs
  | .ins C ns ds, u => ∃ p dx vs, u = .ref p ∧ p ∉ ms ∧ H p = some (.ins C dx (ns.zip vs)) ∧ ns.length = vs.length ∧ repL ms H ds vs
  | .dct ks ds, u => ∃ p vs, u = .ref p ∧ p ∉ ms ∧ H p = some (.dK (ks.zip vs)) ∧ ks.length = vs.length ∧ repL ms H ds vs
  | .dcT ks ds, u => ∃ p vs, u = .ref p ∧ p ∉ ms ∧ H p = some (.dT (ks.zip vs)) ∧ ks.length = vs.length ∧ repL ms H ds vs
def repL (ms : List Addr) (H : Hp) : List D → List V → Prop
  | [], vs => vs = []
  | d :: ds, vs => ∃ u us, vs = u :: us ∧ rep ms H d u ∧ repL ms H ds us
end

mutual
theorem rep_map {ms ms' : List Addr} {H H' : Hp} (f : ∀ p o, p ∉ ms → H p = some o → p ∉ ms' ∧ H' p = some o) : ∀ (d : D) (u : V), rep ms H d u → rep ms' H' d u
  | .v x, u, h => by
    simp only [rep] at h ⊢
    exact h
  | .lst ds, u, h => by
    simp only [rep] at h ⊢
    obtain ⟨p, vs, e, n, hp, hl⟩ := h
    exact ⟨p, vs, e, (f p _ n hp).1, (f p _ n hp).2, repL_map f ds vs hl⟩
  | .tup ds, u, h => by
    simp only [rep] at h ⊢
    obtain ⟨p, vs, e, n, hp, hl⟩ := h
    exact ⟨p, vs, e, (f p _ n hp).1, (f p _ n hp).2, repL_map f ds vs hl⟩
  | .ins C ns ds, u, h => by
    simp only [rep] at h ⊢
    obtain ⟨p, dx, vs, e, n, hp, hn, hl⟩ := h
    exact ⟨p, dx, vs, e, (f p _ n hp).1, (f p _ n hp).2, hn, repL_map f ds vs hl⟩
  | .dct ks ds, u, h => by
    simp only [rep] at h ⊢
    obtain ⟨p, vs, e, n, hp, hn, hl⟩ := h
    exact ⟨p, vs, e, (f p _ n hp).1, (f p _ n hp).2, hn, repL_map f ds vs hl⟩
  | .dcT ks ds, u, h => by
    simp only [rep] at h ⊢
    obtain ⟨p, vs, e, n, hp, hn, hl⟩ := h
    exact ⟨p, vs, e, (f p _ n hp).1, (f p _ n hp).2, hn, repL_map f ds vs hl⟩
theorem repL_map {ms ms' : List Addr} {H H' : Hp} (f : ∀ p o, p ∉ ms → H p = some o → p ∉ ms' ∧ H' p = some o) : ∀ (ds : List D) (us : List V), repL ms H ds us → repL ms' H' ds us
  | [], us, h => by
    simp only [repL] at h ⊢
    exact h
  | d :: ds, us, h => by
    simp only [repL] at h ⊢
    obtain ⟨u, vs, e, h1, h2⟩ := h
    exact ⟨u, vs, e, rep_map f d u h1, repL_map f ds vs h2⟩
end

theorem repL_len {ms : List Addr} {H : Hp} : ∀ {ds : List D} {vs : List V}, repL ms H ds vs → ds.length = vs.length
  | [], vs, h => by
    simp only [repL] at h
    rw [h]
    rfl
  | d :: ds, vs, h => by
    simp only [repL] at h
    obtain ⟨u, us, e, _, h2⟩ := h
    rw [e]
    show ds.length + 1 = us.length + 1
    rw [repL_len h2]
theorem repL_get {ms : List Addr} {H : Hp} : ∀ {ds : List D} {vs : List V} {j : Nat} {d : D}, repL ms H ds vs → ds[j]? = some d → ∃ v, vs[j]? = some v ∧ rep ms H d v
  | [], vs, j, d, h, e => by simp at e
  | d0 :: ds, vs, 0, d, h, e => by
    simp only [repL] at h
    obtain ⟨u, us, rfl, h1, _⟩ := h
    have e' : d0 = d := Option.some.inj e
    subst e'
    exact ⟨u, rfl, h1⟩
  | d0 :: ds, vs, j + 1, d, h, e => by
    simp only [repL] at h
    obtain ⟨u, us, rfl, _, h2⟩ := h
    exact repL_get (j := j) h2 (by simpa using e)
theorem repL_app {ms : List Addr} {H : Hp} : ∀ {ds es : List D} {vs us : List V}, repL ms H ds vs → repL ms H es us → repL ms H (ds ++ es) (vs ++ us)
  | [], es, vs, us, h, h' => by
    simp only [repL] at h
    rw [h]
    exact h'
  | d :: ds, es, vs, us, h, h' => by
    simp only [repL] at h
    obtain ⟨u, ws, rfl, h1, h2⟩ := h
    show repL ms H (d :: (ds ++ es)) (u :: (ws ++ us))
    simp only [repL]
    exact ⟨u, ws ++ us, rfl, h1, repL_app h2 h'⟩
theorem repL_one {ms : List Addr} {H : Hp} {d : D} {u : V} (h : rep ms H d u) : repL ms H [d] [u] := by
  simp only [repL]
  exact ⟨u, [], rfl, h, rfl⟩
theorem repL_nil {ms : List Addr} {H : Hp} : repL ms H [] [] := by simp only [repL]
theorem repL_cons {ms : List Addr} {H : Hp} {d : D} {u : V} {ds : List D} {us : List V} (h : rep ms H d u) (t : repL ms H ds us) : repL ms H (d :: ds) (u :: us) := by
  simp only [repL]
  exact ⟨u, us, rfl, h, t⟩
theorem rep_v {ms : List Addr} {H : Hp} {x : V} : rep ms H (.v x) x := by simp only [rep]
theorem of_v {ms : List Addr} {H : Hp} {x u : V} (h : rep ms H (.v x) u) : u = x := by
  simp only [rep] at h
  exact h
/-- a list of flat values -/
theorem repL_flat {ms : List Addr} {H : Hp} : ∀ {xs vs : List V}, repL ms H (xs.map D.v) vs ↔ vs = xs
  | [], vs => by simp only [List.map_nil, repL]
  | x :: xs, vs => by
    simp only [List.map_cons, repL]
    constructor
    · rintro ⟨u, us, rfl, h1, h2⟩
      rw [of_v h1, repL_flat.mp h2]
    · rintro rfl
      exact ⟨x, xs, rfl, rep_v, repL_flat.mpr rfl⟩

/-! ### frames -/
def PotH (H : Hp) (a : Addr) : Prop := ∃ i j : Int, H a = some (.lst [.int i, .int j]) ∧ j.natAbs < 4294967296
structure Ret (ps : List Addr) (H H' : Hp) : Prop where
  kp : ∀ a o, a ∉ ps → H a = some o → H' a = some o
  pot : ∀ a ∈ ps, PotH H' a
  grow : ∀ a, H a ≠ none → H' a ≠ none
abbrev Ext (H H' : Hp) : Prop := Ret [] H H'
theorem Ret.rfl0 {H : Hp} : Ret [] H H := ⟨fun _ _ _ h => h, fun _ h => absurd h List.not_mem_nil, fun _ h => h⟩
theorem Ext.keep {H H' : Hp} (e : Ext H H') {a : Addr} {o : HO} (h : H a = some o) : H' a = some o := e.kp a o (by simp) h
theorem Ext.new {H : Hp} {p : Addr} {o : HO} (np : H p = none) : Ext H (upd H p o) := by
  refine ⟨fun a u _ h => ?_, fun _ h => absurd h List.not_mem_nil, fun a h => ?_⟩
  · rw [upd_ne (ne_of_none h np)]
    exact h
  · by_cases e : a = p
    · rw [e, upd_same]
      exact fun z => nomatch z
    · rw [upd_ne e]
      exact h
theorem newH {H : Hp} {o : HO} {Q : V → Hp → Prop} (h : ∀ p H', H p = none → Ext H H' → H' p = some o → Q (.ref p) H') : ∀ p, H p = none → Q (.ref p) (upd H p o) :=
  fun p np => h p _ np (Ext.new np) upd_same

structure Wd (ms ps : List Addr) (cs : List (Addr × List V)) (H0 H : Hp) : Prop where
  kp : ∀ a o, a ∉ ps → H0 a = some o → H a = some o
  grow : ∀ a, H0 a ≠ none → H a ≠ none
  tr : ∀ m ∈ ms, H m ≠ none
  pot : ∀ a ∈ ps, PotH H a
  pm : ∀ a ∈ ps, a ∈ ms
  cel : ∀ c ∈ cs, H c.1 = some (.lst c.2) ∧ c.1 ∈ ms ∧ c.1 ∉ ps ∧ H0 c.1 = none

section
variable {ms ps ps' : List Addr} {cs : List (Addr × List V)} {H0 H H' : Hp} {d : D} {u : V}
theorem Wd.ret (hs : ∀ a ∈ ps', a ∈ ps) (w : Wd ms ps cs H0 H) (e : Ret ps' H H') : Wd ms ps cs H0 H' where
  kp := fun a o n h => e.kp a o (fun z => n (hs a z)) (w.kp a o n h)
  grow := fun a h => e.grow a (w.grow a h)
  tr := fun m h => e.grow m (w.tr m h)
  pot := fun a h => by
    by_cases z : a ∈ ps'
    · exact e.pot a z
    · obtain ⟨i, j, h1, h2⟩ := w.pot a h
      exact ⟨i, j, e.kp a _ z h1, h2⟩
  pm := w.pm
  cel := fun c h => by
    obtain ⟨h1, h2, h3, h4⟩ := w.cel c h
    exact ⟨e.kp _ _ (fun z => h3 (hs _ z)) h1, h2, h3, h4⟩
theorem Wd.ret0 (w : Wd ms ps cs H0 H) (e : Ret [] H H') : Wd ms ps cs H0 H' := w.ret (fun _ h => absurd h List.not_mem_nil) e
theorem Wd.retP (w : Wd ms ps cs H0 H) (e : Ret ps H H') : Wd ms ps cs H0 H' := w.ret (fun _ h => h) e
theorem Wd.enter0 (w : Wd ms ps cs H0 H) : Wd ms [] [] H H := ⟨fun _ _ _ h => h, fun _ h => h, w.tr, fun _ h => absurd h List.not_mem_nil, fun _ h => absurd h List.not_mem_nil, fun _ h => absurd h List.not_mem_nil⟩
theorem Wd.enterP (w : Wd ms ps cs H0 H) : Wd ms ps [] H H := ⟨fun _ _ _ h => h, fun _ h => h, w.tr, w.pot, w.pm, fun _ h => absurd h List.not_mem_nil⟩
theorem Wd.out (w : Wd ms ps cs H0 H) : Ret ps H0 H := ⟨w.kp, w.pot, w.grow⟩
theorem rep_ret (w : Wd ms ps cs H0 H) (e : Ret ps H H') (h : rep ms H d u) : rep ms H' d u := rep_map (fun p o n hp => ⟨n, e.kp p o (fun z => n (w.pm p z)) hp⟩) d u h
theorem rep_ext (e : Ret [] H H') (h : rep ms H d u) : rep ms H' d u := rep_map (fun p o n hp => ⟨n, e.kp p o (by simp) hp⟩) d u h
theorem repL_ret {ds : List D} {us : List V} (w : Wd ms ps cs H0 H) (e : Ret ps H H') (h : repL ms H ds us) : repL ms H' ds us := repL_map (fun p o n hp => ⟨n, e.kp p o (fun z => n (w.pm p z)) hp⟩) ds us h
theorem repL_ext {ds : List D} {us : List V} (e : Ret [] H H') (h : repL ms H ds us) : repL ms H' ds us := repL_map (fun p o n hp => ⟨n, e.kp p o (by simp) hp⟩) ds us h
/-- a new cell -/
theorem Wd.cell {l : Addr} {xs : List V} (w : Wd ms ps cs H0 H) (nl : H l = none) : Wd (l :: ms) ps ((l, xs) :: cs) H0 (upd H l (.lst xs)) := by
  have e : Ext H (upd H l (.lst xs)) := Ext.new nl
  have w1 := w.ret0 e
  refine ⟨w1.kp, w1.grow, fun m h => ?_, w1.pot, fun a h => List.mem_cons_of_mem _ (w.pm a h), fun c h => ?_⟩
  · rcases List.mem_cons.mp h with rfl | h
    · rw [upd_same]
      exact fun z => nomatch z
    · exact w1.tr m h
  · rcases List.mem_cons.mp h with rfl | h
    · refine ⟨upd_same, List.mem_cons_self, fun z => ?_, ?_⟩
      · obtain ⟨i, j, h1, _⟩ := w.pot _ z
        rw [nl] at h1
        cases h1
      · show H0 l = none
        cases q : H0 l with
        | none => rfl
        | some o => exact absurd nl (w.grow l (by rw [q]; exact fun z => nomatch z))
    · obtain ⟨h1, h2, h3, h4⟩ := w1.cel c h
      exact ⟨h1, List.mem_cons_of_mem _ h2, h3, h4⟩
theorem rep_cell {l : Addr} {o : HO} (nl : H l = none) (h : rep ms H d u) : rep (l :: ms) (upd H l o) d u := by
  refine rep_map (fun p o n hp => ?_) d u h
  have ne : p ≠ l := ne_of_none hp nl
  refine ⟨fun z => ?_, by rw [upd_ne ne]; exact hp⟩
  rcases List.mem_cons.mp z with z | z
  · exact ne z
  · exact n z
/-- a cell's store -/
theorem Wd.put {l : Addr} {xs ys : List V} (w : Wd ms ps ((l, xs) :: cs) H0 H) (hn : ∀ c ∈ cs, c.1 ≠ l) : Wd ms ps ((l, ys) :: cs) H0 (upd H l (.lst ys)) := by
  obtain ⟨hl, lm, lp, l0⟩ := w.cel _ List.mem_cons_self
  refine ⟨fun a o n h => ?_, fun a h => ?_, fun m h => ?_, fun a h => ?_, w.pm, fun c h => ?_⟩
  · rw [upd_ne (ne_of_none h l0)]
    exact w.kp a o n h
  · by_cases e : a = l
    · rw [e, upd_same]
      exact fun z => nomatch z
    · rw [upd_ne e]
      exact w.grow a h
  · by_cases e : m = l
    · rw [e, upd_same]
      exact fun z => nomatch z
    · rw [upd_ne e]
      exact w.tr m h
  · obtain ⟨i, j, h1, h2⟩ := w.pot a h
    exact ⟨i, j, by rw [upd_ne (fun z => lp (by rw [← z]; exact h))]; exact h1, h2⟩
  · rcases List.mem_cons.mp h with rfl | h
    · exact ⟨upd_same, lm, lp, l0⟩
    · obtain ⟨h1, h2, h3, h4⟩ := w.cel c (List.mem_cons_of_mem _ h)
      exact ⟨by rw [upd_ne (hn c h)]; exact h1, h2, h3, h4⟩
theorem rep_put {l : Addr} {o : HO} (lm : l ∈ ms) (h : rep ms H d u) : rep ms (upd H l o) d u :=
  rep_map (fun p o n hp => ⟨n, by rw [upd_ne (fun z => n (by rw [z]; exact lm))]; exact hp⟩) d u h
theorem repL_put {ds : List D} {us : List V} {l : Addr} {o : HO} (lm : l ∈ ms) (h : repL ms H ds us) : repL ms (upd H l o) ds us :=
  repL_map (fun p o n hp => ⟨n, by rw [upd_ne (fun z => n (by rw [z]; exact lm))]; exact hp⟩) ds us h
/-- the newest cell is a list for good -/
theorem Wd.froze {l : Addr} {xs : List V} (w : Wd (l :: ms) ps ((l, xs) :: cs) H0 H) (hp : ∀ a ∈ ps, a ∈ ms) (hc : ∀ c ∈ cs, c.1 ∈ ms) : Wd ms ps cs H0 H :=
  ⟨w.kp, w.grow, fun m h => w.tr m (List.mem_cons_of_mem _ h), w.pot, hp, fun c h => by
    obtain ⟨h1, _, h3, h4⟩ := w.cel c (List.mem_cons_of_mem _ h)
    exact ⟨h1, hc c h, h3, h4⟩⟩
theorem rep_weak {l : Addr} (h : rep (l :: ms) H d u) : rep ms H d u := rep_map (fun p o n hp => ⟨fun z => n (List.mem_cons_of_mem _ z), hp⟩) d u h
theorem repL_weak {ds : List D} {us : List V} {l : Addr} (h : repL (l :: ms) H ds us) : repL ms H ds us := repL_map (fun p o n hp => ⟨fun z => n (List.mem_cons_of_mem _ z), hp⟩) ds us h
end

/-! ### a reading may be weakened at its end: the places where ways are joined -/
def upE (t : TE) : TE := fun σ H Q => ∃ Q' : VK, t σ H Q' ∧ ∀ v H', Q' v H' → Q v H'
def upT (t : TT) : TT := fun σ H Q => ∃ Q' : Bool → Hp → Prop, t σ H Q' ∧ ∀ b H', Q' b H' → Q b H'
def upS (t : TS) : TS := fun D σ H => ∃ N : L2.St → Hp → Prop, t { D with nx := N } σ H ∧ ∀ σ' H', N σ' H' → D.nx σ' H'
section
variable {X : Cx}
theorem pe_up {e : Expr} {t : TE} (h : PE X e t) : PE X e (upE t) := ⟨fun pins s σ H Q I ⟨Q', hq, m⟩ => thn (h.run pins s σ H Q' I hq) fun u s' ⟨v, H', I', r, q⟩ => ⟨v, H', I', r, m v H' q⟩⟩
theorem pt_up {e : Expr} {t : TT} (h : PT X e t) : PT X e (upT t) := ⟨fun pins s σ H Q I ⟨Q', hq, m⟩ => thn (h.run pins s σ H Q' I hq) fun u s' ⟨H', I', q⟩ => ⟨H', I', m u H' q⟩⟩
theorem ps_up {st : Stmt} {t : TS} (h : PS X st t) : PS X st (upS t) := ⟨fun pins s σ H D I ⟨N, hq, m⟩ => thn (h.run pins s σ H _ I hq) fun f s' q => by
  cases f with
  | next => obtain ⟨σ', H', I', n⟩ := q; exact ⟨σ', H', I', m _ _ n⟩
  | brk => exact q
  | cont => exact q
  | ret u => exact q⟩
end

/-! ### loops by data -/
def mapC {α β : Type} (body : α → (β → Prop) → Prop) : List α → List β → (List β → Prop) → Prop
  | [], acc, k => k acc
  | x :: xs, acc, k => body x fun y => mapC body xs (acc ++ [y]) k
def filC {α β : Type} (body : α → (Option β → Prop) → Prop) : List α → List β → (List β → Prop) → Prop
  | [], acc, k => k acc
  | x :: xs, acc, k => body x fun o => match o with
    | some y => filC body xs (acc ++ [y]) k
    | none => filC body xs acc k
def forC {α S : Type} (body : α → S → (S → Prop) → Prop) : List α → S → (S → Prop) → Prop
  | [], s, k => k s
  | x :: xs, s, k => body x s fun s' => forC body xs s' k
def whileC {S : Type} (body : S → (S → Prop) → (S → Prop) → Prop) : Nat → S → (S → Prop) → Prop
  | 0, _, _ => False
  | n + 1, s, k => body s (fun s' => whileC body n s' k) k
def rangeI (lo hi : Int) : List Int := (List.range (hi - lo).toNat).map fun i => lo + ((i : Nat) : Int)
theorem rangeI_len {lo hi : Int} : (rangeI lo hi).length = (hi - lo).toNat := by simp [rangeI]
theorem rangeI_get {lo hi : Int} {i : Nat} (h : i < (hi - lo).toNat) : (rangeI lo hi)[i]? = some (lo + (i : Int)) := by
  simp [rangeI, List.getElem?_map, List.getElem?_range h]
theorem drop_cons' {α : Type} {xs : List α} {i : Nat} {x : α} (h : xs[i]? = some x) : xs.drop i = x :: xs.drop (i + 1) := by
  obtain ⟨h1, h2⟩ := List.getElem?_eq_some_iff.mp h
  rw [List.drop_eq_getElem_cons h1, h2]

/-- what a loop keeps of all that it does not change -/
def Keep (ms : List Addr) (H H' : Hp) : Prop := ∀ a o, a ∉ ms → H a = some o → H' a = some o
section
variable {ms ps : List Addr} {cs : List (Addr × List V)} {H0 H H1 H' : Hp} {d : D} {u : V}
theorem Keep.refl : Keep ms H H := fun _ _ _ h => h
theorem keep_ret (w : Wd ms ps cs H0 H) (e : Ret ps H H') (k : Keep ms H1 H) : Keep ms H1 H' := fun a o n h => e.kp a o (fun z => n (w.pm a z)) (k a o n h)
theorem keep_ext (e : Ret [] H H') (k : Keep ms H1 H) : Keep ms H1 H' := fun a o n h => e.kp a o (by simp) (k a o n h)
theorem keep_cell {l : Addr} {o : HO} (nl : H l = none) (k : Keep ms H1 H) : Keep (l :: ms) H1 (upd H l o) := fun a u n h => by
  rw [upd_ne (fun z => n (by rw [z]; exact List.mem_cons_self))]
  exact k a u (fun z => n (List.mem_cons_of_mem _ z)) h
theorem keep_put {l : Addr} {o : HO} (lm : l ∈ ms) (k : Keep ms H1 H) : Keep ms H1 (upd H l o) := fun a u n h => by
  rw [upd_ne (fun z => n (by rw [z]; exact lm))]
  exact k a u n h
theorem rep_keep (k : Keep ms H H') (h : rep ms H d u) : rep ms H' d u := rep_map (fun p o n hp => ⟨n, k p o n hp⟩) d u h
theorem repL_keep {ds : List D} {us : List V} (k : Keep ms H H') (h : repL ms H ds us) : repL ms H' ds us := repL_map (fun p o n hp => ⟨n, k p o n hp⟩) ds us h
theorem at_keep {a : Addr} {o : HO} (k : Keep ms H H') (n : a ∉ ms) (h : H a = some o) : H' a = some o := k a o n h
end

theorem ite3 {c : Prop} [Decidable c] {A B P R : Prop} (h : if c then A else B) (h1 : A → P) (h2 : B → R) : if c then P else R := by
  by_cases q : c
  · rw [if_pos q] at h ⊢
    exact h1 h
  · rw [if_neg q] at h ⊢
    exact h2 h

section
variable {K : PySem.W.Frag} {ms ps : List Addr} {cs : List (Addr × List V)} {H0 H : Hp} {d : D} {u x : V}
/-! ### readings by data -/
theorem rep_fld {C : Addr} {ns : List Str} {ds : List D} {f : Str} {Q : VK} {j : Nat} (h : rep ms H (.ins C ns ds) x) (c : Cls K C) (n : NoAttr K C f) (nd : ns.Nodup) (hn : ns[j]? = some f) (hd : ds[j]? = some d) (k : ∀ v, rep ms H d v → Q v H) :
    ∃ a C dx fs v, x = .ref a ∧ H a = some (.ins C dx fs) ∧ Cls K C ∧ NoAttr K C f ∧ fs.lookup f = some v ∧ Q v H := by
  simp only [rep] at h
  obtain ⟨p, dx, vs, e, _, hp, hl, hr⟩ := h
  obtain ⟨v, hv, rv⟩ := repL_get hr hd
  refine ⟨p, C, dx, _, v, e, hp, c, n, ?_, k v rv⟩
  clear hr hd hp e k rv
  induction ns generalizing vs j with
  | nil => simp at hn
  | cons n0 ns ih =>
    cases vs with
    | nil => simp at hv
    | cons v0 vs =>
      cases j with
      | zero =>
        have e1 : n0 = f := Option.some.inj hn
        have e2 : v0 = v := Option.some.inj hv
        subst e1 e2
        simp [List.lookup]
      | succ j =>
        have hn' : ns[j]? = some f := by simpa using hn
        have hv' : vs[j]? = some v := by simpa using hv
        have ne : f ≠ n0 := fun z => by
          subst z
          exact (List.nodup_cons.mp nd).1 (List.mem_of_getElem? hn')
        show ((n0, v0) :: ns.zip vs).lookup f = some v
        rw [List.lookup_cons, show (f == n0) = false from beq_eq_false_iff_ne.mpr ne]
        exact ih (List.nodup_cons.mp nd).2 hn' vs (by simpa using hl) hv'
theorem lookup_zip_none {m : Str} : ∀ {ns : List Str} {vs : List V}, m ∉ ns → (ns.zip vs).lookup m = none
  | [], vs, _ => by simp
  | n :: ns, [], _ => by simp
  | n :: ns, v :: vs, h => by
    show ((n, v) :: ns.zip vs).lookup m = none
    rw [List.lookup_cons, show (m == n) = false from beq_eq_false_iff_ne.mpr fun z => h (by rw [z]; exact List.mem_cons_self)]
    exact lookup_zip_none fun z => h (List.mem_cons_of_mem _ z)
theorem rep_meth {C : Addr} {ns : List Str} {ds : List D} {m : Str} {P : Hp → Prop} (h : rep ms H (.ins C ns ds) x) (hm : m ∉ ns) (k : P H) : ∃ a dx fs, x = .ref a ∧ H a = some (.ins C dx fs) ∧ fs.lookup m = none ∧ P H := by
  simp only [rep] at h
  obtain ⟨p, dx, vs, e, _, hp, hl, hr⟩ := h
  exact ⟨p, dx, _, e, hp, lookup_zip_none hm, k⟩
theorem rep_prop {C : Addr} {ns : List Str} {ds : List D} {P : Addr → Prop} (h : rep ms H (.ins C ns ds) x) (k : ∀ a, rep ms H (.ins C ns ds) (.ref a) → P a) : ∃ a dx fs, x = .ref a ∧ H a = some (.ins C dx fs) ∧ P a := by
  have h' := h
  simp only [rep] at h
  obtain ⟨p, dx, vs, e, _, hp, hl, hr⟩ := h
  subst e
  exact ⟨p, dx, _, rfl, hp, k p h'⟩
/-- t[j], j written -/
theorem rep_ixT {ds : List D} {i : Int} (j : Nat) {σ : L2.St} {Q : VK} (h : rep ms H (.tup ds) x) (hi : i = (j : Int)) (hd : ds[j]? = some d) (k : ∀ v, rep ms H d v → Q v H) : tC (V.int i) σ H fun y H2 => rIxT K x y H2 Q := by
  subst hi
  simp only [rep] at h
  obtain ⟨p, vs, e, _, hp, hr⟩ := h
  obtain ⟨v, hv, rv⟩ := repL_get hr hd
  exact ⟨p, vs, _, v, e, rfl, .inl (.inl hp), atI_nat hv, k v rv⟩
/-- xs[i] -/
theorem rep_ixL {α : Type} {e : α → D} {xs : List α} {i : Int} {Q : VK} (h : rep ms H (.lst (xs.map e)) x) (h0 : 0 ≤ i) (hi : i.toNat < xs.length) (k : ∀ v, rep ms H (e (xs[i.toNat]'hi)) v → Q v H) : rIxL K x (.int i) H Q := by
  simp only [rep] at h
  obtain ⟨p, vs, e', _, hp, hr⟩ := h
  obtain ⟨v, hv, rv⟩ := repL_get (d := e (xs[i.toNat]'hi)) hr (by rw [List.getElem?_map, List.getElem?_eq_getElem hi]; rfl)
  refine ⟨p, vs, i, v, e', rfl, .inl (.inl hp), at_of (j := i.toNat) (by omega) hv, k v rv⟩
theorem rep_lenL {α : Type} {e : α → D} {xs : List α} {P : Nat → Prop} (h : rep ms H (.lst (xs.map e)) x) (k : P xs.length) : ∃ y n, [x] = [y] ∧ LenV K y H n ∧ P n := by
  simp only [rep] at h
  obtain ⟨p, vs, e', _, hp, hr⟩ := h
  subst e'
  have hl := repL_len hr
  rw [List.length_map] at hl
  exact ⟨_, xs.length, rfl, .inl ⟨vs, .inl (.inl hp), hl⟩, k⟩
theorem rep_iter {ds : List D} {P : Addr → Prop} (h : rep ms H (.lst ds) x) (k : ∀ a xs, x = .ref a → a ∉ ms → H a = some (.lst xs) → repL ms H ds xs → P a) : ∃ a, x = .ref a ∧ (∃ xs, SqL K H a xs) ∧ P a := by
  simp only [rep] at h
  obtain ⟨p, vs, e, n, hp, hr⟩ := h
  exact ⟨p, e, ⟨vs, .inl (.inl hp)⟩, k p vs e n hp hr⟩
theorem rep_gtup {ds : List D} {n : Nat} {Q : L2.St → Hp → Prop} {t : TGs} {σ : L2.St} (h : rep ms H (.tup ds) x) (hn : ds.length = n) (k : ∀ vs, repL ms H ds vs → t vs σ H Q) : ∃ a xs, x = .ref a ∧ SqT K H a xs ∧ xs.length = n ∧ t xs σ H Q := by
  simp only [rep] at h
  obtain ⟨p, vs, e, _, hp, hr⟩ := h
  exact ⟨p, vs, e, .inl (.inl hp), by rw [← repL_len hr]; exact hn, k vs hr⟩
theorem rep_tup_mk {p : Addr} {ds : List D} {vs : List V} (w : Wd ms ps cs H0 H) (np : H p = none) (e : Ext H H') (hp : H' p = some (.tup vs)) (hr : repL ms H ds vs) : rep ms H' (.tup ds) (.ref p) := by
  simp only [rep]
  exact ⟨p, vs, rfl, fun z => w.tr p z np, hp, repL_ext e hr⟩
theorem rep_lst_mk {p : Addr} {ds : List D} {vs : List V} (w : Wd ms ps cs H0 H) (np : H p = none) (e : Ext H H') (hp : H' p = some (.lst vs)) (hr : repL ms H ds vs) : rep ms H' (.lst ds) (.ref p) := by
  simp only [rep]
  exact ⟨p, vs, rfl, fun z => w.tr p z np, hp, repL_ext e hr⟩
end

/-! ### comprehensions -/
section
variable {α β : Type} {K : PySem.W.Frag} {ms ps : List Addr} {cs : List (Addr × List V)} {H0 H1 : Hp} {g : TG} {tt : TT} {te : TE} {vl : List Nat} {σ : L2.St} {Qd : Hp → Prop}
/-- where a turn begins: the new list at L holds what is made so far -/
structure Trn (ms ps : List Addr) (cs : List (Addr × List V)) (H0 H1 : Hp) (L : Addr) (eb : β → D) (n : Nat) (ys : List β) (vs : List V) (H : Hp) : Prop where
  w : Wd (L :: ms) ps ((L, vs) :: cs) H0 H
  k : Keep (L :: ms) H1 H
  r : repL (L :: ms) H (ys.map eb) vs
  n : ys.length ≤ n
theorem Trn.add {L : Addr} {eb : β → D} {n : Nat} {ys : List β} {vs : List V} {H : Hp} {y : β} {u : V} (hc : ∀ c ∈ cs, c.1 ≠ L) (w : Wd (L :: ms) ps ((L, vs) :: cs) H0 H) (k : Keep (L :: ms) H1 H) (r : repL (L :: ms) H (ys.map eb) vs) (hn : ys.length ≤ n) (hr : rep (L :: ms) H (eb y) u) :
    Trn ms ps cs H0 H1 L eb (n + 1) (ys ++ [y]) (vs ++ [u]) (upd H L (.lst (vs ++ [u]))) := by
  refine ⟨w.put hc, keep_put List.mem_cons_self k, ?_, by rw [List.length_append]; exact Nat.add_le_add_right hn 1⟩
  rw [List.map_append]
  exact repL_put List.mem_cons_self (repL_app r (repL_one hr))
theorem new_ne {L : Addr} (w : Wd ms ps cs H0 H1) (nl : H1 L = none) : ∀ c ∈ cs, c.1 ≠ L := fun c h z => by
  have q := (w.cel c h).1
  rw [z, nl] at q
  cases q
theorem Trn.start {L : Addr} {eb : β → D} (w : Wd ms ps cs H0 H1) (nl : H1 L = none) : Trn ms ps cs H0 H1 L eb 0 [] [] (upd H1 L (.lst [])) :=
  ⟨w.cell nl, fun a o n h => by rw [upd_ne (ne_of_none h nl)]; exact h, repL_nil, Nat.le_refl _⟩
theorem Trn.done {L : Addr} {eb : β → D} {n : Nat} {ys : List β} {vs : List V} {H : Hp} (w : Wd ms ps cs H0 H1) (nl : H1 L = none) (t : Trn ms ps cs H0 H1 L eb n ys vs H) : Wd ms ps cs H0 H ∧ Keep ms H1 H ∧ rep ms H (.lst (ys.map eb)) (.ref L) := by
  refine ⟨t.w.froze w.pm fun c h => (w.cel c h).2.1, fun a o n h => t.k a o (fun z => ?_) h, ?_⟩
  · rcases List.mem_cons.mp z with z | z
    · rw [z, nl] at h
      cases h
    · exact n z
  · simp only [rep]
    exact ⟨L, vs, rfl, fun z => w.tr L z nl, (t.w.cel _ List.mem_cons_self).1, repL_weak t.r⟩

/-- [e for x in range(lo, hi)] -/
theorem lc_rangeC {lo hi : Int} {N : Nat} {L : Addr} {eb : β → D} {body : Int → (β → Prop) → Prop} {KM : List β → Prop} (hN : N = (hi - lo).toNat) (w : Wd ms ps cs H0 H1) (nl : H1 L = none) (hM : (rangeI lo hi).length < 100000 ∧ mapC body (rangeI lo hi) [] KM)
    (hs : ∀ (x : Int) (n : Nat) (ys : List β) (vs : List V) (k : β → Prop) (H : Hp), n < 100000 → Trn ms ps cs H0 H1 L eb n ys vs H → body x k → ∀ Nx : Hp → Prop, (∀ y vs' H', k y → Trn ms ps cs H0 H1 L eb (n + 1) (ys ++ [y]) vs' H' → Nx H') →
      g (.int x) (wipe σ vl) H fun σ2 H2 => wipe σ2 vl = wipe σ vl ∧ tt σ2 H2 fun b H3 => if b = true then te σ2 H3 fun y H4 => ∃ acc, H4 L = some (.lst acc) ∧ acc.length < sizeLine ∧ Nx (upd H4 L (.lst (acc ++ [y]))) else Nx H3)
    (hd : ∀ ys H, KM ys → Wd ms ps cs H0 H → Keep ms H1 H → rep ms H (.lst (ys.map eb)) (.ref L) → Qd H) :
    ∃ W : Nat → Nat → Hp → Prop, (∃ m, W 0 m (upd H1 L (.lst []))) ∧ ∀ i m H, W i m H →
      ((Itr lo N).stop i H ∧ Qd H) ∨ ((Itr lo N).go i H ∧ ∃ Nx : Hp → Prop, (∀ H', Nx H' → ∃ m', m' < m ∧ W (i + 1) m' H') ∧ ∀ x H', (Itr lo N).yld i H x H' → g x (wipe σ vl) H' fun σ2 H2 => wipe σ2 vl = wipe σ vl ∧ tt σ2 H2 fun b H3 =>
        if b = true then te σ2 H3 fun y H4 => ∃ acc, H4 L = some (.lst acc) ∧ acc.length < sizeLine ∧ Nx (upd H4 L (.lst (acc ++ [y]))) else Nx H3) := by
  obtain ⟨hn, hM⟩ := hM
  subst hN
  rw [rangeI_len] at hn
  refine ⟨fun i m H => m = (hi - lo).toNat - i ∧ i ≤ (hi - lo).toNat ∧ ∃ ys vs, Trn ms ps cs H0 H1 L eb i ys vs H ∧ mapC body ((rangeI lo hi).drop i) ys KM, ⟨_, rfl, Nat.zero_le _, [], [], Trn.start w nl, hM⟩, ?_⟩
  rintro i m H ⟨rfl, hi', ys, vs, T, q⟩
  by_cases hlt : i < (hi - lo).toNat
  · refine .inr ⟨hlt, fun H' => i + 1 ≤ (hi - lo).toNat ∧ ∃ ys vs, Trn ms ps cs H0 H1 L eb (i + 1) ys vs H' ∧ mapC body ((rangeI lo hi).drop (i + 1)) ys KM, fun H' p' => ⟨_, by omega, rfl, p'⟩, fun x H' y => ?_⟩
    obtain ⟨e, y⟩ := y
    subst e y
    rw [drop_cons' (rangeI_get hlt)] at q
    exact hs _ i ys vs _ H' (by omega) T q _ fun y vs' H' k T' => ⟨hlt, _, _, T', k⟩
  · have e : i = (hi - lo).toNat := by omega
    refine .inl ⟨by rw [e]; exact Nat.le_refl _, ?_⟩
    have q' : KM ys := by
      rw [List.drop_of_length_le (by rw [rangeI_len]; omega)] at q
      exact q
    obtain ⟨w', k', r'⟩ := T.done w nl
    exact hd ys H q' w' k' r'
/-- [e for x in xs] -/
theorem lc_listC {items : List α} {a : Addr} {xs : List V} {L : Addr} {e : α → D} {eb : β → D} {body : α → (β → Prop) → Prop} {KM : List β → Prop} (w : Wd ms ps cs H0 H1) (an : a ∉ ms) (ha : H1 a = some (.lst xs)) (hx : repL ms H1 (items.map e) xs) (nl : H1 L = none) (hM : items.length < 100000 ∧ mapC body items [] KM)
    (hs : ∀ (x : α) (u : V) (n : Nat) (ys : List β) (vs : List V) (k : β → Prop) (H : Hp), n < 100000 → Trn ms ps cs H0 H1 L eb n ys vs H → rep (L :: ms) H (e x) u → body x k → ∀ Nx : Hp → Prop, (∀ y vs' H', k y → Trn ms ps cs H0 H1 L eb (n + 1) (ys ++ [y]) vs' H' → Nx H') →
      g u (wipe σ vl) H fun σ2 H2 => wipe σ2 vl = wipe σ vl ∧ tt σ2 H2 fun b H3 => if b = true then te σ2 H3 fun y H4 => ∃ acc, H4 L = some (.lst acc) ∧ acc.length < sizeLine ∧ Nx (upd H4 L (.lst (acc ++ [y]))) else Nx H3)
    (hd : ∀ ys H, KM ys → Wd ms ps cs H0 H → Keep ms H1 H → rep ms H (.lst (ys.map eb)) (.ref L) → Qd H) :
    ∃ W : Nat → Nat → Hp → Prop, (∃ m, W 0 m (upd H1 L (.lst []))) ∧ ∀ i m H, W i m H →
      ((Itl K a).stop i H ∧ Qd H) ∨ ((Itl K a).go i H ∧ ∃ Nx : Hp → Prop, (∀ H', Nx H' → ∃ m', m' < m ∧ W (i + 1) m' H') ∧ ∀ x H', (Itl K a).yld i H x H' → g x (wipe σ vl) H' fun σ2 H2 => wipe σ2 vl = wipe σ vl ∧ tt σ2 H2 fun b H3 =>
        if b = true then te σ2 H3 fun y H4 => ∃ acc, H4 L = some (.lst acc) ∧ acc.length < sizeLine ∧ Nx (upd H4 L (.lst (acc ++ [y]))) else Nx H3) := by
  obtain ⟨hn, hM⟩ := hM
  have hl : items.length = xs.length := by
    have := repL_len hx
    rwa [List.length_map] at this
  have aL : a ≠ L := ne_of_none ha nl
  have hx1 : repL (L :: ms) (upd H1 L (.lst [])) (items.map e) xs := repL_map (fun p o n hp => ⟨fun z => by
    rcases List.mem_cons.mp z with z | z
    · exact ne_of_none hp nl z
    · exact n z, by rw [upd_ne (ne_of_none hp nl)]; exact hp⟩) _ _ hx
  have aM : a ∉ L :: ms := fun z => by
    rcases List.mem_cons.mp z with z | z
    · exact aL z
    · exact an z
  refine ⟨fun i m H => m = xs.length - i ∧ i ≤ xs.length ∧ ∃ ys vs, Trn ms ps cs H0 H1 L eb i ys vs H ∧ Keep (L :: ms) (upd H1 L (.lst [])) H ∧ mapC body (items.drop i) ys KM, ⟨_, rfl, Nat.zero_le _, [], [], Trn.start w nl, Keep.refl, hM⟩, ?_⟩
  rintro i m H ⟨rfl, hi', ys, vs, T, kp, q⟩
  have hA : H a = some (.lst xs) := kp a _ aM (by rw [upd_ne aL]; exact ha)
  by_cases hlt : i < xs.length
  · refine .inr ⟨⟨xs, xs[i], .inl (.inl hA), by simp [hlt]⟩, fun H' => i + 1 ≤ xs.length ∧ ∃ ys vs, Trn ms ps cs H0 H1 L eb (i + 1) ys vs H' ∧ Keep (L :: ms) (upd H1 L (.lst [])) H' ∧ mapC body (items.drop (i + 1)) ys KM, fun H' p' => ⟨_, by omega, rfl, p'⟩, fun x H' y => ?_⟩
    obtain ⟨e1, y⟩ := y
    subst e1
    have hxi := y xs (.inl (.inl hA))
    have hit : items[i]? = some (items[i]'(by omega)) := List.getElem?_eq_getElem (by omega)
    rw [drop_cons' hit] at q
    obtain ⟨v, hv, rv⟩ := repL_get (repL_keep kp hx1) (j := i) (d := e (items[i]'(by omega))) (by rw [List.getElem?_map, hit]; rfl)
    rw [hxi] at hv
    have ev : x = v := Option.some.inj hv
    subst ev
    refine hs _ x i ys vs _ H' (by omega) T rv q _ fun y vs' H'' k T' => ⟨hlt, _, _, T', fun b o n hb => ?_, k⟩
    by_cases e3 : b = L
    · exact absurd (by rw [e3]; exact List.mem_cons_self) n
    · rw [upd_ne e3] at hb
      exact T'.k b o n hb
  · have e1 : i = xs.length := by omega
    refine .inl ⟨⟨xs, .inl (.inl hA), by omega⟩, ?_⟩
    have q' : KM ys := by
      rw [List.drop_of_length_le (by omega)] at q
      exact q
    obtain ⟨w', k', r'⟩ := T.done w nl
    exact hd ys H q' w' k' r'
end

/-! ### comprehensions with a test -/
section
variable {α β : Type} {K : PySem.W.Frag} {ms ps : List Addr} {cs : List (Addr × List V)} {H0 H1 : Hp} {g : TG} {tt : TT} {te : TE} {vl : List Nat} {σ : L2.St} {Qd : Hp → Prop}
theorem Trn.skip {L : Addr} {eb : β → D} {n : Nat} {ys : List β} {vs : List V} {H : Hp} (t : Trn ms ps cs H0 H1 L eb n ys vs H) : Trn ms ps cs H0 H1 L eb (n + 1) ys vs H := ⟨t.w, t.k, t.r, Nat.le_succ_of_le t.n⟩
theorem lf_listC {items : List α} {a : Addr} {xs : List V} {L : Addr} {e : α → D} {eb : β → D} {body : α → (Option β → Prop) → Prop} {KM : List β → Prop} (w : Wd ms ps cs H0 H1) (an : a ∉ ms) (ha : H1 a = some (.lst xs)) (hx : repL ms H1 (items.map e) xs) (nl : H1 L = none) (hM : items.length < 100000 ∧ filC body items [] KM)
    (hs : ∀ (x : α) (u : V) (n : Nat) (ys : List β) (vs : List V) (k : Option β → Prop) (H : Hp), n < 100000 → Trn ms ps cs H0 H1 L eb n ys vs H → rep (L :: ms) H (e x) u → body x k → ∀ Nx : Hp → Prop,
        (∀ y vs' H', k (some y) → Trn ms ps cs H0 H1 L eb (n + 1) (ys ++ [y]) vs' H' → Nx H') → (∀ vs' H', k none → Trn ms ps cs H0 H1 L eb (n + 1) ys vs' H' → Nx H') →
      g u (wipe σ vl) H fun σ2 H2 => wipe σ2 vl = wipe σ vl ∧ tt σ2 H2 fun b H3 => if b = true then te σ2 H3 fun y H4 => ∃ acc, H4 L = some (.lst acc) ∧ acc.length < sizeLine ∧ Nx (upd H4 L (.lst (acc ++ [y]))) else Nx H3)
    (hd : ∀ ys H, KM ys → Wd ms ps cs H0 H → Keep ms H1 H → rep ms H (.lst (ys.map eb)) (.ref L) → Qd H) :
    ∃ W : Nat → Nat → Hp → Prop, (∃ m, W 0 m (upd H1 L (.lst []))) ∧ ∀ i m H, W i m H →
      ((Itl K a).stop i H ∧ Qd H) ∨ ((Itl K a).go i H ∧ ∃ Nx : Hp → Prop, (∀ H', Nx H' → ∃ m', m' < m ∧ W (i + 1) m' H') ∧ ∀ x H', (Itl K a).yld i H x H' → g x (wipe σ vl) H' fun σ2 H2 => wipe σ2 vl = wipe σ vl ∧ tt σ2 H2 fun b H3 =>
        if b = true then te σ2 H3 fun y H4 => ∃ acc, H4 L = some (.lst acc) ∧ acc.length < sizeLine ∧ Nx (upd H4 L (.lst (acc ++ [y]))) else Nx H3) := by
  obtain ⟨hn, hM⟩ := hM
  have hl : items.length = xs.length := by
    have := repL_len hx
    rwa [List.length_map] at this
  have aL : a ≠ L := ne_of_none ha nl
  have hx1 : repL (L :: ms) (upd H1 L (.lst [])) (items.map e) xs := repL_map (fun p o n hp => ⟨fun z => by
    rcases List.mem_cons.mp z with z | z
    · exact ne_of_none hp nl z
    · exact n z, by rw [upd_ne (ne_of_none hp nl)]; exact hp⟩) _ _ hx
  have aM : a ∉ L :: ms := fun z => by
    rcases List.mem_cons.mp z with z | z
    · exact aL z
    · exact an z
  refine ⟨fun i m H => m = xs.length - i ∧ i ≤ xs.length ∧ ∃ ys vs, Trn ms ps cs H0 H1 L eb i ys vs H ∧ Keep (L :: ms) (upd H1 L (.lst [])) H ∧ filC body (items.drop i) ys KM, ⟨_, rfl, Nat.zero_le _, [], [], Trn.start w nl, Keep.refl, hM⟩, ?_⟩
  rintro i m H ⟨rfl, hi', ys, vs, T, kp, q⟩
  have hA : H a = some (.lst xs) := kp a _ aM (by rw [upd_ne aL]; exact ha)
  by_cases hlt : i < xs.length
  · refine .inr ⟨⟨xs, xs[i], .inl (.inl hA), by simp [hlt]⟩, fun H' => i + 1 ≤ xs.length ∧ ∃ ys vs, Trn ms ps cs H0 H1 L eb (i + 1) ys vs H' ∧ Keep (L :: ms) (upd H1 L (.lst [])) H' ∧ filC body (items.drop (i + 1)) ys KM, fun H' p' => ⟨_, by omega, rfl, p'⟩, fun x H' y => ?_⟩
    obtain ⟨e1, y⟩ := y
    subst e1
    have hxi := y xs (.inl (.inl hA))
    have hit : items[i]? = some (items[i]'(by omega)) := List.getElem?_eq_getElem (by omega)
    rw [drop_cons' hit] at q
    obtain ⟨v, hv, rv⟩ := repL_get (repL_keep kp hx1) (j := i) (d := e (items[i]'(by omega))) (by rw [List.getElem?_map, hit]; rfl)
    rw [hxi] at hv
    have ev : x = v := Option.some.inj hv
    subst ev
    have kk : ∀ {ys'} {vs'} {H''}, Trn ms ps cs H0 H1 L eb (i + 1) ys' vs' H'' → Keep (L :: ms) (upd H1 L (.lst [])) H'' := fun {ys' vs' H''} T' b o n hb => by
      by_cases e3 : b = L
      · exact absurd (by rw [e3]; exact List.mem_cons_self) n
      · rw [upd_ne e3] at hb
        exact T'.k b o n hb
    exact hs _ x i ys vs _ H' (by omega) T rv q _ (fun y vs' H'' k T' => ⟨hlt, _, _, T', kk T', k⟩) (fun vs' H'' k T' => ⟨hlt, _, _, T', kk T', k⟩)
  · have e1 : i = xs.length := by omega
    refine .inl ⟨⟨xs, .inl (.inl hA), by omega⟩, ?_⟩
    have q' : KM ys := by
      rw [List.drop_of_length_le (by omega)] at q
      exact q
    obtain ⟨w', k', r'⟩ := T.done w nl
    exact hd ys H q' w' k' r'
/-- an element's end -/
theorem lc_end {L : Addr} {eb : β → D} {n : Nat} {ys : List β} {vs : List V} {H : Hp} {y : β} {u : V} {Nx : Hp → Prop} (hc : ∀ c ∈ cs, c.1 ≠ L) (hn : n < 100000) (w : Wd (L :: ms) ps ((L, vs) :: cs) H0 H) (k : Keep (L :: ms) H1 H) (r : repL (L :: ms) H (ys.map eb) vs) (hy : ys.length ≤ n) (hr : rep (L :: ms) H (eb y) u)
    (h : ∀ vs' H', Trn ms ps cs H0 H1 L eb (n + 1) (ys ++ [y]) vs' H' → Nx H') : ∃ acc, H L = some (.lst acc) ∧ acc.length < sizeLine ∧ Nx (upd H L (.lst (acc ++ [u]))) := by
  refine ⟨vs, (w.cel _ List.mem_cons_self).1, ?_, h _ _ (Trn.add hc w k r hy hr)⟩
  have q := repL_len r
  rw [List.length_map] at q
  have e : sizeLine = 16777216 := sizeLine_eq
  omega
end

/-! ### for -/
section
variable {α S : Type} {K : PySem.W.Frag} {ms ps : List Addr} {H0 H1 : Hp} {g : TG} {tb : TS} {D' : Ends} {σ : L2.St} {cs : S → List (Addr × List V)}
/-- for x in range(lo, hi) -/
theorem for_rangeC {lo hi : Int} {N : Nat} {body : Int → S → (S → Prop) → Prop} {KM : S → Prop} (SI : S → L2.St → Hp → Prop) (s0 : S) (hN : N = (hi - lo).toNat) (w : Wd ms ps (cs s0) H0 H1) (hM : forC body (rangeI lo hi) s0 KM) (h0 : SI s0 σ H1)
    (hs : ∀ (x : Int) (s : S) (k : S → Prop) (σ : L2.St) (H : Hp), Wd ms ps (cs s) H0 H → Keep ms H1 H → SI s σ H → body x s k → ∀ Nx : L2.St → Hp → Prop, (∀ s' σ' H', k s' → Wd ms ps (cs s') H0 H' → Keep ms H1 H' → SI s' σ' H' → Nx σ' H') →
      g (.int x) σ H fun σ2 H2 => tb { D' with nx := Nx, ct := Nx, bk := D'.nx } σ2 H2)
    (hd : ∀ s σ H, KM s → Wd ms ps (cs s) H0 H → Keep ms H1 H → SI s σ H → D'.nx σ H) :
    ∃ W : Nat → Nat → L2.St → Hp → Prop, (∃ m, W 0 m σ H1) ∧ ∀ i m σ H, W i m σ H →
      ((Itr lo N).stop i H ∧ D'.nx σ H) ∨ ((Itr lo N).go i H ∧ ∃ Nx : L2.St → Hp → Prop, (∀ σ' H', Nx σ' H' → ∃ m', m' < m ∧ W (i + 1) m' σ' H') ∧ ∀ x H', (Itr lo N).yld i H x H' → g x σ H' fun σ2 H2 => tb { D' with nx := Nx, ct := Nx, bk := D'.nx } σ2 H2) := by
  subst hN
  refine for_range (lo := lo) (n := (hi - lo).toNat) (D := D') (fun i σ H => ∃ s, Wd ms ps (cs s) H0 H ∧ Keep ms H1 H ∧ SI s σ H ∧ forC body ((rangeI lo hi).drop i) s KM) ⟨s0, w, Keep.refl, h0, hM⟩ (fun i σ H hi' ⟨s, w', k', si, q⟩ => ?_) (fun σ H ⟨s, w', k', si, q⟩ => ?_)
  · rw [drop_cons' (rangeI_get hi')] at q
    exact hs _ s _ σ H w' k' si q _ fun s' σ' H' hk w2 k2 si2 => ⟨s', w2, k2, si2, hk⟩
  · rw [List.drop_of_length_le (by rw [rangeI_len]; exact Nat.le_refl _)] at q
    exact hd s σ H q w' k' si
/-- for x in xs -/
theorem for_listC {items : List α} {e : α → D} {a : Addr} {xs : List V} {body : α → S → (S → Prop) → Prop} {KM : S → Prop} (SI : S → L2.St → Hp → Prop) (s0 : S) (w : Wd ms ps (cs s0) H0 H1) (an : a ∉ ms) (ha : H1 a = some (.lst xs)) (hx : repL ms H1 (items.map e) xs) (hM : forC body items s0 KM) (h0 : SI s0 σ H1)
    (hs : ∀ (x : α) (u : V) (s : S) (k : S → Prop) (σ : L2.St) (H : Hp), Wd ms ps (cs s) H0 H → Keep ms H1 H → SI s σ H → rep ms H (e x) u → body x s k → ∀ Nx : L2.St → Hp → Prop, (∀ s' σ' H', k s' → Wd ms ps (cs s') H0 H' → Keep ms H1 H' → SI s' σ' H' → Nx σ' H') →
      g u σ H fun σ2 H2 => tb { D' with nx := Nx, ct := Nx, bk := D'.nx } σ2 H2)
    (hd : ∀ s σ H, KM s → Wd ms ps (cs s) H0 H → Keep ms H1 H → SI s σ H → D'.nx σ H) :
    ∃ W : Nat → Nat → L2.St → Hp → Prop, (∃ m, W 0 m σ H1) ∧ ∀ i m σ H, W i m σ H →
      ((Itl K a).stop i H ∧ D'.nx σ H) ∨ ((Itl K a).go i H ∧ ∃ Nx : L2.St → Hp → Prop, (∀ σ' H', Nx σ' H' → ∃ m', m' < m ∧ W (i + 1) m' σ' H') ∧ ∀ x H', (Itl K a).yld i H x H' → g x σ H' fun σ2 H2 => tb { D' with nx := Nx, ct := Nx, bk := D'.nx } σ2 H2) := by
  have hl : items.length = xs.length := by
    have := repL_len hx
    rwa [List.length_map] at this
  refine for_list (xs := xs) (D := D') (fun i σ H => ∃ s, Wd ms ps (cs s) H0 H ∧ Keep ms H1 H ∧ SI s σ H ∧ forC body (items.drop i) s KM) ⟨s0, w, Keep.refl, h0, hM⟩ (fun i σ H _ ⟨s, w', k', _⟩ => .inl (.inl (k' a _ an ha))) (fun i x σ H hx' ⟨s, w', k', si, q⟩ => ?_) (fun σ H ⟨s, w', k', si, q⟩ => ?_)
  · have hi : i < xs.length := (List.getElem?_eq_some_iff.mp hx').1
    have hit : items[i]? = some (items[i]'(by omega)) := List.getElem?_eq_getElem (by omega)
    rw [drop_cons' hit] at q
    obtain ⟨v, hv, rv⟩ := repL_get (repL_keep k' hx) (j := i) (d := e (items[i]'(by omega))) (by rw [List.getElem?_map, hit]; rfl)
    rw [hx'] at hv
    have ev : x = v := Option.some.inj hv
    subst ev
    exact hs _ x s _ σ H w' k' si rv q _ fun s' σ' H' hk w2 k2 si2 => ⟨s', w2, k2, si2, hk⟩
  · rw [List.drop_of_length_le (by omega)] at q
    exact hd s σ H q w' k' si
/-- while -/
theorem while_C {c : TT} {fuel : Nat} {body : S → (S → Prop) → (S → Prop) → Prop} {KM : S → Prop} (SI : S → L2.St → Hp → Prop) (s0 : S) (w : Wd ms ps (cs s0) H0 H1) (hM : whileC body fuel s0 KM) (h0 : SI s0 σ H1)
    (hs : ∀ (s : S) (k1 k2 : S → Prop) (σ : L2.St) (H : Hp), Wd ms ps (cs s) H0 H → Keep ms H1 H → SI s σ H → body s k1 k2 → ∀ (Nx : L2.St → Hp → Prop) (Ex : L2.St → Hp → Prop), (∀ s' σ' H', k1 s' → Wd ms ps (cs s') H0 H' → Keep ms H1 H' → SI s' σ' H' → Nx σ' H') → (∀ s' σ' H', k2 s' → Wd ms ps (cs s') H0 H' → Keep ms H1 H' → SI s' σ' H' → Ex σ' H') →
      c σ H fun b H1 => if b = true then tb { D' with nx := Nx, ct := Nx, bk := D'.nx } σ H1 else Ex σ H1)
    (hd : ∀ s σ H, KM s → Wd ms ps (cs s) H0 H → Keep ms H1 H → SI s σ H → D'.nx σ H)
    (mono : ∀ σ H Q Q', (∀ b H1, Q b H1 → Q' b H1) → c σ H Q → c σ H Q') : tWhile c tb D' σ H1 := by
  refine ⟨fun m σ H => ∃ s, Wd ms ps (cs s) H0 H ∧ Keep ms H1 H ∧ SI s σ H ∧ whileC body m s KM, ⟨fuel, s0, w, Keep.refl, h0, hM⟩, ?_⟩
  rintro m σ H ⟨s, w', k', si, q⟩
  cases m with
  | zero => exact False.elim q
  | succ m =>
    refine mono _ _ _ _ (fun b H2 hb => ?_) (hs s _ _ σ H w' k' si q (fun σ' H' => ∃ s, Wd ms ps (cs s) H0 H' ∧ Keep ms H1 H' ∧ SI s σ' H' ∧ whileC body m s KM) D'.nx (fun s' σ' H' hk w2 k2 si2 => ⟨s', w2, k2, si2, hk⟩) fun s' σ' H' hk w2 k2 si2 => hd s' σ' H' hk w2 k2 si2)
    cases b with
    | true => exact ⟨_, fun σ' H' p => ⟨m, Nat.lt_succ_self m, p⟩, hb⟩
    | false => exact hb
end

section
variable {K : PySem.W.Frag} {ms : List Addr} {H : Hp} {d : D} {u x y : V}
theorem repL_uncons {ds : List D} {vs : List V} (h : repL ms H (d :: ds) vs) : ∃ u us, vs = u :: us ∧ rep ms H d u ∧ repL ms H ds us := by
  simp only [repL] at h
  exact h
theorem repL_empty {vs : List V} (h : repL ms H [] vs) : vs = [] := by
  simp only [repL] at h
  exact h
theorem repL_ints {ns : List Int} {vs : List V} (h : repL ms H (ns.map fun n => D.v (.int n)) vs) : vs = ns.map V.int := by
  have e : (ns.map fun n => D.v (.int n)) = (ns.map V.int).map D.v := by rw [List.map_map]; rfl
  rw [e] at h
  exact repL_flat.mp h
theorem repL_strs {ns : List Str} {vs : List V} (h : repL ms H (ns.map fun n => D.v (.str n)) vs) : vs = ns.map V.str := by
  have e : (ns.map fun n => D.v (.str n)) = (ns.map V.str).map D.v := by rw [List.map_map]; rfl
  rw [e] at h
  exact repL_flat.mp h
theorem repL_bls {ns : List Bool} {vs : List V} (h : repL ms H (ns.map fun n => D.v (.bl n)) vs) : vs = ns.map V.bl := by
  have e : (ns.map fun n => D.v (.bl n)) = (ns.map V.bl).map D.v := by rw [List.map_map]; rfl
  rw [e] at h
  exact repL_flat.mp h
theorem rep_join {a : Str} {ys : List Str} {P : Str → List Str → Prop} (h : rep ms H (.lst (ys.map fun n => D.v (.str n))) x) (hz : (ys.map (·.length)).sum + ys.length * a.length ≤ 16777216) (k : P a ys) :
    ∃ a' p, ∃ ys : List Str, V.str a = .str a' ∧ [x] = [.ref p] ∧ (SqL K H p (ys.map V.str) ∨ SqT K H p (ys.map V.str)) ∧ (ys.map (·.length)).sum + ys.length * a'.length ≤ 16777216 ∧ P a' ys := by
  simp only [rep] at h
  obtain ⟨p, vs, e, _, hp, hr⟩ := h
  have ev := repL_strs hr
  subst ev e
  exact ⟨a, p, ys, rfl, rfl, .inl (.inl (.inl hp)), hz, k⟩
theorem rep_all {ys : List Bool} {P : List Bool → Prop} (h : rep ms H (.lst (ys.map fun n => D.v (.bl n))) x) (k : P ys) : ∃ (a : Addr) (bs : List Bool), [x] = [V.ref a] ∧ SqL K H a (bs.map V.bl) ∧ P bs := by
  simp only [rep] at h
  obtain ⟨p, vs, e, _, hp, hr⟩ := h
  have ev := repL_bls hr
  subst ev e
  exact ⟨p, ys, rfl, .inl (.inl hp), k⟩
/-! data as the library data, for == -/
mutual
def pyOf : D → PyData
  | .v .non => .none
  | .v (.bl b) => .bool b
  | .v (.int i) => .int i
  | .v (.str z) => .str z
  | .v _ => .none
  | .lst ds => .list (pyL ds)
  | .tup ds => .tuple (pyL ds)
  | .ins _ _ _ => .none
  | .dct _ _ => .none
  | .dcT _ _ => .none
def pyL : List D → List PyData
  | [] => []
  | d :: ds => pyOf d :: pyL ds
def plainD : D → Bool
  | .v .non => true
  | .v (.bl _) => true
  | .v (.int _) => true
  | .v (.str _) => true
  | .v _ => false
  | .lst ds => plainL ds
  | .tup ds => plainL ds
  | .ins _ _ _ => false
  | .dct _ _ => false
  | .dcT _ _ => false
def plainL : List D → Bool
  | [] => true
  | d :: ds => plainD d && plainL ds
end
mutual
theorem dp_of : ∀ (d : D) (u : V), plainD d = true → rep ms H d u → Dp K H u (pyOf d)
  | .v x, u, p, h => by
    have e := of_v h
    subst e
    cases u <;> simp only [pyOf, plainD] at p ⊢ <;> first | exact .non | exact .bl _ | exact .int _ | exact .str _ | cases p
  | .lst ds, u, p, h => by
    simp only [rep] at h
    obtain ⟨a, vs, e, _, hp, hr⟩ := h
    subst e
    simp only [pyOf, plainD] at p ⊢
    exact .lst (.inl (.inl hp)) (dpL_of ds vs p hr)
  | .tup ds, u, p, h => by
    simp only [rep] at h
    obtain ⟨a, vs, e, _, hp, hr⟩ := h
    subst e
    simp only [pyOf, plainD] at p ⊢
    exact .tup (.inl (.inl hp)) (dpL_of ds vs p hr)
  | .ins _ _ _, u, p, h => by
    simp only [plainD] at p
    cases p
  | .dct _ _, u, p, h => by
    simp only [plainD] at p
    cases p
  | .dcT _ _, u, p, h => by
    simp only [plainD] at p
    cases p
theorem dpL_of : ∀ (ds : List D) (vs : List V), plainL ds = true → repL ms H ds vs → DpAll K H vs (pyL ds)
  | [], vs, p, h => by
    have e := repL_empty h
    subst e
    simp only [pyL]
    exact .nil
  | d :: ds, vs, p, h => by
    obtain ⟨u, us, e, h1, h2⟩ := repL_uncons h
    subst e
    simp only [plainL, Bool.and_eq_true] at p
    simp only [pyL]
    exact .cons (dp_of d u p.1 h1) (dpL_of ds us p.2 h2)
end
theorem rep_eqD {d e : D} {Q : VK} (h1 : rep ms H d x) (h2 : rep ms H e y) (p1 : plainD d = true) (p2 : plainD e = true) (s1 : SeqAt.shaped (pyOf d) = true) (s2 : SeqAt.shaped (pyOf e) = true) (k : Q (.bl (PyData.eqv (pyOf d) (pyOf e))) H) : rEqD K x y H Q :=
  ⟨_, _, dp_of d x p1 h1, dp_of e y p2 h2, s1, s2, k⟩
theorem rep_neD {d e : D} {Q : VK} (h1 : rep ms H d x) (h2 : rep ms H e y) (p1 : plainD d = true) (p2 : plainD e = true) (s1 : SeqAt.shaped (pyOf d) = true) (s2 : SeqAt.shaped (pyOf e) = true) (k : Q (.bl (!PyData.eqv (pyOf d) (pyOf e))) H) : rNeD K x y H Q :=
  ⟨_, _, dp_of d x p1 h1, dp_of e y p2 h2, s1, s2, k⟩
end

section
variable {ms : List Addr} {H H' H1 : Hp} {d : D} {u : V} {l : Addr}
theorem Keep.trans (a : Keep ms H1 H) (b : Keep ms H H') : Keep ms H1 H' := fun x o n h => b x o n (a x o n h)
theorem Keep.new (k : Keep ms H1 H) : Keep (l :: ms) H1 H := fun x o n h => k x o (fun z => n (List.mem_cons_of_mem _ z)) h
theorem rep_new (nl : H l = none) (h : rep ms H d u) : rep (l :: ms) H d u := rep_map (fun p o n hp => ⟨fun z => by
  rcases List.mem_cons.mp z with z | z
  · exact ne_of_none hp nl z
  · exact n z, hp⟩) d u h
theorem repL_new {ds : List D} {us : List V} (nl : H l = none) (h : repL ms H ds us) : repL (l :: ms) H ds us := repL_map (fun p o n hp => ⟨fun z => by
  rcases List.mem_cons.mp z with z | z
  · exact ne_of_none hp nl z
  · exact n z, hp⟩) ds us h
end

/-! ### a method called by keywords alone -/
def tMethK (C : Addr) (m : Str) (n : Nat) (gV : List V → List V → List V) (sp : Sp) (E : XK) (ta : TE) (tk : TA) : TE := fun σ H Q => ta σ H fun x H1 => ∃ a dx fs, x = .ref a ∧ H1 a = some (.ins C dx fs) ∧ fs.lookup m = none ∧
  tk σ H1 fun zs H2 => zs.length = n ∧ sp (gV [x] zs) H2 Q E
section
variable {X : Cx} {CX : CXT} {k : Nat} {f C : Addr} {fd : FuncData} {ps ks : List Str} {sp : Sp} {E : XK} {m : Str} {apos pos : Pos} {o : Expr} {kws : List Keyword} {ta : TE} {tk : TA} {g : List Value → List Value → List Value} {gV : List V → List V → List V}
theorem pe_methK0 {pl : Sem Bool} (he : PE X o ta) (c : Cls X.K C) (hm : Meth X.K C m f) (F : FnOk X.prog X.w X.K X.mg X.base CX k f fd ps sp) (hr : Room k X.A) (hb : KBn X.K fd ps 1 ks g gV) (hx : Passes CX X E) (hkw : PK X kws tk)
    (hall : (backToKw pos (keywordEach kws X.env)).all (·.1.isSome) = true := by rfl) (hks : (backToKw pos (keywordEach kws X.env)).filterMap (·.1) = ks := by rfl)
    (hpl : ((backTo pos (starEach [] X.env)).any (·.1) || (backToKw pos (keywordEach kws X.env)).any (·.1.isNone)) = false := by rfl)
    (ht : eval (.Call (.Attribute o m apos) [] kws pos) X.env = (do
      let ov ← eval o X.env
      standAt apos.atName
      let (f, first) ← holding [ov] (getMethod ov m pl)
      callWith pos f first (backTo pos (starEach [] X.env)) (backToKw pos (keywordEach kws X.env))) := by rfl) :
    PE X (.Call (.Attribute o m apos) [] kws pos) (tMethK C m ks.length gV sp E ta tk) := by
  refine ⟨fun pins s σ H Q I h => ?_⟩
  refine PySem.W.methodCall_KW (pl := pl) (thn (he.run pins s σ H _ I h) fun u s1 ⟨x, H1, I1, rx, a, dx, fs, ex, ea, l, q⟩ => ?_) ht
  subst ex
  obtain rfl : u = Value.ref a := rx
  refine getmeth_ok I1 ea c hm l ?_
  refine PySem.W.callWith_KW0 (first := [.ref a]) (h₀ := X.base) I.ok.mod.kin hm.kp hall ?_ hpl
  refine thn (hkw.run pos pins s1 σ H1 _ I1 q) fun ws s2 ⟨zs, H2, I2, rz, l2, q2⟩ => ⟨I2.kIn, ?_⟩
  rw [hks]
  exact run_fnN (us := [.ref a]) (vs := [.ref a]) F hr hb hx I2 (.cons rfl .nil) rz rfl l2 q2
end
end Rx
namespace Rx
open PySem PySem.Spec PyProof.Rows L2
theorem vals_getD : ∀ {zs : List V} {ws : List Value}, Vals zs ws → ∀ j : Nat, RelV (zs.getD j .non) (ws.getD j .none)
  | _, _, .nil, _ => rfl
  | _, _, .cons r _, 0 => r
  | _, _, .cons _ t, j + 1 => vals_getD t j
theorem tyes_of {σ : L2.St} {H : Hp} {A B : Hp → Prop} (h : A H) : tYes σ H fun b H3 => if b = true then A H3 else B H3 := by
  show (if true = true then A H else B H)
  rw [if_pos rfl]
  exact h
theorem Ret.keep {H H' : Hp} (e : Ret [] H H') {a : Addr} {o : HO} (h : H a = some o) : H' a = some o := e.kp a o (by simp) h
end Rx
namespace Rx
open PySem PySem.Spec PyProof.Rows L2
section
variable {X : Cx}
def rMulS : R2 := fun x y H Q => ∃ (a : Str) (k : Int), x = .str a ∧ y = .int k ∧ MulOk a k ∧ Q (.str (Txt.mul a k)) H
theorem op_mulS : OpR X (binaryOp .Mult) rMulS := by
  intro pins s σ H x y v u Q I rx ry h
  obtain ⟨a, k, rfl, rfl, ok, q⟩ := h
  obtain ⟨t, rfl⟩ := rx
  obtain ⟨t', rfl⟩ := ry
  exact SB.mul ok fun t' tk => ⟨.str (Txt.mul a k), H, I.tok _, ⟨_, rfl⟩, q⟩
end

/-! own == -/
def rOwnEq (C : Addr) (sp : Sp) (E : XK) : R2 := fun x y H Q => ∃ a b dx dy fs gs, x = .ref a ∧ y = .ref b ∧ H a = some (.ins C dx fs) ∧ H b = some (.ins C dy gs) ∧ sp [x, y] H (fun v H' => ∃ r : Bool, v = .bl r ∧ Q v H') E
structure OwnEq (K : PySem.W.Frag) (C f : Addr) : Prop where
  hs : PySem.W.findIn K (.ref C) "__eq__" = some (some (.ref f))
  hf : PySem.W.isFn K (.ref f) = true
theorem op_eqOwn {X : Cx} {n : Nat} {CX : CXT} {C f : Addr} {fd : FuncData} {ps : List Str} {sp : Sp} {E : XK} (F : FnOk X.prog X.w X.K X.mg X.base CX n f fd ps sp) (hr : Room n X.A)
    (o : OwnEq X.K C f) (hb : Binds X.K fd ps []) (hx : Passes CX X E) : OpR X (compareOp .Eq) (rOwnEq C sp E) := by
  intro pins s σ H x y v u Q I rx ry d
  show wpAny (model X.prog X.w) X.A (richCompare .Eq v u) (EP X pins σ Q) X.xe s
  obtain ⟨a, b, dx, dy, fs, gs, rfl, rfl, ha, hb', hsp⟩ := d
  cases rx
  cases ry
  obtain ⟨mA, J, _⟩ := ins_get I.hok ha
  obtain ⟨mB, J', _⟩ := ins_get I.hok hb'
  obtain ⟨od, J, _⟩ := J.look
  obtain ⟨od', J', _⟩ := J'.look
  obtain ⟨m, hF⟩ := I.fr
  refine PySem.W.cmp_K (op := .Eq) (tb := .ref C) hr.units0 hF I.ok.mod.kin J J'.type (by simp [PySem.W.notFirst]) o.hs o.hf ?_
  have hl := F.len _ _ _ _ hsp
  have r2 : Vals [V.ref a, V.ref b] [Value.ref a, Value.ref b] := .cons rfl (.cons rfl .nil)
  refine wpAny_call (codeAny_mono (F.run X.A X.stack s H ⟨[.ref a, .ref b], []⟩ [.ref a, .ref b] [.ref a, .ref b] _ E hr I.env0 (by
    have := hb s [.ref a, .ref b] I.kIn (by simpa using hl)
    simpa using this) r2 hsp) fun r s' hq => ?_)
  cases r with
  | error e => exact hx pins σ H s e s' I hq
  | ok fl =>
    cases fl with
    | ret w =>
      obtain ⟨z, H', I', rz, ⟨r, ez, q⟩⟩ := I.after hq
      subst ez
      cases (show w = Value.bool r from rz)
      exact ⟨.bl r, H', I', rfl, q⟩
    | next => exact False.elim hq
    | brk => exact False.elim hq
    | cont => exact False.elim hq
section
variable {K : PySem.W.Frag} {ms ps : List Addr} {cs : List (Addr × List V)} {H H0 H1 : Hp} {d : D} {u x y : V}
theorem rep_ins {C : Addr} {ns : List Str} {ds : List D} (h : rep ms H (.ins C ns ds) u) : ∃ p dx fs, u = .ref p ∧ H p = some (.ins C dx fs) := by
  simp only [rep] at h
  obtain ⟨p, dx, vs, e, _, hp, _⟩ := h
  exact ⟨p, dx, _, e, hp⟩
theorem rep_eqOwn {C : Addr} {ns ns' : List Str} {ds ds' : List D} {sp : Sp} {E : XK} {Q : VK} (h1 : rep ms H (.ins C ns ds) x) (h2 : rep ms H (.ins C ns' ds') y) (k : sp [x, y] H (fun v H' => ∃ r : Bool, v = .bl r ∧ Q v H') E) : rOwnEq C sp E x y H Q := by
  obtain ⟨p, dx, fs, e, hp⟩ := rep_ins h1
  obtain ⟨q, dy, gs, e', hq⟩ := rep_ins h2
  subst e e'
  exact ⟨p, q, dx, dy, fs, gs, rfl, rfl, hp, hq, k⟩
/-! list + list -/
theorem rep_cat {α : Type} {xs ys : List α} {e : α → D} {Q : VK} (w : Wd ms ps cs H0 H) (h1 : rep ms H (.lst (xs.map e)) x) (h2 : rep ms H (.lst (ys.map e)) y) (hz : xs.length + ys.length ≤ sizeLine)
    (k : ∀ p H', Ret [] H H' → rep ms H' (.lst ((xs ++ ys).map e)) (.ref p) → Q (.ref p) H') : rCat x y H Q := by
  simp only [rep] at h1 h2
  obtain ⟨p, vs, rfl, np, hp, r1⟩ := h1
  obtain ⟨q, us, rfl, nq, hq, r2⟩ := h2
  have l1 := repL_len r1
  have l2 := repL_len r2
  rw [List.length_map] at l1 l2
  refine ⟨p, q, vs, us, rfl, rfl, hp, hq, by rw [← l1, ← l2]; exact hz, fun a na => ?_⟩
  have ee : Ret [] H (upd H a (.lst (vs ++ us))) := Ext.new na
  refine k a _ ee ?_
  simp only [rep]
  refine ⟨a, vs ++ us, rfl, fun z => w.tr a z na, upd_same, ?_⟩
  rw [List.map_append]
  exact repL_app (repL_ext ee r1) (repL_ext ee r2)
/-! isinstance(x, C), x of the class C -/
structure IsC (K : PySem.W.Frag) (C : Addr) : Prop where
  cl : Cls K C
  ha : PySem.W.findIn K (.ref C) "__class__" = some (some (.builtin "object.__class__"))
  hn : PySem.W.specialIn K (.builtin "object.__class__") "__get__" = some (some (.builtin "getset_descriptor.__get__"))
  tk : PySem.W.takesIn K (.builtin "object.__class__") = some true
  hm : PySem.W.mroIn K C (.type "object") = some true
theorem rep_isi {C : Addr} {ns : List Str} {ds : List D} {P : Bool → Prop} (h : rep ms H (.ins C ns ds) x) (c : IsC K C) (k : P true) :
    ∃ (x' c : V) (t u : Value) (b : Bool), [x, .ref C] = [x', c] ∧ ClsV c u ∧ TyX K H x' t ∧ PySem.W.kitOne K t u = some b ∧ P b := by
  obtain ⟨p, dx, fs, e, hp⟩ := rep_ins h
  subst e
  refine ⟨_, _, _, _, true, rfl, .own C, .base (.ins hp c.cl c.ha c.hn c.tk c.hm), ?_, k⟩
  simp [PySem.W.kitOne]
/-! list.count of texts -/
def rCntS (K : PySem.W.Frag) : V → List V → Hp → VK → Prop := fun x xs H Q => ∃ (p : Addr) (ns : List Str) (k : Str), x = .ref p ∧ xs = [.str k] ∧ SqL K H p (ns.map V.str) ∧ Q (.int (ns.count k : Nat)) H
def eqs (k : Str) (v : Value) : Bool := match v with
  | .str n _ => n == k
  | _ => false
theorem eqs_at {A : Around} {s : Shared} {k : Str} {t : Tok} : ∀ {ns : List Str} {us : List Value}, Vals (ns.map V.str) us → ∀ y ∈ us, SeqAt.EqAt A s y (.str k t) (eqs k y)
  | [], _, .nil => fun y hy => by cases hy
  | n :: ns, _, .cons r h => fun y hy => by
    rcases List.mem_cons.mp hy with e | e
    · subst e
      obtain ⟨t', rfl⟩ := r
      exact SeqAt.EqAt.str_str n t' k t
    · exact eqs_at h y e
theorem eqs_count {k : Str} : ∀ {ns : List Str} {us : List Value}, Vals (ns.map V.str) us → us.countP (eqs k) = ns.count k
  | [], _, .nil => rfl
  | n :: ns, _, .cons r h => by
    have ih := eqs_count (k := k) h
    obtain ⟨t', rfl⟩ := r
    rw [List.countP_cons, List.count_cons, ih] <;> rfl
theorem mt_lcountS {X : Cx} : MtR X "list.count" (rCntS X.K) := by
  intro pins s σ H x xs v us Q I rx rxs h
  obtain ⟨p, ns, k, rfl, rfl, hs, q⟩ := h
  cases rx
  obtain ⟨u, rfl, ru⟩ := rxs.one
  obtain ⟨t, rfl⟩ := ru
  obtain ⟨its, rv, ⟨⟨cls, dd, data, sl⟩, n, ho, hc, hdn, hd⟩, hlen⟩ := I.list hs
  simp only at hc hd
  subst hc hd
  refine call_meets PySem.F.slot_list_count ⟨_, ho, rfl⟩ PySem.F.entry_list_count (PySem.F.args_list_count_2 _ _)
    (SeqAt.list_countAt p its.toArray n dd sl (.str k t) (eqs k)) ⟨ho, fun y hy => eqs_at rv y (by simpa using hy), ?_⟩
  have ec : its.toArray.toList.countP (eqs k) = ns.count k := eqs_count rv
  refine ⟨.int (ns.count k : Nat), H, I.tok _, ⟨s.toks, ?_⟩, q⟩
  show Value.int ((its.toArray.toList.countP (eqs k) : Nat) : Int) s.toks = Value.int ((ns.count k : Nat) : Int) s.toks
  rw [ec]
theorem rep_lcountS {ns : List Str} {k : Str} {P : List Str → Str → Prop} (h : rep ms H (.lst (ns.map fun n => D.v (.str n))) x) (q : P ns k) :
    ∃ (p : Addr) (ns : List Str) (k' : Str), x = .ref p ∧ [V.str k] = [.str k'] ∧ SqL K H p (ns.map V.str) ∧ P ns k' := by
  simp only [rep] at h
  obtain ⟨p, vs, e, _, hp, hr⟩ := h
  have ev := repL_strs hr
  subst ev e
  exact ⟨p, ns, k, rfl, rfl, .inl (.inl hp), q⟩
/-! written dicts of texts -/
theorem kd_nil {w : World} {a : Addr} : ∀ z c : Str, ([] : List (Str × Str)).lookup z = some c → KDct K w a z (.str c) := fun _ _ h => by cases h
theorem kd_cons {w : World} {a : Addr} {k v : Str} {l : List (Str × Str)} (h : KDct K w a k (.str v)) (t : ∀ z c : Str, l.lookup z = some c → KDct K w a z (.str c)) : ∀ z c : Str, ((k, v) :: l).lookup z = some c → KDct K w a z (.str c) := by
  intro z c e
  rw [List.lookup_cons] at e
  by_cases q : (z == k) = true
  · rw [q] at e
    have e1 : v = c := Option.some.inj e
    subst e1
    rw [eq_of_beq q]
    exact h
  · have q' : (z == k) = false := by simpa using q
    rw [q'] at e
    exact t z c e
theorem rep_ixD {w : World} {a : Addr} {l : List (Str × Str)} {z c : Str} {Q : VK} (t : ∀ z c : Str, l.lookup z = some c → KDct K w a z (.str c)) (h : l.lookup z = some c) (q : Q (.str c) H) : rIxD K w (.ref a) (.str z) H Q :=
  ⟨a, z, .str c, rfl, rfl, t z c h, q⟩
theorem ix_kdictW {X : Cx} {w : World} (hK : X.K = K) (hw : X.w = w) : IxR X (rIxD K w) := by
  subst hK hw
  exact ix_kdict
theorem rep_tyL {ds : List D} (h : rep ms H (.lst ds) x) : tyV K "list" x H := by
  simp only [rep] at h
  obtain ⟨p, vs, e, _, hp, hr⟩ := h
  subst e
  exact .inl ⟨rfl, vs, .inl (.inl hp)⟩
end
/-! the signs of a text -/
def signs (x : Str) : List Str := x.cps.toList.map fun c => ⟨#[c]⟩
theorem signs_len {x : Str} : (signs x).length = x.cps.size := by simp [signs]
theorem signs_get {x : Str} {i : Nat} {c : Nat} (h : x.cps[i]? = some c) : (signs x)[i]? = some ⟨#[c]⟩ := by
  simp only [signs, List.getElem?_map, Array.getElem?_toList, h]
  rfl
section
variable {β : Type} {K : PySem.W.Frag} {ms ps : List Addr} {cs : List (Addr × List V)} {H0 H1 : Hp} {g : TG} {tt : TT} {te : TE} {vl : List Nat} {σ : L2.St} {Qd : Hp → Prop}
/-- [e for x in text] -/
theorem lc_strC {z : Str} {L : Addr} {eb : β → D} {body : Str → (β → Prop) → Prop} {KM : List β → Prop} (w : Wd ms ps cs H0 H1) (nl : H1 L = none) (hM : (signs z).length < 100000 ∧ mapC body (signs z) [] KM)
    (hs : ∀ (x : Str) (n : Nat) (ys : List β) (vs : List V) (k : β → Prop) (H : Hp), n < 100000 → Trn ms ps cs H0 H1 L eb n ys vs H → body x k → ∀ Nx : Hp → Prop, (∀ y vs' H', k y → Trn ms ps cs H0 H1 L eb (n + 1) (ys ++ [y]) vs' H' → Nx H') →
      g (.str x) (wipe σ vl) H fun σ2 H2 => wipe σ2 vl = wipe σ vl ∧ tt σ2 H2 fun b H3 => if b = true then te σ2 H3 fun y H4 => ∃ acc, H4 L = some (.lst acc) ∧ acc.length < sizeLine ∧ Nx (upd H4 L (.lst (acc ++ [y]))) else Nx H3)
    (hd : ∀ ys H, KM ys → Wd ms ps cs H0 H → Keep ms H1 H → rep ms H (.lst (ys.map eb)) (.ref L) → Qd H) :
    ∃ W : Nat → Nat → Hp → Prop, (∃ m, W 0 m (upd H1 L (.lst []))) ∧ ∀ i m H, W i m H →
      ((Its z).stop i H ∧ Qd H) ∨ ((Its z).go i H ∧ ∃ Nx : Hp → Prop, (∀ H', Nx H' → ∃ m', m' < m ∧ W (i + 1) m' H') ∧ ∀ x H', (Its z).yld i H x H' → g x (wipe σ vl) H' fun σ2 H2 => wipe σ2 vl = wipe σ vl ∧ tt σ2 H2 fun b H3 =>
        if b = true then te σ2 H3 fun y H4 => ∃ acc, H4 L = some (.lst acc) ∧ acc.length < sizeLine ∧ Nx (upd H4 L (.lst (acc ++ [y]))) else Nx H3) := by
  obtain ⟨hn, hM⟩ := hM
  rw [signs_len] at hn
  refine ⟨fun i m H => m = z.cps.size - i ∧ i ≤ z.cps.size ∧ ∃ ys vs, Trn ms ps cs H0 H1 L eb i ys vs H ∧ mapC body ((signs z).drop i) ys KM, ⟨_, rfl, Nat.zero_le _, [], [], Trn.start w nl, hM⟩, ?_⟩
  rintro i m H ⟨rfl, hi', ys, vs, T, q⟩
  by_cases hlt : i < z.cps.size
  · refine .inr ⟨hlt, fun H' => i + 1 ≤ z.cps.size ∧ ∃ ys vs, Trn ms ps cs H0 H1 L eb (i + 1) ys vs H' ∧ mapC body ((signs z).drop (i + 1)) ys KM, fun H' p' => ⟨_, by omega, rfl, p'⟩, fun x H' y => ?_⟩
    obtain ⟨e, c, hc, y⟩ := y
    subst e y
    rw [drop_cons' (signs_get hc)] at q
    exact hs _ i ys vs _ H' (by omega) T q _ fun y vs' H' k T' => ⟨hlt, _, _, T', k⟩
  · have e : i = z.cps.size := by omega
    refine .inl ⟨by rw [e]; exact Nat.le_refl _, ?_⟩
    have q' : KM ys := by
      rw [List.drop_of_length_le (by rw [signs_len]; omega)] at q
      exact q
    obtain ⟨w', k', r'⟩ := T.done w nl
    exact hd ys H q' w' k' r'
end
/-! != by the text's own == -/
section
variable {M : Model} {prog : Program} {w : World} {A : Around} {E : Value → Shared → Prop} {s : Shared} {K : PySem.W.Frag} {x y C : Addr} {ox : Obj} {od : Option Obj}
theorem entry_objNe {Q : Fin → Shared → Prop} (hu : A.units < cLine) (hcall : wpAny M A (callSpecialIfBound? (.ref x) (Str.ofString "__eq__") [.ref y]) (fun r s' => ∃ b, r = some (.bool b) ∧ Q (.done (.ret (.bool (!b)))) s') E s) :
    wpAny M A (Builtin.«object.__ne__» ⟨[.ref x, .ref y], []⟩) Q E s := by
  unfold Builtin.«object.__ne__»
  repeat (first
    | with_reducible refine wpAny_cRoomFor hu ?_
    | (refine wpAny_bind (m := callSpecialIfBound? (.ref x) (Str.ofString "__eq__") [.ref y])
        (wpAny_mono hcall (fun r s' hr => by
          obtain ⟨b, rfl, hq⟩ := hr
          repeat (first | exact hq | exact wpAny_pure hq | exact wpAny_truthy_bool hq | (refine wpAny_bind (m := truthy (.bool _)) (wpAny_truthy_bool ?_)) | wp_step)) fun _ _ e => e))
    | wp_step)
theorem call_objNe {Q : Value → Shared → Prop} (X : K.In s.heap) (I : PySem.W.InstAt s.heap x ox C od) (hm : PySem.W.mroIn K C (.type "object") = some true) (hu : A.in1.units < cLine)
    (hcall : wpAny (model prog w) A.in1 (callSpecialIfBound? (.ref x) (Str.ofString "__eq__") [.ref y]) (fun r s' => ∃ b, r = some (.bool b) ∧ Q (.bool (!b)) s') E s) :
    wpAny (model prog w) A (call (.builtin "object.__ne__") [.ref x, .ref y]) Q E s := by
  refine wpAny_call (codeAny_call_builtin F.cmp_object.ne.plain F.cmpEntry_ne (PySem.W.check_slot F.cmpKind_ne F.cmpSplit_ne (I.type.andThen (PySem.W.looks_mroIn X hm)) (F.cmpArgs_ne _ _) (entry_objNe hu (wpAny_mono hcall (fun r s' hr => ?_) fun _ _ e => e))))
  obtain ⟨b, rfl, hq⟩ := hr
  first | exact ⟨b, rfl, hq⟩ | exact ⟨b, rfl, wpAny_pure hq⟩
theorem ifBound_objNe {args : List Value} {Q : Option Value → Shared → Prop} (X : K.In s.heap) (I : PySem.W.InstAt s.heap x ox C od) (hs : PySem.W.findIn K (.ref C) "__ne__" = some (some (.builtin "object.__ne__")))
    (h : wpAny M A (call (.builtin "object.__ne__") (.ref x :: args)) (fun v => Q (some v)) E s) : wpAny M A (callSpecialIfBound? (.ref x) "__ne__" args) Q E s := by
  simp only [callSpecialIfBound?, bindSpecialIfBound?]
  refine wpAny_holding (wpAny_bind (wpAny_bind (wpAny_bind (I.type.here ((PySem.W.looks_findIn X hs).here ?_)))))
  refine wpAny_bind (wpAny_askSetting (wpAny_ite ?_))
  have fin : wpAny M A (call (.builtin "object.__ne__") ([.ref x] ++ args) >>= fun v => pure (some v)) Q E s := wpAny_bind (wpAny_mono h (fun v s' h' => wpAny_pure h') fun _ _ h' => h')
  split
  · exact wpAny_bind (wpAny_of_eq (F.cmp_object.ne.bind _) (wpAny_pure (by exact fin)))
  · exact wpAny_tryCatch (wpAny_bind (wpAny_of_eq (F.cmp_object.ne.bind _) (wpAny_pure (by exact fin))))
end
structure OwnNe (K : PySem.W.Frag) (C : Addr) : Prop where
  hne : PySem.W.findIn K (.ref C) "__ne__" = some (some (.builtin "object.__ne__"))
  hm : PySem.W.mroIn K C (.type "object") = some true
def rOwnNe (C : Addr) (sp : Sp) (E : XK) : R2 := fun x y H Q => ∃ a b dx dy fs gs, x = .ref a ∧ y = .ref b ∧ H a = some (.ins C dx fs) ∧ H b = some (.ins C dy gs) ∧ sp [x, y] H (fun v H' => ∃ r : Bool, v = .bl r ∧ Q (.bl (!r)) H') E
theorem op_neOwn {X : Cx} {n : Nat} {CX : CXT} {C f : Addr} {fd : FuncData} {ps : List Str} {sp : Sp} {E : XK} (F : FnOk X.prog X.w X.K X.mg X.base CX n f fd ps sp) (hr : Room (n + 1) X.A)
    (o : OwnEq X.K C f) (o' : OwnNe X.K C) (hb : Binds X.K fd ps []) (hx : Passes CX X E) : OpR X (compareOp .NotEq) (rOwnNe C sp E) := by
  intro pins s σ H x y v u Q I rx ry d
  show wpAny (model X.prog X.w) X.A (richCompare .NotEq v u) (EP X pins σ Q) X.xe s
  obtain ⟨a, b, dx, dy, fs, gs, rfl, rfl, ha, hb', hsp⟩ := d
  cases rx
  cases ry
  obtain ⟨mA, J, _⟩ := ins_get I.hok ha
  obtain ⟨mB, J', _⟩ := ins_get I.hok hb'
  obtain ⟨od, J, _⟩ := J.look
  obtain ⟨od', J', _⟩ := J'.look
  have hl := F.len _ _ _ _ hsp
  have r2 : Vals [V.ref a, V.ref b] [Value.ref a, Value.ref b] := .cons rfl (.cons rfl .nil)
  have one : wpAny (model X.prog X.w) X.A (tryCompare (.ref a) (cmpInfo .NotEq).2.1 (.ref b)) (fun r s' => ∃ v, r = some v ∧ EP X pins σ Q v s') X.xe s := by
    unfold tryCompare
    refine wpAny_bind (ifBound_objNe I.kIn J o'.hne (call_objNe I.kIn J o'.hm hr.in1.units0 (PySem.W.ifBound_K I.kIn J o.hs o.hf ?_)))
    refine wpAny_call (codeAny_mono (F.run X.A.in1 X.stack s H ⟨[.ref a, .ref b], []⟩ [.ref a, .ref b] [.ref a, .ref b] _ E hr.in1 I.env0.in1 (by
      have := hb s [.ref a, .ref b] I.kIn (by simpa using hl)
      simpa using this) r2 hsp) fun r s' hq => ?_)
    cases r with
    | error e => exact hx pins σ H s e s' I hq
    | ok fl =>
      cases fl with
      | ret w =>
        obtain ⟨z, H', I', rz, ⟨r, ez, q⟩⟩ := I.after hq
        subst ez
        cases (show w = Value.bool r from rz)
        exact ⟨r, rfl, wpAny_pure ⟨_, rfl, .bl (!r), H', I', rfl, q⟩⟩
      | next => exact False.elim hq
      | brk => exact False.elim hq
      | cont => exact False.elim hq
  unfold richCompare
  simp only [oneThing_ref]
  refine wpAny_holding (wpAny_bind (wpAny_cRoomFor hr.units0 ?_))
  refine wpAny_bind (J.type.here (wpAny_bind (J'.type.here ?_)))
  rw [show (Value.ref C != Value.ref C) = false from by simp]
  refine wpAny_bind (wpAny_pure ?_)
  simp only [Bool.false_eq_true, if_false]
  refine wpAny_bind (wpAny_mono one (fun r s' z => ?_) fun _ _ e => e)
  obtain ⟨v, rfl, hq⟩ := z
  exact wpAny_pure hq
theorem rep_neOwn {ms : List Addr} {H : Hp} {x y : V} {C : Addr} {ns ns' : List Str} {ds ds' : List D} {sp : Sp} {E : XK} {Q : VK} (h1 : rep ms H (.ins C ns ds) x) (h2 : rep ms H (.ins C ns' ds') y) (k : sp [x, y] H (fun v H' => ∃ r : Bool, v = .bl r ∧ Q (.bl (!r)) H') E) : rOwnNe C sp E x y H Q := by
  obtain ⟨p, dx, fs, e, hp⟩ := rep_ins h1
  obtain ⟨q, dy, gs, e', hq⟩ := rep_ins h2
  subst e e'
  exact ⟨p, q, dx, dy, fs, gs, rfl, rfl, hp, hq, k⟩
/-! a local list that grows -/
mutual
def noL : D → Bool
  | .v _ => true
  | .lst _ => false
  | .tup ds => noLs ds
  | .ins _ _ ds => noLs ds
  | .dct _ ds => noLs ds
  | .dcT _ ds => noLs ds
def noLs : List D → Bool
  | [] => true
  | d :: ds => noL d && noLs ds
end
section
variable {ms ps : List Addr} {cs : List (Addr × List V)} {H0 H H' : Hp} {L : Addr} {vs : List V}
mutual
theorem rep_lift0 (hL : H L = some (.lst vs)) : ∀ (d : D) (u : V), noL d = true → rep ms H d u → rep (L :: ms) H d u
  | .v x, u, _, h => by
    simp only [rep] at h ⊢
    exact h
  | .lst ds, u, n, h => by
    simp only [noL] at n
    cases n
  | .tup ds, u, n, h => by
    simp only [noL] at n
    simp only [rep] at h ⊢
    obtain ⟨p, us, e, np, hp, hl⟩ := h
    refine ⟨p, us, e, fun z => ?_, hp, repL_lift0 hL ds us n hl⟩
    rcases List.mem_cons.mp z with z | z
    · rw [z, hL] at hp
      cases hp
    · exact np z
  | .ins C ns ds, u, n, h => by
    simp only [noL] at n
    simp only [rep] at h ⊢
    obtain ⟨p, dx, us, e, np, hp, hn, hl⟩ := h
    refine ⟨p, dx, us, e, fun z => ?_, hp, hn, repL_lift0 hL ds us n hl⟩
    rcases List.mem_cons.mp z with z | z
    · rw [z, hL] at hp
      cases hp
    · exact np z
  | .dct ks ds, u, n, h => by
    simp only [noL] at n
    simp only [rep] at h ⊢
    obtain ⟨p, us, e, np, hp, hn, hl⟩ := h
    refine ⟨p, us, e, fun z => ?_, hp, hn, repL_lift0 hL ds us n hl⟩
    rcases List.mem_cons.mp z with z | z
    · rw [z, hL] at hp
      cases hp
    · exact np z
  | .dcT ks ds, u, n, h => by
    simp only [noL] at n
    simp only [rep] at h ⊢
    obtain ⟨p, us, e, np, hp, hn, hl⟩ := h
    refine ⟨p, us, e, fun z => ?_, hp, hn, repL_lift0 hL ds us n hl⟩
    rcases List.mem_cons.mp z with z | z
    · rw [z, hL] at hp
      cases hp
    · exact np z
theorem repL_lift0 (hL : H L = some (.lst vs)) : ∀ (ds : List D) (us : List V), noLs ds = true → repL ms H ds us → repL (L :: ms) H ds us
  | [], us, _, h => by
    simp only [repL] at h ⊢
    exact h
  | d :: ds, us, n, h => by
    simp only [noLs, Bool.and_eq_true] at n
    simp only [repL] at h ⊢
    obtain ⟨u, ws, e, h1, h2⟩ := h
    exact ⟨u, ws, e, rep_lift0 hL d u n.1 h1, repL_lift0 hL ds ws n.2 h2⟩
end
structure Mut (ms ps : List Addr) (cs : List (Addr × List V)) (H0 H : Hp) (L : Addr) (ds : List D) : Prop where
  hp : L ∉ ps
  h0 : H0 L = none
  hc : ∀ c ∈ cs, c.1 ≠ L
  nm : L ∉ ms
  val : ∃ vs, H L = some (.lst vs) ∧ repL (L :: ms) H ds vs
variable {ds : List D} {d : D} {u : V}
theorem mut_new (w : Wd ms ps cs H0 H) (nl : H L = none) (r : repL ms H ds vs) : Wd (L :: ms) ps cs H0 (upd H L (.lst vs)) ∧ Mut ms ps cs H0 (upd H L (.lst vs)) L ds := by
  have wc := Wd.cell (xs := vs) w nl
  have nL : L ∉ ms := fun z => w.tr L z nl
  refine ⟨⟨wc.kp, wc.grow, wc.tr, wc.pot, wc.pm, fun c h => wc.cel c (List.mem_cons_of_mem _ h)⟩, (wc.cel _ List.mem_cons_self).2.2.1, (wc.cel _ List.mem_cons_self).2.2.2, new_ne w nl, nL, vs, upd_same, ?_⟩
  exact repL_map (fun p o n hp => ⟨fun z => by
    rcases List.mem_cons.mp z with z | z
    · exact ne_of_none hp nl z
    · exact n z, by rw [upd_ne (ne_of_none hp nl)]; exact hp⟩) _ _ r
theorem mut_ret (w : Wd (L :: ms) ps cs H0 H) (e : Ret ps H H') (m : Mut ms ps cs H0 H L ds) : Mut ms ps cs H0 H' L ds := by
  obtain ⟨vs, h1, h2⟩ := m.val
  exact ⟨m.hp, m.h0, m.hc, m.nm, vs, e.kp L _ m.hp h1, repL_ret w e h2⟩
theorem mut_ext (e : Ret [] H H') (m : Mut ms ps cs H0 H L ds) : Mut ms ps cs H0 H' L ds := by
  obtain ⟨vs, h1, h2⟩ := m.val
  exact ⟨m.hp, m.h0, m.hc, m.nm, vs, e.kp L _ (by simp) h1, repL_ext e h2⟩
theorem mut_drop (m : Mut ms ps cs H0 H L ds) (w : Wd (L :: ms) ps cs H0 H) : Wd ms ps cs H0 H := by
  refine ⟨w.kp, w.grow, fun a h => w.tr a (List.mem_cons_of_mem _ h), w.pot, fun a h => ?_, fun c h => ?_⟩
  · rcases List.mem_cons.mp (w.pm a h) with z | z
    · rw [z] at h
      exact absurd h m.hp
    · exact z
  · obtain ⟨h1, h2, h3, h4⟩ := w.cel c h
    refine ⟨h1, ?_, h3, h4⟩
    rcases List.mem_cons.mp h2 with z | z
    · exact absurd z (m.hc c h)
    · exact z
theorem mut_rep (m : Mut ms ps cs H0 H L ds) : rep ms H (.lst ds) (.ref L) := by
  obtain ⟨vs, h1, h2⟩ := m.val
  simp only [rep]
  exact ⟨L, vs, rfl, m.nm, h1, repL_weak h2⟩
theorem rep_lift (m : Mut ms ps cs H0 H L ds) (n : noL d = true) (h : rep ms H d u) : rep (L :: ms) H d u := by
  obtain ⟨vs, h1, _⟩ := m.val
  exact rep_lift0 h1 d u n h
theorem mut_app {P : Addr → List V → V → Prop} (m : Mut ms ps cs H0 H L ds) (hl : ds.length < 16777216) (k : ∀ vs, H L = some (.lst vs) → repL (L :: ms) H ds vs → P L vs u) :
    ∃ (l : Addr) (xs : List V) (y : V), V.ref L = .ref l ∧ [u] = [y] ∧ H l = some (.lst xs) ∧ xs.length < sizeLine ∧ P l xs y := by
  obtain ⟨vs, h1, h2⟩ := m.val
  refine ⟨L, vs, u, rfl, rfl, h1, ?_, k vs h1 h2⟩
  rw [← repL_len h2, sizeLine_eq]
  exact hl
theorem mut_upd (w : Wd (L :: ms) ps cs H0 H) (m : Mut ms ps cs H0 H L ds) (hv : H L = some (.lst vs)) (h2 : repL (L :: ms) H ds vs) (r : rep (L :: ms) H d u) :
    Wd (L :: ms) ps cs H0 (upd H L (.lst (vs ++ [u]))) ∧ Mut ms ps cs H0 (upd H L (.lst (vs ++ [u]))) L (ds ++ [d]) ∧ (∀ d' u', rep (L :: ms) H d' u' → rep (L :: ms) (upd H L (.lst (vs ++ [u]))) d' u') ∧ True := by
  refine ⟨⟨fun a o n h => ?_, fun a h => ?_, fun a h => ?_, fun a h => ?_, w.pm, fun c h => ?_⟩, ⟨m.hp, m.h0, m.hc, m.nm, _, upd_same, ?_⟩, fun d u' h => ?_, trivial⟩
  · rw [upd_ne (ne_of_none h m.h0)]
    exact w.kp a o n h
  · by_cases e : a = L
    · rw [e, upd_same]
      exact fun z => nomatch z
    · rw [upd_ne e]
      exact w.grow a h
  · by_cases e : a = L
    · rw [e, upd_same]
      exact fun z => nomatch z
    · rw [upd_ne e]
      exact w.tr a h
  · obtain ⟨i, j, h1, h3⟩ := w.pot a h
    exact ⟨i, j, by rw [upd_ne (fun z => m.hp (by rw [← z]; exact h))]; exact h1, h3⟩
  · obtain ⟨h1, h3, h4, h5⟩ := w.cel c h
    exact ⟨by rw [upd_ne (m.hc c h)]; exact h1, h3, h4, h5⟩
  · exact repL_put List.mem_cons_self (repL_app h2 (repL_one r))
  · exact rep_put List.mem_cons_self h
end
section
variable {ms ps : List Addr} {cs : List (Addr × List V)} {H0 H H1 H' : Hp} {L : Addr} {K : PySem.W.Frag} {x : V}
theorem keep_none {w : Wd ms ps cs H0 H} (nl : H L = none) (k : Keep ms H1 H) : H1 L = none := by
  have nL : L ∉ ms := fun z => w.tr L z nl
  cases q : H1 L with
  | none => rfl
  | some o =>
    have := k L o nL q
    rw [nl] at this
    cases this
theorem keep_frz (n : H1 L = none) (k : Keep (L :: ms) H1 H) : Keep ms H1 H := fun a o na h => k a o (fun z => by
  rcases List.mem_cons.mp z with z | z
  · rw [z, n] at h
    cases h
  · exact na z) h
theorem rep_ixN {α : Type} {e : α → D} {xs : List α} {i : Int} {y : α} {Q : VK} (h : rep ms H (.lst (xs.map e)) x) (hi : atI xs i = some y) (k : ∀ v, rep ms H (e y) v → Q v H) : rIxL K x (.int i) H Q := by
  simp only [rep] at h
  obtain ⟨p, vs, e', _, hp, hr⟩ := h
  have hl := repL_len hr
  rw [List.length_map] at hl
  unfold atI at hi
  cases hx : ixN xs.length i with
  | none =>
    rw [hx] at hi
    cases hi
  | some j =>
    rw [hx] at hi
    have hj : xs[j]? = some y := hi
    obtain ⟨v, hv, rv⟩ := repL_get (d := e y) (j := j) hr (by rw [List.getElem?_map, hj]; rfl)
    refine ⟨p, vs, i, v, e', rfl, .inl (.inl hp), ?_, k v rv⟩
    unfold atI
    rw [← hl, hx]
    exact hv
theorem rep_rg_mk {p : Addr} {a b : Int} (w : Wd ms ps cs H0 H) (np : H p = none) (e : Ret [] H H') (hp : H' p = some (.lst (rgV a b))) : rep ms H' (.lst ((rangeI a b).map fun n => D.v (.int n))) (.ref p) := by
  simp only [rep]
  refine ⟨p, rgV a b, rfl, fun z => w.tr p z np, hp, ?_⟩
  have e1 : (rangeI a b).map (fun n => D.v (.int n)) = (rgV a b).map D.v := by
    unfold rangeI rgV
    rw [List.map_map, List.map_map]
    rfl
  rw [e1]
  exact repL_flat.mpr rfl
end
/-! ranges of any size -/
theorem turn_long {P : Program} {w : World} {K : PySem.W.Frag} {tg : Expr} (it : Addr) (lo : Int) (n : Nat) : Turn P w K tg (Itr lo n) [it] it (fun i h => IsLongIter h it (lo + (i : Nat) * 1) ((n : Int) - (i : Nat)) 1) where
  mem := by simp
  obj := fun i h st b hb => by
    have e : b = it := by simpa using hb
    subst e
    exact ⟨_, st, fun v z => by
      have z' : Data.fields _ = Data.cell v := z
      cases z'⟩
  keep := fun i h h' st k => k it (by simp) _ st
  item := by
    intro X hP hw hK hc i pins s σ H E I hf st hg
    subst hP hw hK
    obtain ⟨f0, f1, f2, f3, f4, f5⟩ := hf it (by simp)
    have W := Walks.longrange (prog := X.prog) (w := X.w) (I.ok.hd hc) it lo 1 n
    refine W.item i s _ _ hg st fun v h' tk hv st' kk => ?_
    obtain ⟨t, rfl⟩ := hv
    have I1 : Inv X pins σ H { s with heap := h', toks := tk } := I.turned (fun b o hb e => kk b o (by simpa using hb) e) f0 f1 f3 f4 f5
    refine ⟨_, rfl, go_of (s := { s with heap := h', toks := tk }) (n := "longrange_iterator") st' rfl rfl (by decide) ⟨.int (lo + i), H, I1, ⟨t, ?_⟩, ⟨rfl, rfl⟩, st', fun b hb => (hf b hb).1⟩⟩
    rw [Int.mul_one]
  done := by
    intro X hP hw hK hc i pins s σ H E I hf st hg
    subst hP hw hK
    obtain ⟨f0, f1, f2, f3, f4, f5⟩ := hf it (by simp)
    exact wpAny_pyNext_long_end (I.ok.hd hc) st (by have : n ≤ i := hg; omega) fun h' eb => ⟨rfl, I.turned (t' := s.toks) (fun b o hb e => eb b o hb e) f0 f1 f3 f4 f5⟩
  self := fun _ _ _ _ _ st h => wpAny_pyIter_longiter st h
section
variable {X : Cx} {tg : Expr}
theorem range_itW {pins : List (Addr × Obj)} {σ : L2.St} {H : Hp} {s : Shared} {R : It → Hp → Prop} {E : Value → Shared → Prop} {lo hi : Int} {t u v : Tok} {tk : Nat} (I : Inv X pins σ H s)
    (q : R (Itr lo (hi - lo).toNat) H) : wpAny (model X.prog X.w) X.A (pyIter (.ref s.heap.objs.size)) (PIE X pins σ tg R) E { s with heap := s.heap.push { cls := .type "range", data := .fields #[.int lo t, .int hi u, .int 1 v] }, toks := tk } := by
  have I1 : Inv X pins σ H { s with heap := s.heap.push { cls := .type "range", data := .fields #[.int lo t, .int hi u, .int 1 v] }, toks := tk } := I.kept fun b o e => Heap.get?_push_of_some _ e
  have e1 : lo + ((0 : Nat) : Int) * 1 = lo := by simp
  have e2 : (((hi - lo).toNat : Nat) : Int) - ((0 : Nat) : Int) = Builtin.Range.rangeSize lo hi 1 := by rw [rangeSize_one]; split <;> omega
  cases hs : Builtin.Range.small lo hi 1 with
  | true =>
    refine wpAny_pyIter_range (IsRange.new ..) hs ?_
    refine ⟨(s.heap.push { cls := .type "range", data := .fields #[.int lo t, .int hi u, .int 1 v] }).objs.size, [(s.heap.push { cls := .type "range", data := .fields #[.int lo t, .int hi u, .int 1 v] }).objs.size], _, _, H, rfl,
      I1.kept (t' := tk) fun b o e => Heap.get?_push_of_some _ e, turn_range _ lo (hi - lo).toNat, ?_, fun b hb => ?_, q⟩
    · show IsRangeIter _ _ (lo + ((0 : Nat) : Int) * 1) ((((hi - lo).toNat : Nat) : Int) - ((0 : Nat) : Int)) 1
      rw [e1, e2]
      exact Heap.get?_push_size _ rfl
    · have e : b = (s.heap.push { cls := .type "range", data := .fields #[.int lo t, .int hi u, .int 1 v] }).objs.size := by simpa using hb
      subst e
      exact I1.fpOk (Nat.le_refl _) (I1.hok.fresh (Nat.le_refl _))
  | false =>
    refine wpAny_pyIter_longrange (IsRange.new ..) hs ?_
    refine ⟨(s.heap.push { cls := .type "range", data := .fields #[.int lo t, .int hi u, .int 1 v] }).objs.size, [(s.heap.push { cls := .type "range", data := .fields #[.int lo t, .int hi u, .int 1 v] }).objs.size], _, _, H, rfl,
      I1.kept (t' := tk) fun b o e => Heap.get?_push_of_some _ e, turn_long _ lo (hi - lo).toNat, ?_, fun b hb => ?_, q⟩
    · show IsLongIter _ _ (lo + ((0 : Nat) : Int) * 1) ((((hi - lo).toNat : Nat) : Int) - ((0 : Nat) : Int)) 1
      rw [e1, e2]
      exact Heap.get?_push_size _ rfl
    · have e : b = (s.heap.push { cls := .type "range", data := .fields #[.int lo t, .int hi u, .int 1 v] }).objs.size := by simpa using hb
      subst e
      exact I1.fpOk (Nat.le_refl _) (I1.hok.fresh (Nat.le_refl _))
def iRngW1 (ta : TA) : TI := fun σ H R => ta σ H fun vs H1 => ∃ j : Int, vs = [.int j] ∧ R (Itr 0 j.toNat) H1
def iRngW2 (ta : TA) : TI := fun σ H R => ta σ H fun vs H1 => ∃ i j : Int, vs = [.int i, .int j] ∧ R (Itr i (j - i).toNat) H1
theorem pi_rangeW1 {a : Expr} {ta : TA} {p pos : Pos} (hg : Gl X "range") (hm : X.mg "range" = none) (ha : PA X [a] ta) (hs : starEach [a] X.env = [(false, eval a X.env)] := by rfl) : PI X tg (.Call (.Name "range" p) [a] [] pos) (iRngW1 ta) := by
  refine ⟨fun pins s σ H R I h => ?_⟩
  refine Call_ (ld_blt I hg hm boot_range (PyProof.Rows.callWith_type1 (thn (ha.run pos pins s σ H _ I h) fun us s1 ⟨vs, H1, I1, r1, q1⟩ => ?_) hs rfl))
  obtain ⟨j, e, q⟩ := q1
  subst e
  cases r1 with
  | cons r rr =>
    cases rr
    obtain ⟨t, rfl⟩ := r
    exact call_range_1 (range_itW I1 (by simpa using q))
theorem pi_rangeW2 {a b : Expr} {ta : TA} {p pos : Pos} (hg : Gl X "range") (hm : X.mg "range" = none) (ha : PA X [a, b] ta) (hs : starEach [a, b] X.env = [(false, eval a X.env), (false, eval b X.env)] := by rfl) (hs2 : starEach [b] X.env = [(false, eval b X.env)] := by rfl) :
    PI X tg (.Call (.Name "range" p) [a, b] [] pos) (iRngW2 ta) := by
  refine ⟨fun pins s σ H R I h => ?_⟩
  refine Call_ (ld_blt I hg hm boot_range (PyProof.Rows.callWith_type1 (thn (ha.run pos pins s σ H _ I h) fun us s1 ⟨vs, H1, I1, r1, q1⟩ => ?_) (by rw [hs, hs2]) (by rw [hs2]; rfl)))
  obtain ⟨i, j, e, q⟩ := q1
  subst e
  cases r1 with
  | cons r rr =>
    cases rr with
    | cons r' rr =>
      cases rr
      obtain ⟨t, rfl⟩ := r
      obtain ⟨t', rfl⟩ := r'
      exact call_range_2 (range_itW I1 q)
end
end Rx
namespace Rx
open PySem PySem.Spec PyProof.Rows L2
/-- a def's promise, asked only where no text is under way -/
structure FnG (P : Program) (w : World) (K : PySem.W.Frag) (mg : Str → Option Value) (base : Heap) (k : Nat) (f : Addr) (fd : FuncData) (ps : List Str) (sp : Sp) : Prop where
  len : ∀ vs H Q E, sp vs H Q E → vs.length = ps.length
  run : ∀ (A : Around), A.guards = some [] → Room k A → ∀ (outer : List Env) (s : Shared) (H : Hp) (args : Args) (us : List Value) (vs : List V) (Q : VK) (E : XK), Env0 P w K mg base A outer s H → BindsTo s fd args (ps.zip us) → Vals vs us → sp vs H Q E →
    codeAny (model P w) A (.call (.ref f) args) (CR CX0 outer P w H s Q E) s
theorem FnG.of {P : Program} {w : World} {K : PySem.W.Frag} {mg : Str → Option Value} {base : Heap} {k : Nat} {f : Addr} {fd : FuncData} {ps : List Str} {sp : Sp} (F : FnOk P w K mg base CX0 k f fd ps sp) : FnG P w K mg base k f fd ps sp :=
  ⟨F.len, fun A _ hr outer s H args us vs Q E => F.run A outer s H args us vs Q E hr⟩
section
variable {X : Cx} {k : Nat} {f : Addr} {fd : FuncData} {ps : List Str} {sp : Sp} {x : Str} {e : Expr} {es : List Expr} {p pos : Pos} {t : TA}
theorem runG {pins : List (Addr × Obj)} {σ : L2.St} {H : Hp} {s : Shared} {Q : VK} {us : List Value} {vs : List V} (F : FnG X.prog X.w X.K X.mg X.base k f fd ps sp) (hg : X.A.guards = some []) (hr : Room k X.A) (hb : Binds X.K fd ps [])
    (I : Inv X pins σ H s) (r : Vals vs us) (h : sp vs H Q E0) : wpAny (model X.prog X.w) X.A (call (.ref f) us) (EP X pins σ Q) X.xe s := by
  have hl : us.length = ps.length := r.length.symm.trans (F.len _ _ _ _ h)
  have bt := hb s us I.kIn (by rw [List.append_nil]; exact hl)
  rw [List.append_nil] at bt
  refine wpAny_call (codeAny_mono (F.run X.A hg hr X.stack s H ⟨us, []⟩ us vs Q E0 I.env0 bt r h) fun out s' hq => ?_)
  rcases out with err | fl
  · exact pass0 pins σ H s err s' I hq
  · rcases fl with _ | _ | _ | u
    all_goals first | exact I.after hq | exact hq.elim
/-- f(e, ..) -/
theorem pe_callG (F : FnG X.prog X.w X.K X.mg X.base k f fd ps sp) (gu : X.A.guards = some []) (hr : Room k X.A) (hg : Gl X x) (hm : X.mg x = some (.ref f)) (hk : PySem.W.keepIn X.K (.ref f) = true) (hb : Binds X.K fd ps []) (ha : PA X (e :: es) t)
    (hdb : (x == ("__debug__" : Str)) = false := by decide) (he : starEach (e :: es) X.env = (false, eval e X.env) :: starEach es X.env := by rfl) (hpl : (backTo pos (starEach es X.env)).any (·.1) = false := by rfl) :
    PE X (.Call (.Name x p) (e :: es) [] pos) (tCall sp [] E0 t) :=
  ⟨fun pins s σ H Q I h => wpAny_Call_Name_kw (ld_glob I hg hm (PySem.W.callWith_K (h₀ := X.base) I.ok.mod.kin hk (thn (ha.run pos pins s σ H _ I h) fun us s1 ⟨vs, H1, I1, r, q⟩ => ⟨I1.kIn, runG F gu hr hb I1 r (by have q' : sp (vs ++ []) H1 Q E0 := q; rwa [List.append_nil] at q')⟩) he hpl) hdb)⟩
end
section
variable {P : Program} {w : World} {K : PySem.W.Frag} {mg : Str → Option Value} {base : Heap}
/-- a def whose body is read where no text is under way -/
theorem okG {x qual : Str} {st : Stmt} {f : Addr} {fd : FuncData} {N ps : List Str} {k : Nat} {sp : Sp} (F : Fun K x qual st f fd) (S : FnScope N ps (defScope st)) (len : ∀ vs H Q E, sp vs H Q E → vs.length = ps.length)
    (hbody : ∀ (cdv : Value) (A : Around) (outer : List Env) (s : Shared) (H : Hp) (vs : List V) (Q : VK) (E : XK), A.guards = some [] → Room k (A.deeper (envOfC qual (defScope st) s.heap.objs.size f cdv)) → sp vs H Q E →
      ∃ t, PSs (cxOf CX0 P w K mg base N qual (defScope st) f cdv A outer s H E).nox (defBody st) t ∧ t { nx := fun _ H' => Q .non H', rt := Q } (start N vs) H) : FnG P w K mg base (k + 1) f fd ps sp := by
  obtain ⟨oc, od, kV, doc, pm, an, cdv, ct, osl, rfl, lk, hcd⟩ := F.ex
  refine ⟨len, fun A gu hr outer s H args us vs Q E en bt rv hs => ?_⟩
  have inK : K.In s.heap := en.mod.kin.keeps fun b o h => (en.bs b o h).1
  have names : ∀ y ∈ ps.zip us, (defScope st).names.lookup y.1 = some .local ∨ ((defScope st).names.lookup y.1 = some .cell ∧ ((cellsFrom (s.heap.objs.size + 1) (defScope st).names []).lookup y.1).isSome = true) := by
    rintro ⟨n, v⟩ hy
    exact (S.par n (List.of_mem_zip hy).1).imp id fun q => ⟨q, PySem.W.cellsFrom_some _ _ _ (.inl q)⟩
  refine codeAny_call_function hr.depth (inK _ _ lk) rfl S.co S.gen rfl (PySem.W.codeRec_of inK hcd) (bt _ _ _ _ (wpAny_newFunctionEnv_cells S.kind names fun env he s1 inner => ?_))
  subst he
  refine ⟨(en.mod.nolimit.keeps fun b o h => (en.bs b o h).1).keeps inner.toInCall.keep, codeAny_func ?_⟩
  obtain ⟨t, ht, hq⟩ := hbody cdv A outer s H vs Q E gu (hr.deeper _) hs
  have start0 : Inv (cxOf CX0 P w K mg base N qual (defScope st) f cdv A outer s H E) [] (start N vs) H s1 := inv_start S hr.hd en (len _ _ _ _ hs) rv inner
  have leave : ∀ {σ' : L2.St} {H' : Hp} {v : V} {u : Value} {s' : Shared}, Inv (cxOf CX0 P w K mg base N qual (defScope st) f cdv A outer s H E) [] σ' H' s' → RelV v u → Q v H' → CE outer P w H s Q u s' :=
    fun {σ' H' v u s'} J r q => ⟨v, H', J.os, J.bare, J.base, J.hok, r, q⟩
  refine wpAny_mono (ht.nox.run [] s1 (start N vs) H _ start0 hq) (fun fl s' hs' => ?_) fun _ _ h => h
  rcases fl with _ | _ | _ | u
  · obtain ⟨σ', H', J, q⟩ := hs'
    exact leave (v := V.non) (u := Value.none) J rfl q
  · obtain ⟨_, _, _, q⟩ := hs'
    exact q.elim
  · obtain ⟨_, _, _, q⟩ := hs'
    exact q.elim
  · obtain ⟨v, σ', H', J, r, q⟩ := hs'
    exact leave J r q
end
/-! the law's own call, where nothing is under way -/
section
variable {P : Program} {w : World} {K : PySem.W.Frag} {mg mb : Str → Option Value} {k : Nat} {fa a : Addr} {fd : FuncData} {x : Str} {sp : Sp} {s1 : Shared} {vs : List Value} {ns : List Int}
abbrev EndG (h : Heap) (os : OsState) (r : Result) (s' : Shared) : Prop := r = .ok (.ret (.bool true)) ∧ OldK h s'.heap ∧ s'.os = os ∧ AllBare s'.gens
/-- from one abstract heap that tells the script alone, if at all -/
theorem callG_at (inK : K.In s1.heap) (top : s1.heap.Ns mainGlobals mg) (bl : s1.heap.Ns builtinsNs mb) (blb : ∀ x : Str, x ≠ "__name__" → mb x = bootBuiltins x) (nl : s1.heap.NoLimit) (ng : s1.gens = #[])
    (obj : s1.heap.get? a = some { cls := .type "list", data := .seq vs.toArray }) (hr : Room k callerA) (F : ∀ base : Heap, K.In base → base.Ns mainGlobals mg → FnG P w K mg base k fa fd [x] sp) (bind : ∀ (s : Shared) (u : Value), BindsTo s fd ⟨[u], []⟩ [(x, u)])
    {H : Hp} (only : Only H) (ok : HOk P w H s1.heap) (at_a : ∀ b, H b ≠ none → b = a) (own : H a ≠ none → K.lookup a = none) (q : sp [.ref a] H (fun v _ => v = .bl true) E0) :
    codeAny (model P w) callerA (.call (.ref fa) ⟨[.ref a], []⟩) (EndG s1.heap s1.os) s1 := by
  have told : ∀ b, H b = none ∨ b = a := fun b => (Classical.em (H b = none)).imp id (at_a b)
  have keepN : ∀ {b : Addr} {m : Str → Option Value}, s1.heap.Ns b m → (hidT s1.heap H).Ns b m := fun {b m} ⟨o, es, ep, e, d, r⟩ => ⟨o, es, ep, hidT_get e ((told b).elim id fun z => by
    subst z
    rw [obj] at e
    cases e
    cases (show Data.seq vs.toArray _ = Data.dict es ep from d)), d, r⟩
  have keepK : K.In (hidT s1.heap H) := fun b o e => hidT_get (inK b o e) ((told b).elim id fun z => by
    subst z
    exact Classical.byContradiction fun n => by
      rw [own n] at e
      cases e)
  have md : Mod K mg (hidT s1.heap H) := ⟨keepK, keepN top, ⟨mb, keepN bl, blb⟩, nl.imp fun _ h => ⟨keepN h.1, h.2⟩⟩
  have en : Env0 P w K mg (hidT s1.heap H) callerA [] s1 H := ⟨rfl, md, fun b o e => of_hidT e, Nat.le_of_eq (hidT_size _ _), trivial, fun b hb => (List.not_mem_nil hb).elim, ok, .of_eq ng⟩
  refine codeAny_mono ((F _ keepK (keepN top)).run callerA rfl hr [] s1 H ⟨[.ref a], []⟩ [.ref a] [.ref a] _ _ en (bind s1 (.ref a)) (.cons rfl .nil) q) fun r s' h => ?_
  rcases r with e | fl
  · exact (show False from h).elim
  · rcases fl with _ | _ | _ | u
    · exact (show False from h).elim
    · exact (show False from h).elim
    · exact (show False from h).elim
    · obtain ⟨v, H', os, bare, un, ok', rv, qv⟩ := h
      cases (show v = .bl true from qv)
      cases (show u = Value.bool true from rv)
      refine ⟨rfl, OldK.of_keep fun b o e => ?_, os, bare⟩
      rcases only b with z | ⟨ob, xs, z⟩
      · exact un.keep b o e z (List.not_mem_nil) (List.not_mem_nil)
      · have e1 := (ok b _ z).1
        have e2 := (ok' b _ (un.frzs b ob _ z)).1
        exact (Option.some.inj (e.symm.trans e1)) ▸ e2
theorem callG (inK : K.In s1.heap) (top : s1.heap.Ns mainGlobals mg) (bl : s1.heap.Ns builtinsNs mb) (blb : ∀ x : Str, x ≠ "__name__" → mb x = bootBuiltins x) (nl : s1.heap.NoLimit) (ng : s1.gens = #[])
    (obj : s1.heap.get? a = some { cls := .type "list", data := .seq vs.toArray }) (its0 : IntsAre vs ns) (small : ns.length ≤ sizeLine) (hr : Room k callerA) (F : ∀ base : Heap, K.In base → base.Ns mainGlobals mg → FnG P w K mg base k fa fd [x] sp)
    (bind : ∀ (s : Shared) (u : Value), BindsTo s fd ⟨[u], []⟩ [(x, u)]) (q : ∀ H : Hp, Only H → SqL K H a (ns.map V.int) → sp [.ref a] H (fun v _ => v = .bl true) E0) :
    codeAny (model P w) callerA (.call (.ref fa) ⟨[.ref a], []⟩) (EndG s1.heap s1.os) s1 := by
  have rv := vals_ints its0
  have lv := its0.length
  cases hk : K.lookup a with
  | some o =>
    have e := inK a o hk
    rw [obj] at e
    cases e
    have sq : SqL K (fun _ => none) a (ns.map V.int) := .inr ⟨_, vs.toArray, _, hk, rfl, rfl, rfl, by rw [List.size_toArray, lv]; exact small, by simpa using rv⟩
    exact callG_at inK top bl blb nl ng obj hr F bind (H := fun _ => none) (fun _ => .inl rfl) (fun b u z => nomatch (show (none : Option HO) = some u from z)) (fun b z => absurd rfl z) (fun z => absurd rfl z) (q _ (fun _ => .inl rfl) sq)
  | none =>
    generalize hH : (fun b => if b = a then some (HO.frz { cls := .type "list", data := .seq vs.toArray } (.lst (ns.map V.int))) else none : Hp) = H
    have here : H a = some (.frz { cls := .type "list", data := .seq vs.toArray } (.lst (ns.map V.int))) := by rw [← hH]; exact if_pos rfl
    have else_ : ∀ b, b ≠ a → H b = none := fun b n => by rw [← hH]; exact if_neg n
    have only : Only H := fun b => (Classical.em (b = a)).elim (fun e => .inr ⟨{ cls := .type "list", data := .seq vs.toArray }, ns.map V.int, by rw [e]; exact here⟩) fun n => .inl (else_ b n)
    refine callG_at inK top bl blb nl ng obj hr F bind only (fun b u z => ?_) (fun b z => Classical.byContradiction fun n => z (else_ b n)) (fun _ => hk) (q _ only (.inl (.inr ⟨_, here⟩)))
    by_cases e : b = a
    · subst e
      rw [here] at z
      cases z
      exact ⟨obj, by rw [List.length_map]; exact small, vs, _, rv, obj⟩
    · rw [else_ b e] at z
      cases z
end
/-- the goal behind the head of an open law, by a promise that may tell texts of lists -/
theorem walk_ofG {l : PySem.W.OpenLaw} {n k : Nat} {q : Program} {loose : List Str} {XP : (Str → Option Value) → Heap → Prop} {YP : World → Heap → Prop} {d : DefRec} {K : Params → PySem.W.Frag} {sp : World → Sp} {x : Str}
    (most : l.most = some n) (small : n ≤ sizeLine) (plain : d.params.defaults = []) (hr : Room k callerA) (inK : ∀ (w : World) (h : Heap), YP w h → (K w.params).In h)
    (F : ∀ (w : World) (mg : Str → Option Value) (fa : Addr) (h : Heap), (K w.params).In h → h.Ns mainGlobals mg → mg d.name = some (.ref fa) →
      ∃ fd : FuncData, (∀ (s : Shared) (u : Value), BindsTo s fd ⟨[u], []⟩ [(x, u)]) ∧ ∀ base : Heap, (K w.params).In base → base.Ns mainGlobals mg → FnG l.prog w (K w.params) mg base k fa fd [x] (sp w))
    (enter : ∀ (w : World) (H : Hp) (a : Addr) (ns : List Int), ns.length ≤ n → Only H → SqL (K w.params) H a (ns.map V.int) → sp w [.ref a] H (fun v _ => v = .bl true) E0) :
    PySem.W.WalkO q loose XP YP l.row.toRowW d [] (fun f vs => PySem.call f vs) := by
  refine Att.attach_call most plain fun w s₀ s₁ mg mb fa o pm cd doc a vs ns G Y ho hd hcd hmg obj its0 len ng => ?_
  obtain ⟨fd, bind, hF⟩ := F w mg fa _ (inK w _ Y) G.T.g hmg
  exact callG (inK w _ Y) G.T.g G.T.b G.T.builtins G.T.nolimit ng obj its0 (Nat.le_trans len small) hr hF bind fun H only sq => enter w H a ns len only sq
/-! repr of lists and tuples -/
def rReprD (K : PySem.W.Frag) : List V → Hp → VK → Prop := fun xs H Q => ∃ (a : Addr) (d : PyData), xs = [.ref a] ∧ Dp K H (.ref a) d ∧ d.showable = true ∧ d.hasDict = false ∧ d.depth ≤ 60 ∧ d.shown.length ≤ sizeLine ∧ Q (.str d.shown) H
theorem call_reprD {X : Cx} {k : Nat} (gu : X.A.guards = some []) (hr : Room k X.A) : CallR X (.builtin "repr") (rReprD X.K) := by
  intro pins s σ H xs us Q I r h
  obtain ⟨a, d, rfl, dp, sh, nd, dep, len, q⟩ := h
  obtain ⟨u, rfl, ru⟩ := r.one
  cases ru
  obtain ⟨as, rd⟩ := Dp.reads I d _ _ dp rfl
  have un := hr.un
  refine repr_of_reads' (h₀ := s.heap) rd sh (fun z => by rw [nd] at z; cases z) gu (by omega) (fun _ _ h => h) (fun h' u tk keep => ?_) len
  exact ⟨.str d.shown, H, I.kept keep, ⟨u, rfl⟩, q⟩
/-- repr of any plain data -/
def rReprA (K : PySem.W.Frag) : List V → Hp → VK → Prop := fun xs H Q => ∃ (x : V) (d : PyData), xs = [x] ∧ Dp K H x d ∧ d.showable = true ∧ d.hasDict = false ∧ d.depth ≤ 60 ∧ d.shown.length ≤ sizeLine ∧ Q (.str d.shown) H
theorem call_reprA {X : Cx} {k : Nat} (gu : X.A.guards = some []) (hr : Room k X.A) : CallR X (.builtin "repr") (rReprA X.K) := by
  intro pins s σ H xs us Q I r h
  obtain ⟨x, d, rfl, dp, sh, nd, dep, len, q⟩ := h
  have big : ∀ a, x = .ref a → wpAny (model X.prog X.w) X.A (call (.builtin "repr") us) (EP X pins σ Q) X.xe s := fun a e => by
    subst e
    exact call_reprD gu hr pins s σ H _ us Q I r ⟨a, d, rfl, dp, sh, nd, dep, len, q⟩
  cases dp with
  | non =>
    obtain ⟨u, rfl, ru⟩ := r.one
    cases (show u = Value.none from ru)
    exact P.repr_of_none ⟨.str PyData.none.shown, H, I.tok _, ⟨_, rfl⟩, q⟩
  | bl b =>
    obtain ⟨u, rfl, ru⟩ := r.one
    cases (show u = Value.bool b from ru)
    exact P.repr_of_bool ⟨.str (PyData.bool b).shown, H, I.tok _, ⟨_, rfl⟩, q⟩
  | int i =>
    obtain ⟨u, rfl, t, rfl⟩ := r.one
    exact P.repr_of_int (of_decide_eq_true sh) ⟨.str (PyData.int i).shown, H, I.tok _, ⟨_, rfl⟩, q⟩
  | str z =>
    obtain ⟨u, rfl, t, rfl⟩ := r.one
    exact P.repr_of_str ⟨.str (PyData.str z).shown, H, I.tok _, ⟨_, rfl⟩, q⟩ len
  | lst _ _ => exact big _ rfl
  | tup _ _ => exact big _ rfl
section
variable {K : PySem.W.Frag} {ms : List Addr} {H : Hp} {d : D} {x : V}
theorem rep_repr {P : PyData → Prop} (h : rep ms H d x) (p : plainD d = true) (sh : (pyOf d).showable = true) (nd : (pyOf d).hasDict = false) (dep : (pyOf d).depth ≤ 60) (len : (pyOf d).shown.length ≤ sizeLine) (q : P (pyOf d)) :
    ∃ (x' : V) (d : PyData), [x] = [x'] ∧ Dp K H x' d ∧ d.showable = true ∧ d.hasDict = false ∧ d.depth ≤ 60 ∧ d.shown.length ≤ sizeLine ∧ P d :=
  ⟨x, _, rfl, dp_of (K := K) d x p h, sh, nd, dep, len, q⟩
end
/-! [e for x in range(lo, hi) if test]; min and max of a list of ints -/
section
variable {β : Type} {K : PySem.W.Frag} {ms ps : List Addr} {cs : List (Addr × List V)} {H0 H1 : Hp} {g : TG} {tt : TT} {te : TE} {vl : List Nat} {σ : L2.St} {Qd : Hp → Prop}
theorem lf_rangeC {lo hi : Int} {N : Nat} {L : Addr} {eb : β → D} {body : Int → (Option β → Prop) → Prop} {KM : List β → Prop} (hN : N = (hi - lo).toNat) (w : Wd ms ps cs H0 H1) (nl : H1 L = none) (hM : (rangeI lo hi).length < 100000 ∧ filC body (rangeI lo hi) [] KM)
    (hs : ∀ (x : Int) (n : Nat) (ys : List β) (vs : List V) (k : Option β → Prop) (H : Hp), n < 100000 → Trn ms ps cs H0 H1 L eb n ys vs H → body x k → ∀ Nx : Hp → Prop,
        (∀ y vs' H', k (some y) → Trn ms ps cs H0 H1 L eb (n + 1) (ys ++ [y]) vs' H' → Nx H') → (∀ vs' H', k none → Trn ms ps cs H0 H1 L eb (n + 1) ys vs' H' → Nx H') →
      g (.int x) (wipe σ vl) H fun σ2 H2 => wipe σ2 vl = wipe σ vl ∧ tt σ2 H2 fun b H3 => if b = true then te σ2 H3 fun y H4 => ∃ acc, H4 L = some (.lst acc) ∧ acc.length < sizeLine ∧ Nx (upd H4 L (.lst (acc ++ [y]))) else Nx H3)
    (hd : ∀ ys H, KM ys → Wd ms ps cs H0 H → Keep ms H1 H → rep ms H (.lst (ys.map eb)) (.ref L) → Qd H) :
    ∃ W : Nat → Nat → Hp → Prop, (∃ m, W 0 m (upd H1 L (.lst []))) ∧ ∀ i m H, W i m H →
      ((Itr lo N).stop i H ∧ Qd H) ∨ ((Itr lo N).go i H ∧ ∃ Nx : Hp → Prop, (∀ H', Nx H' → ∃ m', m' < m ∧ W (i + 1) m' H') ∧ ∀ x H', (Itr lo N).yld i H x H' → g x (wipe σ vl) H' fun σ2 H2 => wipe σ2 vl = wipe σ vl ∧ tt σ2 H2 fun b H3 =>
        if b = true then te σ2 H3 fun y H4 => ∃ acc, H4 L = some (.lst acc) ∧ acc.length < sizeLine ∧ Nx (upd H4 L (.lst (acc ++ [y]))) else Nx H3) := by
  obtain ⟨hn, hM⟩ := hM
  subst hN
  rw [rangeI_len] at hn
  refine ⟨fun i m H => m = (hi - lo).toNat - i ∧ i ≤ (hi - lo).toNat ∧ ∃ ys vs, Trn ms ps cs H0 H1 L eb i ys vs H ∧ filC body ((rangeI lo hi).drop i) ys KM, ⟨_, rfl, Nat.zero_le _, [], [], Trn.start w nl, hM⟩, ?_⟩
  rintro i m H ⟨rfl, hi', ys, vs, T, q⟩
  by_cases hlt : i < (hi - lo).toNat
  · refine .inr ⟨hlt, fun H' => i + 1 ≤ (hi - lo).toNat ∧ ∃ ys vs, Trn ms ps cs H0 H1 L eb (i + 1) ys vs H' ∧ filC body ((rangeI lo hi).drop (i + 1)) ys KM, fun H' p' => ⟨_, by omega, rfl, p'⟩, fun x H' y => ?_⟩
    obtain ⟨e, y⟩ := y
    subst e y
    rw [drop_cons' (rangeI_get hlt)] at q
    exact hs _ i ys vs _ H' (by omega) T q _ (fun y vs' H' k T' => ⟨hlt, _, _, T', k⟩) fun vs' H' k T' => ⟨hlt, _, _, T', k⟩
  · have e : i = (hi - lo).toNat := by omega
    refine .inl ⟨by rw [e]; exact Nat.le_refl _, ?_⟩
    have q' : KM ys := by
      rw [List.drop_of_length_le (by rw [rangeI_len]; omega)] at q
      exact q
    obtain ⟨w', k', r'⟩ := T.done w nl
    exact hd ys H q' w' k' r'
variable {x : V} {H : Hp}
theorem rep_minL {ns : List Int} {P : List Int → Prop} (h : rep ms H (.lst (ns.map fun n => D.v (.int n))) x) (ne : 0 < ns.length) (q : P ns) :
    ∃ (a : Addr) (ns : List Int), [x] = [V.ref a] ∧ SqL K H a (ns.map V.int) ∧ 0 < ns.length ∧ P ns := by
  simp only [rep] at h
  obtain ⟨p, vs, e, _, hp, hr⟩ := h
  have ev := repL_ints hr
  subst ev e
  exact ⟨p, ns, rfl, .inl (.inl hp), ne, q⟩
end
/-! repr and str of own instances, by the class's own def -/
def rOwnText (C : Addr) (sp : Sp) (E : XK) : List V → Hp → VK → Prop := fun xs H Q => ∃ (x : V) (a dx : Addr) (fs : List (Str × V)), xs = [x] ∧ x = .ref a ∧ H a = some (.ins C dx fs) ∧ sp [x] H (fun v H' => ∃ z : Str, v = .str z ∧ Q v H') E
structure OwnText (K : PySem.W.Frag) (C : Addr) (name : Str) (f : Addr) : Prop where
  hs : PySem.W.findIn K (.ref C) name = some (some (.ref f))
  hf : PySem.W.isFn K (.ref f) = true
section
variable {X : Cx} {n : Nat} {CX : CXT} {C f : Addr} {fd : FuncData} {ps : List Str} {sp : Sp} {E : XK}
theorem ownText_run (F : FnOk X.prog X.w X.K X.mg X.base CX n f fd ps sp) {A : Around} (hr : Room n A) (hb : Binds X.K fd ps []) (hx : Passes CX X E) {pins : List (Addr × Obj)} {σ : L2.St} {H : Hp} {s : Shared} {a : Addr} {Q : VK} (I : Inv X pins σ H s)
    (en : Env0 X.prog X.w X.K X.mg X.base A X.stack s H) (h : sp [.ref a] H (fun v H' => ∃ z : Str, v = .str z ∧ Q v H') E) : wpAny (model X.prog X.w) A (call (.ref f) [.ref a]) (PySem.W.StrBack (EP X pins σ Q)) X.xe s := by
  have hl := F.len _ _ _ _ h
  have bt := hb s [.ref a] I.kIn (by rw [List.append_nil]; exact hl)
  rw [List.append_nil] at bt
  refine wpAny_call (codeAny_mono (F.run A X.stack s H ⟨[.ref a], []⟩ [.ref a] [.ref a] _ E hr en bt (.cons rfl .nil) h) fun out s' hq => ?_)
  rcases out with err | fl
  · exact hx pins σ H s err s' I hq
  · rcases fl with _ | _ | _ | u
    · exact hq.elim
    · exact hq.elim
    · exact hq.elim
    · obtain ⟨v, H', I', rv, z, ez, q⟩ := I.after hq
      subst ez
      obtain ⟨t, rfl⟩ := rv
      exact ⟨.str z, H', I', ⟨t, rfl⟩, q⟩
theorem call_reprOwn (F : FnOk X.prog X.w X.K X.mg X.base CX n f fd ps sp) (hr : Room (n + 1) X.A) (o : OwnText X.K C "__repr__" f) (hb : Binds X.K fd ps []) (hx : Passes CX X E) : CallR X (.builtin "repr") (rOwnText C sp E) := by
  intro pins s σ H xs us Q I r h
  obtain ⟨x, a, dx, fs, rfl, rfl, ha, hsp⟩ := h
  obtain ⟨u, rfl, ru⟩ := r.one
  cases ru
  obtain ⟨mA, J, _⟩ := ins_get I.hok ha
  obtain ⟨od, J, _⟩ := J.look
  obtain ⟨m, hF⟩ := I.fr
  exact PySem.W.repr_K hr.in1.units0 hF I.ok.mod.kin J o.hs o.hf (ownText_run F hr.in1 hb hx I I.env0.in1 hsp)
theorem call_strOwn (F : FnOk X.prog X.w X.K X.mg X.base CX n f fd ps sp) (hr : Room (n + 2) X.A) (o : OwnText X.K C "__str__" f) (hb : Binds X.K fd ps []) (hx : Passes CX X E) : CallR X (.type "str") (rOwnText C sp E) := by
  intro pins s σ H xs us Q I r h
  obtain ⟨x, a, dx, fs, rfl, rfl, ha, hsp⟩ := h
  obtain ⟨u, rfl, ru⟩ := r.one
  cases ru
  obtain ⟨mA, J, _⟩ := ins_get I.hok ha
  obtain ⟨od, J, _⟩ := J.look
  exact PySem.W.kso_call hr.in1.in1.units0 I.kIn J o.hs o.hf (ownText_run F hr.in1.in1 hb hx I I.env0.in1.in1 hsp)
end
theorem rep_ownText {ms : List Addr} {H : Hp} {C : Addr} {ns : List Str} {ds : List D} {u : V} {P : V → Prop} (h : rep ms H (.ins C ns ds) u) (k : P u) :
    ∃ (x : V) (a dx : Addr) (fs : List (Str × V)), [u] = [x] ∧ x = .ref a ∧ H a = some (.ins C dx fs) ∧ P x := by
  obtain ⟨p, dx, fs, e, hp⟩ := rep_ins h
  exact ⟨u, p, dx, fs, rfl, e, hp, k⟩
/-! results that may be None -/
def encO {α : Type} (e : α → D) : Option α → D
  | none => .v .non
  | some y => e y
theorem rep_isN {α : Type} {e : α → D} {ms : List Addr} {H : Hp} {m : Option α} {u : V} (he : ∀ y, ∃ ds, e y = .tup ds) (h : rep ms H (encO e m) u) : decide (u = .non) = m.isNone := by
  cases m with
  | none =>
    rw [of_v h]
    rfl
  | some y =>
    obtain ⟨ds, ed⟩ := he y
    have h' : rep ms H (e y) u := h
    rw [ed] at h'
    simp only [rep] at h'
    obtain ⟨p, _, e1, _⟩ := h'
    rw [e1]
    rfl
theorem rep_isSome {α : Type} {e : α → D} {ms : List Addr} {H : Hp} {m : Option α} {u : V} (he : ∀ y, ∃ ds, e y = .tup ds) (h : rep ms H (encO e m) u) : (!decide (u = .non)) = m.isSome := by
  rw [rep_isN he h]
  cases m <;> rfl
theorem rep_some {α : Type} {e : α → D} {ms : List Addr} {H : Hp} {m : Option α} {u : V} {y : α} (hy : m = some y) (h : rep ms H (encO e m) u) : rep ms H (e y) u := by
  subst hy
  exact h
/-! a def called by keywords alone -/
def tCallKw (n : Nat) (gV : List V → List V → List V) (sp : Sp) (E : XK) (tk : TA) : TE := fun σ H Q => tk σ H fun zs H1 => zs.length = n ∧ sp (gV [] zs) H1 Q E
theorem pe_callKw {X : Cx} {CX : CXT} {k : Nat} {f : Addr} {fd : FuncData} {ps ks : List Str} {sp : Sp} {E : XK} {x : Str} {p pos : Pos} {kws : List Keyword} {tk : TA} {g : List Value → List Value → List Value} {gV : List V → List V → List V}
    (F : FnOk X.prog X.w X.K X.mg X.base CX k f fd ps sp) (hr : Room k X.A) (hg : Gl X x) (hm : X.mg x = some (.ref f)) (hk : PySem.W.keepIn X.K (.ref f) = true) (hb : KBn X.K fd ps 0 ks g gV) (hx : Passes CX X E) (hkw : PK X kws tk)
    (hall : (backToKw pos (keywordEach kws X.env)).all (·.1.isSome) = true := by rfl) (hks : (backToKw pos (keywordEach kws X.env)).filterMap (·.1) = ks := by rfl) (hdb : (x == ("__debug__" : Str)) = false := by decide)
    (hpl : ((backTo pos (starEach [] X.env)).any (·.1) || (backToKw pos (keywordEach kws X.env)).any (·.1.isNone)) = false := by rfl) : PE X (.Call (.Name x p) [] kws pos) (tCallKw ks.length gV sp E tk) :=
  ⟨fun pins s σ H Q I h => wpAny_Call_Name_kw (ld_glob I hg hm (PySem.W.callWith_KW0 (first := []) (h₀ := X.base) I.ok.mod.kin hk hall (thn (hkw.run pos pins s σ H _ I h) fun ws s2 ⟨zs, H2, I2, rz, l2, q2⟩ => ⟨I2.kIn, by
    rw [hks]
    exact run_fnN (us := []) (vs := []) F hr hb hx I2 .nil rz rfl l2 q2⟩) hpl) hdb)⟩
end Rx
namespace Rx
open PySem PySem.Spec PyProof.Rows L2
section
variable {K : PySem.W.Frag} {ms ps : List Addr} {cs : List (Addr × List V)} {H0 H H1 H' : Hp} {x : V} {ds : List D}
theorem wd_none {p : Addr} (w : Wd ms ps cs H0 H) (np : H p = none) : H0 p = none := by
  cases q : H0 p with
  | none => rfl
  | some o => exact absurd np (w.grow p (by rw [q]; exact fun z => nomatch z))
def rLstOf (K : PySem.W.Frag) : List V → Hp → VK → Prop := fun xs H Q => ∃ p ys, xs = [.ref p] ∧ (SqL K H p ys ∨ SqT K H p ys) ∧ ∀ l, H l = none → Q (.ref l) (upd H l (.lst ys))
theorem rep_listT {P : List V → Prop} (h : rep ms H (.tup ds) x) (k : ∀ ys, repL ms H ds ys → P ys) :
    ∃ p ys, [x] = [.ref p] ∧ (SqL K H p ys ∨ SqT K H p ys) ∧ P ys := by
  simp only [rep] at h
  obtain ⟨p, vs, rfl, _, hp, hr⟩ := h
  exact ⟨p, vs, rfl, .inr (.inl (.inl hp)), k vs hr⟩
theorem rep_listL {P : List V → Prop} (h : rep ms H (.lst ds) x) (k : ∀ ys, repL ms H ds ys → P ys) :
    ∃ p ys, [x] = [.ref p] ∧ (SqL K H p ys ∨ SqT K H p ys) ∧ P ys := by
  simp only [rep] at h
  obtain ⟨p, vs, rfl, _, hp, hr⟩ := h
  exact ⟨p, vs, rfl, .inl (.inl (.inl hp)), k vs hr⟩
mutual
theorem rep_noL {L : Addr} {vs vs' : List V} (hL : H L = some (.lst vs)) : ∀ (d : D) (u : V), noL d = true → rep ms H d u → rep ms (upd H L (.lst vs')) d u
  | .v x, u, _, h => by
    simp only [rep] at h ⊢
    exact h
  | .lst ds, u, n, h => by
    simp only [noL] at n
    cases n
  | .tup ds, u, n, h => by
    simp only [noL] at n
    simp only [rep] at h ⊢
    obtain ⟨p, us, e, np, hp, hl⟩ := h
    refine ⟨p, us, e, np, ?_, repL_noL hL ds us n hl⟩
    rw [upd_ne (fun z => by rw [z, hL] at hp; cases hp)]
    exact hp
  | .ins C ns ds, u, n, h => by
    simp only [noL] at n
    simp only [rep] at h ⊢
    obtain ⟨p, dx, us, e, np, hp, hn, hl⟩ := h
    refine ⟨p, dx, us, e, np, ?_, hn, repL_noL hL ds us n hl⟩
    rw [upd_ne (fun z => by rw [z, hL] at hp; cases hp)]
    exact hp
  | .dct ks ds, u, n, h => by
    simp only [noL] at n
    simp only [rep] at h ⊢
    obtain ⟨p, us, e, np, hp, hn, hl⟩ := h
    refine ⟨p, us, e, np, ?_, hn, repL_noL hL ds us n hl⟩
    rw [upd_ne (fun z => by rw [z, hL] at hp; cases hp)]
    exact hp
  | .dcT ks ds, u, n, h => by
    simp only [noL] at n
    simp only [rep] at h ⊢
    obtain ⟨p, us, e, np, hp, hn, hl⟩ := h
    refine ⟨p, us, e, np, ?_, hn, repL_noL hL ds us n hl⟩
    rw [upd_ne (fun z => by rw [z, hL] at hp; cases hp)]
    exact hp
theorem repL_noL {L : Addr} {vs vs' : List V} (hL : H L = some (.lst vs)) : ∀ (ds : List D) (us : List V), noLs ds = true → repL ms H ds us → repL ms (upd H L (.lst vs')) ds us
  | [], us, _, h => by
    simp only [repL] at h ⊢
    exact h
  | d :: ds, us, n, h => by
    simp only [noLs, Bool.and_eq_true] at n
    simp only [repL] at h ⊢
    obtain ⟨u, ws, e, h1, h2⟩ := h
    exact ⟨u, ws, e, rep_noL hL d u n.1 h1, repL_noL hL ds ws n.2 h2⟩
end
theorem noLs_map {α : Type} {e : α → D} (hn : ∀ x, noL (e x) = true) : ∀ xs : List α, noLs (xs.map e) = true
  | [] => rfl
  | x :: xs => by
    show (noL (e x) && noLs (xs.map e)) = true
    rw [hn x, noLs_map hn xs]
    rfl
theorem repL_set {α : Type} {e : α → D} {y : α} {v : V} : ∀ {xs : List α} {vs : List V} (j : Nat), repL ms H (xs.map e) vs → rep ms H (e y) v → repL ms H ((xs.set j y).map e) (vs.set j v)
  | [], vs, j, h, r => by
    have ev : vs = [] := by
      simp only [List.map_nil, repL] at h
      exact h
    subst ev
    simpa using h
  | x :: xs, vs, 0, h, r => by
    simp only [List.map_cons, repL] at h
    obtain ⟨u, us, rfl, h1, h2⟩ := h
    exact repL_cons r h2
  | x :: xs, vs, j + 1, h, r => by
    simp only [List.map_cons, repL] at h
    obtain ⟨u, us, rfl, h1, h2⟩ := h
    exact repL_cons h1 (repL_set j h2 r)
/-- L, a list of this def's own, may be told anew -/
theorem wd_own {L : Addr} {vs vs' : List V} (w : Wd ms ps cs H0 H) (nm : L ∉ ms) (hL : H L = some (.lst vs)) (o : H0 L = none) : Wd ms ps cs H0 (upd H L (.lst vs')) := by
  refine ⟨fun a o' n h => ?_, fun a h => ?_, fun m h => ?_, fun a h => ?_, w.pm, fun c h => ?_⟩
  · rw [upd_ne (ne_of_none h o)]
    exact w.kp a o' n h
  · by_cases e : a = L
    · rw [e, upd_same]
      exact fun z => nomatch z
    · rw [upd_ne e]
      exact w.grow a h
  · rw [upd_ne (fun z => nm (by rw [← z]; exact h))]
    exact w.tr m h
  · obtain ⟨i, j, h1, h3⟩ := w.pot a h
    exact ⟨i, j, by rw [upd_ne (fun z => nm (by rw [← z]; exact w.pm a h))]; exact h1, h3⟩
  · obtain ⟨h1, h3, h4, h5⟩ := w.cel c h
    exact ⟨by rw [upd_ne (fun z => nm (by rw [← z]; exact h3))]; exact h1, h3, h4, h5⟩
theorem rep_setL {α : Type} {e : α → D} {xs : List α} {y : α} {k : Int} {v : V} {L : Addr} {Q : Hp → Prop} (w : Wd ms ps cs H0 H) (h : rep ms H (.lst (xs.map e)) (.ref L)) (o : H0 L = none) (hn : ∀ x, noL (e x) = true)
    (h0 : 0 ≤ k) (hj : k.toNat < xs.length) (r : rep ms H (e y) v)
    (kk : ∀ H', Wd ms ps cs H0 H' → rep ms H' (.lst ((xs.set k.toNat y).map e)) (.ref L) → (∀ d u, noL d = true → rep ms H d u → rep ms H' d u) → Q H') : rSetL (.ref L) (.int k) v H Q := by
  simp only [rep] at h
  obtain ⟨p, vs, e1, np, hp, hr⟩ := h
  cases e1
  have hl := repL_len hr
  rw [List.length_map] at hl
  refine ⟨L, vs, k, k.toNat, rfl, rfl, hp, ?_, kk _ (wd_own w np hp o) ?_ fun d u n h => rep_noL hp d u n h⟩
  · unfold ixN
    rw [if_pos h0, if_pos (by omega)]
  · simp only [rep]
    exact ⟨L, _, rfl, np, upd_same, repL_set _ (repL_noL hp _ _ (noLs_map hn xs) hr) (rep_noL hp _ _ (hn y) r)⟩
end

/-! rules whose reading names the frame itself (within a comprehension its context is not known to the reading) -/
section
variable {X : Cx} {K : PySem.W.Frag}
theorem ix_listK (hK : X.K = K) : IxR X (rIxL K) := by
  subst hK
  exact ix_list
theorem ix_tupK (hK : X.K = K) : IxR X (rIxT K) := by
  subst hK
  exact ix_tup
end
end Rx
namespace Rx
open PySem PySem.Spec PyProof.Rows L2
section
variable {K : PySem.W.Frag} {ms ms' ps : List Addr} {H0 H H' H1 : Hp} {L L' : Addr} {d d' : D} {ds : List D} {u x : V} {vs : List V}
/-- what stands at L -/
def valO (ms : List Addr) (H : Hp) (L : Addr) : D → Prop
  | .lst ds => ∃ vs, H L = some (.lst vs) ∧ repL ms H ds vs
  | .dct ks ds => ∃ vs, H L = some (.dK (ks.zip vs)) ∧ ks.length = vs.length ∧ repL ms H ds vs
  | .dcT ks ds => ∃ vs, H L = some (.dT (ks.zip vs)) ∧ ks.length = vs.length ∧ repL ms H ds vs
  | _ => False
theorem valO_map (f : ∀ p o, p ∉ ms → H p = some o → p ∉ ms' ∧ H' p = some o) (g : ∀ o, H L = some o → H' L = some o) : ∀ d : D, valO ms H L d → valO ms' H' L d
  | .lst ds, ⟨vs, h1, h2⟩ => ⟨vs, g _ h1, repL_map f ds vs h2⟩
  | .dct ks ds, ⟨vs, h1, h2, h3⟩ => ⟨vs, g _ h1, h2, repL_map f ds vs h3⟩
  | .dcT ks ds, ⟨vs, h1, h2, h3⟩ => ⟨vs, g _ h1, h2, repL_map f ds vs h3⟩
  | .v _, h => h
  | .tup _, h => h
  | .ins _ _ _, h => h
structure MutO (ms ps : List Addr) (H0 H : Hp) (L : Addr) (d : D) : Prop where
  im : L ∈ ms
  hp : L ∉ ps
  h0 : H0 L = none
  val : valO ms H L d
theorem MutO.some (m : MutO ms ps H0 H L d) : ∃ o, H L = some o := by
  have h := m.val
  cases d with
  | lst ds => exact ⟨_, h.choose_spec.1⟩
  | dct ks ds => exact ⟨_, h.choose_spec.1⟩
  | dcT ks ds => exact ⟨_, h.choose_spec.1⟩
  | v _ => exact h.elim
  | tup _ => exact h.elim
  | ins _ _ _ => exact h.elim
theorem mo_ret (w : Wd ms ps [] H0 H) (e : Ret ps H H') (m : MutO ms ps H0 H L d) : MutO ms ps H0 H' L d :=
  ⟨m.im, m.hp, m.h0, valO_map (fun p o n hp => ⟨n, e.kp p o (fun z => n (w.pm p z)) hp⟩) (fun o h => e.kp L o m.hp h) d m.val⟩
theorem mo_ext (e : Ret [] H H') (m : MutO ms ps H0 H L d) : MutO ms ps H0 H' L d :=
  ⟨m.im, m.hp, m.h0, valO_map (fun p o n hp => ⟨n, e.kp p o (by simp) hp⟩) (fun o h => e.kp L o (by simp) h) d m.val⟩
theorem mo_ne (nl : H L = none) (m : MutO ms ps H0 H L' d) : L' ≠ L := fun z => by
  obtain ⟨o, h⟩ := m.some
  rw [z, nl] at h
  cases h
theorem mo_cell {o : HO} (nl : H L = none) (m : MutO ms ps H0 H L' d) : MutO (L :: ms) ps H0 (upd H L o) L' d :=
  ⟨List.mem_cons_of_mem _ m.im, m.hp, m.h0, valO_map (fun p o n hp => ⟨fun z => by
    rcases List.mem_cons.mp z with z | z
    · exact ne_of_none hp nl z
    · exact n z, by rw [upd_ne (ne_of_none hp nl)]; exact hp⟩) (fun o h => by rw [upd_ne (mo_ne nl m)]; exact h) d m.val⟩
theorem mo_put {o : HO} (lm : L ∈ ms) (ne : L' ≠ L) (m : MutO ms ps H0 H L' d) : MutO ms ps H0 (upd H L o) L' d :=
  ⟨m.im, m.hp, m.h0, valO_map (fun p o n hp => ⟨n, by rw [upd_ne (fun z => n (by rw [z]; exact lm))]; exact hp⟩) (fun o h => by rw [upd_ne ne]; exact h) d m.val⟩
theorem mo_sub (s : ∀ a ∈ ms', a ∈ ms) (i : L ∈ ms') (m : MutO ms ps H0 H L d) : MutO ms' ps H0 H L d :=
  ⟨i, m.hp, m.h0, valO_map (fun p o n hp => ⟨fun z => n (s p z), hp⟩) (fun o h => h) d m.val⟩
theorem rep_sub (s : ∀ a ∈ ms', a ∈ ms) (h : rep ms H d u) : rep ms' H d u := rep_map (fun p o n hp => ⟨fun z => n (s p z), hp⟩) d u h
theorem wd_sub (s : ∀ a ∈ ms', a ∈ ms) (hp : ∀ a ∈ ps, a ∈ ms') (w : Wd ms ps [] H0 H) : Wd ms' ps [] H0 H :=
  ⟨w.kp, w.grow, fun m h => w.tr m (s m h), w.pot, hp, fun _ h => absurd h List.not_mem_nil⟩
theorem keep_sub (h : ∀ a ∈ ms, a ∈ ms' ∨ H1 a = none) (k : Keep ms H1 H) : Keep ms' H1 H := fun a o n e => k a o (fun z => by
  rcases h a z with z | z
  · exact n z
  · rw [z] at e
    cases e) e
theorem mo_rep (n : L ∉ ms') (s : ∀ a ∈ ms', a ∈ ms) (m : MutO ms ps H0 H L d) : rep ms' H d (.ref L) := by
  have h := m.val
  cases d with
  | lst ds =>
    obtain ⟨vs, h1, h2⟩ := h
    simp only [rep]
    exact ⟨L, vs, rfl, n, h1, repL_map (fun p o n hp => ⟨fun z => n (s p z), hp⟩) ds vs h2⟩
  | dct ks ds =>
    obtain ⟨vs, h1, h2, h3⟩ := h
    simp only [rep]
    exact ⟨L, vs, rfl, n, h1, h2, repL_map (fun p o n hp => ⟨fun z => n (s p z), hp⟩) ds vs h3⟩
  | dcT ks ds =>
    obtain ⟨vs, h1, h2, h3⟩ := h
    simp only [rep]
    exact ⟨L, vs, rfl, n, h1, h2, repL_map (fun p o n hp => ⟨fun z => n (s p z), hp⟩) ds vs h3⟩
  | v _ => exact h.elim
  | tup _ => exact h.elim
  | ins _ _ _ => exact h.elim
/-- a new thing of one's own -/
theorem wd_cell {o : HO} (w : Wd ms ps [] H0 H) (nl : H L = none) : Wd (L :: ms) ps [] H0 (upd H L o) := by
  have w1 := w.ret0 (Ext.new (o := o) nl)
  refine ⟨w1.kp, w1.grow, fun m h => ?_, w1.pot, fun a h => List.mem_cons_of_mem _ (w.pm a h), fun _ h => absurd h List.not_mem_nil⟩
  rcases List.mem_cons.mp h with rfl | h
  · rw [upd_same]
    exact fun z => nomatch z
  · exact w1.tr m h
theorem pot_new (w : Wd ms ps [] H0 H) (nl : H L = none) : L ∉ ps := fun z => by
  obtain ⟨i, j, h, _⟩ := w.pot L z
  rw [nl] at h
  cases h
theorem nm_new (w : Wd ms ps [] H0 H) (nl : H L = none) : L ∉ ms := fun z => w.tr L z nl
theorem mo_newL (w : Wd ms ps [] H0 H) (nl : H L = none) (r : repL ms H ds vs) : MutO (L :: ms) ps H0 (upd H L (.lst vs)) L (.lst ds) :=
  ⟨List.mem_cons_self, pot_new w nl, wd_none w nl, vs, upd_same, repL_map (fun p o n hp => ⟨fun z => by
    rcases List.mem_cons.mp z with z | z
    · exact ne_of_none hp nl z
    · exact n z, by rw [upd_ne (ne_of_none hp nl)]; exact hp⟩) _ _ r⟩
theorem mo_newD {ks : List Key} (w : Wd ms ps [] H0 H) (nl : H L = none) (hl : ks.length = vs.length) (r : repL ms H ds vs) : MutO (L :: ms) ps H0 (upd H L (.dK (ks.zip vs))) L (.dct ks ds) :=
  ⟨List.mem_cons_self, pot_new w nl, wd_none w nl, vs, upd_same, hl, repL_map (fun p o n hp => ⟨fun z => by
    rcases List.mem_cons.mp z with z | z
    · exact ne_of_none hp nl z
    · exact n z, by rw [upd_ne (ne_of_none hp nl)]; exact hp⟩) _ _ r⟩
/-- told anew -/
theorem wd_put {o : HO} (w : Wd ms ps [] H0 H) (m : MutO ms ps H0 H L d) : Wd ms ps [] H0 (upd H L o) := by
  refine ⟨fun a o' n h => ?_, fun a h => ?_, fun a h => ?_, fun a h => ?_, w.pm, fun _ h => absurd h List.not_mem_nil⟩
  · rw [upd_ne (ne_of_none h m.h0)]
    exact w.kp a o' n h
  · by_cases e : a = L
    · rw [e, upd_same]
      exact fun z => nomatch z
    · rw [upd_ne e]
      exact w.grow a h
  · by_cases e : a = L
    · rw [e, upd_same]
      exact fun z => nomatch z
    · rw [upd_ne e]
      exact w.tr a h
  · obtain ⟨i, j, h1, h3⟩ := w.pot a h
    exact ⟨i, j, by rw [upd_ne (fun z => m.hp (by rw [← z]; exact h))]; exact h1, h3⟩
theorem mo_setL (m : MutO ms ps H0 H L d) (r : repL ms H ds vs) : MutO ms ps H0 (upd H L (.lst vs)) L (.lst ds) :=
  ⟨m.im, m.hp, m.h0, vs, upd_same, repL_put m.im r⟩
theorem mo_appU {P : Addr → List V → V → Prop} (m : MutO ms ps H0 H L (.lst ds)) (hl : ds.length < 16777216) (k : ∀ vs, repL ms H ds vs → P L vs u) :
    ∃ (l : Addr) (xs : List V) (y : V), V.ref L = .ref l ∧ [u] = [y] ∧ H l = some (.lst xs) ∧ xs.length < sizeLine ∧ P l xs y := by
  obtain ⟨vs, h1, h2⟩ := m.val
  refine ⟨L, vs, u, rfl, rfl, h1, ?_, k vs h2⟩
  rw [← repL_len h2, sizeLine_eq]
  exact hl
theorem mo_tyL (m : MutO ms ps H0 H L (.lst ds)) : tyV K "list" (.ref L) H := by
  obtain ⟨vs, h1, h2⟩ := m.val
  exact .inl ⟨rfl, vs, .inl (.inl h1)⟩
theorem mo_setU {α : Type} {e : α → D} {xs : List α} {k : Int} {v : V} {Q : Hp → Prop} (m : MutO ms ps H0 H L (.lst (xs.map e))) (h0 : 0 ≤ k) (hj : k.toNat < xs.length)
    (kk : ∀ vs, repL ms H (xs.map e) vs → Q (upd H L (.lst (vs.set k.toNat v)))) : rSetL (.ref L) (.int k) v H Q := by
  obtain ⟨vs, h1, h2⟩ := m.val
  have hl := repL_len h2
  rw [List.length_map] at hl
  refine ⟨L, vs, k, k.toNat, rfl, rfl, h1, ?_, kk vs h2⟩
  unfold ixN
  rw [if_pos h0, if_pos (by omega)]
/-- a list of one's own, as the comprehension's end wants it -/
theorem mo_end {n : Nat} {Nx : Hp → Prop} (m : MutO ms ps H0 H L (.lst ds)) (hn : n < 100000) (hy : ds.length ≤ n) (h : ∀ vs, repL ms H ds vs → Nx (upd H L (.lst (vs ++ [u])))) :
    ∃ acc, H L = some (.lst acc) ∧ acc.length < sizeLine ∧ Nx (upd H L (.lst (acc ++ [u]))) := by
  obtain ⟨vs, h1, h2⟩ := m.val
  refine ⟨vs, h1, ?_, h vs h2⟩
  have q := repL_len h2
  have e : sizeLine = 16777216 := sizeLine_eq
  omega
theorem repL_snoc {α : Type} {e : α → D} {xs : List α} {y : α} (r : repL ms H (xs.map e) vs) (h : rep ms H (e y) u) : repL ms H ((xs ++ [y]).map e) (vs ++ [u]) := by
  rw [List.map_append]
  exact repL_app r (repL_one h)
theorem repL_cat {α : Type} {e : α → D} {xs ys : List α} {us : List V} (r : repL ms H (xs.map e) vs) (h : repL ms H (ys.map e) us) : repL ms H ((xs ++ ys).map e) (vs ++ us) := by
  rw [List.map_append]
  exact repL_app r h
end

/-! loops by any invariant -/
section
variable {α S : Type} {K : PySem.W.Frag} {H1 : Hp} {g : TG} {tb : TS} {D' : Ends} {σ : L2.St}
theorem for_rangeG {lo hi : Int} {N : Nat} {body : Int → S → (S → Prop) → Prop} {KM : S → Prop} (SI : S → L2.St → Hp → Prop) (s0 : S) (hN : N = (hi - lo).toNat) (hM : forC body (rangeI lo hi) s0 KM) (h0 : SI s0 σ H1)
    (hs : ∀ (x : Int) (s : S) (k : S → Prop) (σ : L2.St) (H : Hp), SI s σ H → body x s k → ∀ Nx : L2.St → Hp → Prop, (∀ s' σ' H', k s' → SI s' σ' H' → Nx σ' H') →
      g (.int x) σ H fun σ2 H2 => tb { D' with nx := Nx, ct := Nx, bk := D'.nx } σ2 H2)
    (hd : ∀ s σ H, KM s → SI s σ H → D'.nx σ H) :
    ∃ W : Nat → Nat → L2.St → Hp → Prop, (∃ m, W 0 m σ H1) ∧ ∀ i m σ H, W i m σ H →
      ((Itr lo N).stop i H ∧ D'.nx σ H) ∨ ((Itr lo N).go i H ∧ ∃ Nx : L2.St → Hp → Prop, (∀ σ' H', Nx σ' H' → ∃ m', m' < m ∧ W (i + 1) m' σ' H') ∧ ∀ x H', (Itr lo N).yld i H x H' → g x σ H' fun σ2 H2 => tb { D' with nx := Nx, ct := Nx, bk := D'.nx } σ2 H2) := by
  subst hN
  refine for_range (lo := lo) (n := (hi - lo).toNat) (D := D') (fun i σ H => ∃ s, SI s σ H ∧ forC body ((rangeI lo hi).drop i) s KM) ⟨s0, h0, hM⟩ (fun i σ H hi' ⟨s, si, q⟩ => ?_) (fun σ H ⟨s, si, q⟩ => ?_)
  · rw [drop_cons' (rangeI_get hi')] at q
    exact hs _ s _ σ H si q _ fun s' σ' H' hk si2 => ⟨s', si2, hk⟩
  · rw [List.drop_of_length_le (by rw [rangeI_len]; exact Nat.le_refl _)] at q
    exact hd s σ H q si
theorem for_listG {items : List α} {e : α → D} {ms : List Addr} {a : Addr} {xs : List V} {body : α → S → (S → Prop) → Prop} {KM : S → Prop} (SI : S → L2.St → Hp → Prop) (s0 : S) (an : a ∉ ms) (ha : H1 a = some (.lst xs)) (hx : repL ms H1 (items.map e) xs)
    (kp : ∀ s σ H, SI s σ H → Keep ms H1 H) (hM : forC body items s0 KM) (h0 : SI s0 σ H1)
    (hs : ∀ (x : α) (u : V) (s : S) (k : S → Prop) (σ : L2.St) (H : Hp), SI s σ H → rep ms H (e x) u → body x s k → ∀ Nx : L2.St → Hp → Prop, (∀ s' σ' H', k s' → SI s' σ' H' → Nx σ' H') →
      g u σ H fun σ2 H2 => tb { D' with nx := Nx, ct := Nx, bk := D'.nx } σ2 H2)
    (hd : ∀ s σ H, KM s → SI s σ H → D'.nx σ H) :
    ∃ W : Nat → Nat → L2.St → Hp → Prop, (∃ m, W 0 m σ H1) ∧ ∀ i m σ H, W i m σ H →
      ((Itl K a).stop i H ∧ D'.nx σ H) ∨ ((Itl K a).go i H ∧ ∃ Nx : L2.St → Hp → Prop, (∀ σ' H', Nx σ' H' → ∃ m', m' < m ∧ W (i + 1) m' σ' H') ∧ ∀ x H', (Itl K a).yld i H x H' → g x σ H' fun σ2 H2 => tb { D' with nx := Nx, ct := Nx, bk := D'.nx } σ2 H2) := by
  have hl : items.length = xs.length := by
    have := repL_len hx
    rwa [List.length_map] at this
  refine for_list (xs := xs) (D := D') (fun i σ H => ∃ s, SI s σ H ∧ forC body (items.drop i) s KM) ⟨s0, h0, hM⟩ (fun i σ H _ ⟨s, si, _⟩ => .inl (.inl (kp s σ H si a _ an ha))) (fun i x σ H hx' ⟨s, si, q⟩ => ?_) (fun σ H ⟨s, si, q⟩ => ?_)
  · have hi : i < xs.length := (List.getElem?_eq_some_iff.mp hx').1
    have hit : items[i]? = some (items[i]'(by omega)) := List.getElem?_eq_getElem (by omega)
    rw [drop_cons' hit] at q
    obtain ⟨v, hv, rv⟩ := repL_get (repL_keep (kp s σ H si) hx) (j := i) (d := e (items[i]'(by omega))) (by rw [List.getElem?_map, hit]; rfl)
    rw [hx'] at hv
    have ev : x = v := Option.some.inj hv
    subst ev
    exact hs _ x s _ σ H si rv q _ fun s' σ' H' hk si2 => ⟨s', si2, hk⟩
  · rw [List.drop_of_length_le (by omega)] at q
    exact hd s σ H q si
theorem while_G {c : TT} {fuel : Nat} {body : S → (S → Prop) → (S → Prop) → Prop} {KM : S → Prop} (SI : S → L2.St → Hp → Prop) (s0 : S) (hM : whileC body fuel s0 KM) (h0 : SI s0 σ H1)
    (hs : ∀ (s : S) (k1 k2 : S → Prop) (σ : L2.St) (H : Hp), SI s σ H → body s k1 k2 → ∀ (Nx : L2.St → Hp → Prop) (Ex : L2.St → Hp → Prop), (∀ s' σ' H', k1 s' → SI s' σ' H' → Nx σ' H') → (∀ s' σ' H', k2 s' → SI s' σ' H' → Ex σ' H') →
      c σ H fun b H1 => if b = true then tb { D' with nx := Nx, ct := Nx, bk := D'.nx } σ H1 else Ex σ H1)
    (hd : ∀ s σ H, KM s → SI s σ H → D'.nx σ H)
    (mono : ∀ σ H Q Q', (∀ b H1, Q b H1 → Q' b H1) → c σ H Q → c σ H Q') : tWhile c tb D' σ H1 := by
  refine ⟨fun m σ H => ∃ s, SI s σ H ∧ whileC body m s KM, ⟨fuel, s0, h0, hM⟩, ?_⟩
  rintro m σ H ⟨s, si, q⟩
  cases m with
  | zero => exact False.elim q
  | succ m =>
    refine mono _ _ _ _ (fun b H2 hb => ?_) (hs s _ _ σ H si q (fun σ' H' => ∃ s, SI s σ' H' ∧ whileC body m s KM) D'.nx (fun s' σ' H' hk si2 => ⟨s', si2, hk⟩) fun s' σ' H' hk si2 => hd s' σ' H' hk si2)
    cases b with
    | true => exact ⟨_, fun σ' H' p => ⟨m, Nat.lt_succ_self m, p⟩, hb⟩
    | false => exact hb
end

/-! comprehensions by any invariant -/
section
variable {α β : Type} {K : PySem.W.Frag} {H1 H2 : Hp} {g : TG} {tt : TT} {te : TE} {vl : List Nat} {σ : L2.St} {Qd : Hp → Prop} {L : Addr}
/-- one turn -/
abbrev Turn (g : TG) (tt : TT) (te : TE) (vl : List Nat) (σ : L2.St) (L : Addr) (u : V) (H : Hp) (Nx : Hp → Prop) : Prop :=
  g u (wipe σ vl) H fun σ2 H2 => wipe σ2 vl = wipe σ vl ∧ tt σ2 H2 fun b H3 => if b = true then te σ2 H3 fun y H4 => ∃ acc, H4 L = some (.lst acc) ∧ acc.length < sizeLine ∧ Nx (upd H4 L (.lst (acc ++ [y]))) else Nx H3
theorem lc_rangeG {lo hi : Int} {N : Nat} {body : Int → (β → Prop) → Prop} {KM : List β → Prop} (SI : Nat → List β → Hp → Prop) (hN : N = (hi - lo).toNat) (hM : (rangeI lo hi).length < 100000 ∧ mapC body (rangeI lo hi) [] KM) (h0 : SI 0 [] (upd H1 L (.lst [])))
    (hs : ∀ (x : Int) (n : Nat) (ys : List β) (k : β → Prop) (H : Hp), n < 100000 → SI n ys H → body x k → ∀ Nx : Hp → Prop, (∀ y H', k y → SI (n + 1) (ys ++ [y]) H' → Nx H') → Turn g tt te vl σ L (.int x) H Nx)
    (hd : ∀ n ys H, KM ys → SI n ys H → Qd H) :
    ∃ W : Nat → Nat → Hp → Prop, (∃ m, W 0 m (upd H1 L (.lst []))) ∧ ∀ i m H, W i m H →
      ((Itr lo N).stop i H ∧ Qd H) ∨ ((Itr lo N).go i H ∧ ∃ Nx : Hp → Prop, (∀ H', Nx H' → ∃ m', m' < m ∧ W (i + 1) m' H') ∧ ∀ x H', (Itr lo N).yld i H x H' → g x (wipe σ vl) H' fun σ2 H2 => wipe σ2 vl = wipe σ vl ∧ tt σ2 H2 fun b H3 =>
        if b = true then te σ2 H3 fun y H4 => ∃ acc, H4 L = some (.lst acc) ∧ acc.length < sizeLine ∧ Nx (upd H4 L (.lst (acc ++ [y]))) else Nx H3) := by
  obtain ⟨hn, hM⟩ := hM
  subst hN
  rw [rangeI_len] at hn
  refine ⟨fun i m H => m = (hi - lo).toNat - i ∧ i ≤ (hi - lo).toNat ∧ ∃ ys, SI i ys H ∧ mapC body ((rangeI lo hi).drop i) ys KM, ⟨_, rfl, Nat.zero_le _, [], h0, hM⟩, ?_⟩
  rintro i m H ⟨rfl, hi', ys, T, q⟩
  by_cases hlt : i < (hi - lo).toNat
  · refine .inr ⟨hlt, fun H' => i + 1 ≤ (hi - lo).toNat ∧ ∃ ys, SI (i + 1) ys H' ∧ mapC body ((rangeI lo hi).drop (i + 1)) ys KM, fun H' p' => ⟨_, by omega, rfl, p'⟩, fun x H' y => ?_⟩
    obtain ⟨e, y⟩ := y
    subst e y
    rw [drop_cons' (rangeI_get hlt)] at q
    exact hs _ i ys _ H' (by omega) T q _ fun y H' k T' => ⟨hlt, _, T', k⟩
  · have e : i = (hi - lo).toNat := by omega
    refine .inl ⟨by rw [e]; exact Nat.le_refl _, ?_⟩
    rw [List.drop_of_length_le (by rw [rangeI_len]; omega)] at q
    exact hd _ ys H q T
theorem lf_rangeG {lo hi : Int} {N : Nat} {body : Int → (Option β → Prop) → Prop} {KM : List β → Prop} (SI : Nat → List β → Hp → Prop) (hN : N = (hi - lo).toNat) (hM : (rangeI lo hi).length < 100000 ∧ filC body (rangeI lo hi) [] KM) (h0 : SI 0 [] (upd H1 L (.lst [])))
    (hs : ∀ (x : Int) (n : Nat) (ys : List β) (k : Option β → Prop) (H : Hp), n < 100000 → SI n ys H → body x k → ∀ Nx : Hp → Prop, (∀ y H', k (some y) → SI (n + 1) (ys ++ [y]) H' → Nx H') → (∀ H', k none → SI (n + 1) ys H' → Nx H') → Turn g tt te vl σ L (.int x) H Nx)
    (hd : ∀ n ys H, KM ys → SI n ys H → Qd H) :
    ∃ W : Nat → Nat → Hp → Prop, (∃ m, W 0 m (upd H1 L (.lst []))) ∧ ∀ i m H, W i m H →
      ((Itr lo N).stop i H ∧ Qd H) ∨ ((Itr lo N).go i H ∧ ∃ Nx : Hp → Prop, (∀ H', Nx H' → ∃ m', m' < m ∧ W (i + 1) m' H') ∧ ∀ x H', (Itr lo N).yld i H x H' → g x (wipe σ vl) H' fun σ2 H2 => wipe σ2 vl = wipe σ vl ∧ tt σ2 H2 fun b H3 =>
        if b = true then te σ2 H3 fun y H4 => ∃ acc, H4 L = some (.lst acc) ∧ acc.length < sizeLine ∧ Nx (upd H4 L (.lst (acc ++ [y]))) else Nx H3) := by
  obtain ⟨hn, hM⟩ := hM
  subst hN
  rw [rangeI_len] at hn
  refine ⟨fun i m H => m = (hi - lo).toNat - i ∧ i ≤ (hi - lo).toNat ∧ ∃ ys, SI i ys H ∧ filC body ((rangeI lo hi).drop i) ys KM, ⟨_, rfl, Nat.zero_le _, [], h0, hM⟩, ?_⟩
  rintro i m H ⟨rfl, hi', ys, T, q⟩
  by_cases hlt : i < (hi - lo).toNat
  · refine .inr ⟨hlt, fun H' => i + 1 ≤ (hi - lo).toNat ∧ ∃ ys, SI (i + 1) ys H' ∧ filC body ((rangeI lo hi).drop (i + 1)) ys KM, fun H' p' => ⟨_, by omega, rfl, p'⟩, fun x H' y => ?_⟩
    obtain ⟨e, y⟩ := y
    subst e y
    rw [drop_cons' (rangeI_get hlt)] at q
    exact hs _ i ys _ H' (by omega) T q _ (fun y H' k T' => ⟨hlt, _, T', k⟩) fun H' k T' => ⟨hlt, _, T', k⟩
  · have e : i = (hi - lo).toNat := by omega
    refine .inl ⟨by rw [e]; exact Nat.le_refl _, ?_⟩
    rw [List.drop_of_length_le (by rw [rangeI_len]; omega)] at q
    exact hd _ ys H q T
theorem lc_strG {z : Str} {body : Str → (β → Prop) → Prop} {KM : List β → Prop} (SI : Nat → List β → Hp → Prop) (hM : (signs z).length < 100000 ∧ mapC body (signs z) [] KM) (h0 : SI 0 [] (upd H1 L (.lst [])))
    (hs : ∀ (x : Str) (n : Nat) (ys : List β) (k : β → Prop) (H : Hp), n < 100000 → SI n ys H → body x k → ∀ Nx : Hp → Prop, (∀ y H', k y → SI (n + 1) (ys ++ [y]) H' → Nx H') → Turn g tt te vl σ L (.str x) H Nx)
    (hd : ∀ n ys H, KM ys → SI n ys H → Qd H) :
    ∃ W : Nat → Nat → Hp → Prop, (∃ m, W 0 m (upd H1 L (.lst []))) ∧ ∀ i m H, W i m H →
      ((Its z).stop i H ∧ Qd H) ∨ ((Its z).go i H ∧ ∃ Nx : Hp → Prop, (∀ H', Nx H' → ∃ m', m' < m ∧ W (i + 1) m' H') ∧ ∀ x H', (Its z).yld i H x H' → g x (wipe σ vl) H' fun σ2 H2 => wipe σ2 vl = wipe σ vl ∧ tt σ2 H2 fun b H3 =>
        if b = true then te σ2 H3 fun y H4 => ∃ acc, H4 L = some (.lst acc) ∧ acc.length < sizeLine ∧ Nx (upd H4 L (.lst (acc ++ [y]))) else Nx H3) := by
  obtain ⟨hn, hM⟩ := hM
  rw [signs_len] at hn
  refine ⟨fun i m H => m = z.cps.size - i ∧ i ≤ z.cps.size ∧ ∃ ys, SI i ys H ∧ mapC body ((signs z).drop i) ys KM, ⟨_, rfl, Nat.zero_le _, [], h0, hM⟩, ?_⟩
  rintro i m H ⟨rfl, hi', ys, T, q⟩
  by_cases hlt : i < z.cps.size
  · refine .inr ⟨hlt, fun H' => i + 1 ≤ z.cps.size ∧ ∃ ys, SI (i + 1) ys H' ∧ mapC body ((signs z).drop (i + 1)) ys KM, fun H' p' => ⟨_, by omega, rfl, p'⟩, fun x H' y => ?_⟩
    obtain ⟨e, c, hc, y⟩ := y
    subst e y
    rw [drop_cons' (signs_get hc)] at q
    exact hs _ i ys _ H' (by omega) T q _ fun y H' k T' => ⟨hlt, _, T', k⟩
  · have e : i = z.cps.size := by omega
    refine .inl ⟨by rw [e]; exact Nat.le_refl _, ?_⟩
    rw [List.drop_of_length_le (by rw [signs_len]; omega)] at q
    exact hd _ ys H q T
/-- over a list; the items stand outside what changes -/
theorem lc_listG {items : List α} {e : α → D} {ms : List Addr} {a : Addr} {xs : List V} {body : α → (β → Prop) → Prop} {KM : List β → Prop} (SI : Nat → List β → Hp → Prop) (an : a ∉ ms) (ha : H1 a = some (.lst xs)) (hx : repL ms H1 (items.map e) xs) (nl : H1 L = none)
    (kp : ∀ n ys H, SI n ys H → Keep (L :: ms) H1 H) (hM : items.length < 100000 ∧ mapC body items [] KM) (h0 : SI 0 [] (upd H1 L (.lst [])))
    (hs : ∀ (x : α) (u : V) (n : Nat) (ys : List β) (k : β → Prop) (H : Hp), n < 100000 → SI n ys H → rep (L :: ms) H (e x) u → body x k → ∀ Nx : Hp → Prop, (∀ y H', k y → SI (n + 1) (ys ++ [y]) H' → Nx H') → Turn g tt te vl σ L u H Nx)
    (hd : ∀ n ys H, KM ys → SI n ys H → Qd H) :
    ∃ W : Nat → Nat → Hp → Prop, (∃ m, W 0 m (upd H1 L (.lst []))) ∧ ∀ i m H, W i m H →
      ((Itl K a).stop i H ∧ Qd H) ∨ ((Itl K a).go i H ∧ ∃ Nx : Hp → Prop, (∀ H', Nx H' → ∃ m', m' < m ∧ W (i + 1) m' H') ∧ ∀ x H', (Itl K a).yld i H x H' → g x (wipe σ vl) H' fun σ2 H2 => wipe σ2 vl = wipe σ vl ∧ tt σ2 H2 fun b H3 =>
        if b = true then te σ2 H3 fun y H4 => ∃ acc, H4 L = some (.lst acc) ∧ acc.length < sizeLine ∧ Nx (upd H4 L (.lst (acc ++ [y]))) else Nx H3) := by
  obtain ⟨hn, hM⟩ := hM
  have hl : items.length = xs.length := by
    have := repL_len hx
    rwa [List.length_map] at this
  have aM : a ∉ L :: ms := fun z => by
    rcases List.mem_cons.mp z with z | z
    · exact ne_of_none ha nl z
    · exact an z
  have hx1 : repL (L :: ms) H1 (items.map e) xs := repL_new nl hx
  refine ⟨fun i m H => m = xs.length - i ∧ i ≤ xs.length ∧ ∃ ys, SI i ys H ∧ mapC body (items.drop i) ys KM, ⟨_, rfl, Nat.zero_le _, [], h0, hM⟩, ?_⟩
  rintro i m H ⟨rfl, hi', ys, T, q⟩
  have hA : H a = some (.lst xs) := kp i ys H T a _ aM ha
  by_cases hlt : i < xs.length
  · refine .inr ⟨⟨xs, xs[i], .inl (.inl hA), by simp [hlt]⟩, fun H' => i + 1 ≤ xs.length ∧ ∃ ys, SI (i + 1) ys H' ∧ mapC body (items.drop (i + 1)) ys KM, fun H' p' => ⟨_, by omega, rfl, p'⟩, fun x H' y => ?_⟩
    obtain ⟨e1, y⟩ := y
    subst e1
    have hxi := y xs (.inl (.inl hA))
    have hit : items[i]? = some (items[i]'(by omega)) := List.getElem?_eq_getElem (by omega)
    rw [drop_cons' hit] at q
    obtain ⟨v, hv, rv⟩ := repL_get (repL_keep (kp i ys H' T) hx1) (j := i) (d := e (items[i]'(by omega))) (by rw [List.getElem?_map, hit]; rfl)
    rw [hxi] at hv
    have ev : x = v := Option.some.inj hv
    subst ev
    exact hs _ x i ys _ H' (by omega) T rv q _ fun y H'' k T' => ⟨hlt, _, T', k⟩
  · refine .inl ⟨⟨xs, .inl (.inl hA), by omega⟩, ?_⟩
    rw [List.drop_of_length_le (by omega)] at q
    exact hd _ ys H q T
theorem lf_listG {items : List α} {e : α → D} {ms : List Addr} {a : Addr} {xs : List V} {body : α → (Option β → Prop) → Prop} {KM : List β → Prop} (SI : Nat → List β → Hp → Prop) (an : a ∉ ms) (ha : H1 a = some (.lst xs)) (hx : repL ms H1 (items.map e) xs) (nl : H1 L = none)
    (kp : ∀ n ys H, SI n ys H → Keep (L :: ms) H1 H) (hM : items.length < 100000 ∧ filC body items [] KM) (h0 : SI 0 [] (upd H1 L (.lst [])))
    (hs : ∀ (x : α) (u : V) (n : Nat) (ys : List β) (k : Option β → Prop) (H : Hp), n < 100000 → SI n ys H → rep (L :: ms) H (e x) u → body x k → ∀ Nx : Hp → Prop, (∀ y H', k (some y) → SI (n + 1) (ys ++ [y]) H' → Nx H') → (∀ H', k none → SI (n + 1) ys H' → Nx H') → Turn g tt te vl σ L u H Nx)
    (hd : ∀ n ys H, KM ys → SI n ys H → Qd H) :
    ∃ W : Nat → Nat → Hp → Prop, (∃ m, W 0 m (upd H1 L (.lst []))) ∧ ∀ i m H, W i m H →
      ((Itl K a).stop i H ∧ Qd H) ∨ ((Itl K a).go i H ∧ ∃ Nx : Hp → Prop, (∀ H', Nx H' → ∃ m', m' < m ∧ W (i + 1) m' H') ∧ ∀ x H', (Itl K a).yld i H x H' → g x (wipe σ vl) H' fun σ2 H2 => wipe σ2 vl = wipe σ vl ∧ tt σ2 H2 fun b H3 =>
        if b = true then te σ2 H3 fun y H4 => ∃ acc, H4 L = some (.lst acc) ∧ acc.length < sizeLine ∧ Nx (upd H4 L (.lst (acc ++ [y]))) else Nx H3) := by
  obtain ⟨hn, hM⟩ := hM
  have hl : items.length = xs.length := by
    have := repL_len hx
    rwa [List.length_map] at this
  have aM : a ∉ L :: ms := fun z => by
    rcases List.mem_cons.mp z with z | z
    · exact ne_of_none ha nl z
    · exact an z
  have hx1 : repL (L :: ms) H1 (items.map e) xs := repL_new nl hx
  refine ⟨fun i m H => m = xs.length - i ∧ i ≤ xs.length ∧ ∃ ys, SI i ys H ∧ filC body (items.drop i) ys KM, ⟨_, rfl, Nat.zero_le _, [], h0, hM⟩, ?_⟩
  rintro i m H ⟨rfl, hi', ys, T, q⟩
  have hA : H a = some (.lst xs) := kp i ys H T a _ aM ha
  by_cases hlt : i < xs.length
  · refine .inr ⟨⟨xs, xs[i], .inl (.inl hA), by simp [hlt]⟩, fun H' => i + 1 ≤ xs.length ∧ ∃ ys, SI (i + 1) ys H' ∧ filC body (items.drop (i + 1)) ys KM, fun H' p' => ⟨_, by omega, rfl, p'⟩, fun x H' y => ?_⟩
    obtain ⟨e1, y⟩ := y
    subst e1
    have hxi := y xs (.inl (.inl hA))
    have hit : items[i]? = some (items[i]'(by omega)) := List.getElem?_eq_getElem (by omega)
    rw [drop_cons' hit] at q
    obtain ⟨v, hv, rv⟩ := repL_get (repL_keep (kp i ys H' T) hx1) (j := i) (d := e (items[i]'(by omega))) (by rw [List.getElem?_map, hit]; rfl)
    rw [hxi] at hv
    have ev : x = v := Option.some.inj hv
    subst ev
    exact hs _ x i ys _ H' (by omega) T rv q _ (fun y H'' k T' => ⟨hlt, _, T', k⟩) fun H'' k T' => ⟨hlt, _, T', k⟩
  · refine .inl ⟨⟨xs, .inl (.inl hA), by omega⟩, ?_⟩
    rw [List.drop_of_length_le (by omega)] at q
    exact hd _ ys H q T
end
end Rx
namespace Rx
open PySem PySem.Spec PyProof.Rows L2
/-! a thing of one's own is let go -/
structure Drop (ms : List Addr) (L : Addr) (ms' : List Addr) : Prop where
  sub : ∀ a ∈ ms', a ∈ ms
  ex : ∀ a ∈ ms, a ∈ ms' ∨ a = L
theorem dr_here {L : Addr} {ms : List Addr} : Drop (L :: ms) L ms := ⟨fun _ h => List.mem_cons_of_mem _ h, fun a h => (List.mem_cons.mp h).elim .inr .inl⟩
theorem dr_cons {L x : Addr} {ms ms' : List Addr} (d : Drop ms L ms') : Drop (x :: ms) L (x :: ms') :=
  ⟨fun a h => (List.mem_cons.mp h).elim (fun e => by rw [e]; exact List.mem_cons_self) fun h => List.mem_cons_of_mem _ (d.sub a h), fun a h => (List.mem_cons.mp h).elim (fun e => .inl (by rw [e]; exact List.mem_cons_self)) fun h => (d.ex a h).imp (List.mem_cons_of_mem _) id⟩
theorem nm_cons {L x : Addr} {ms : List Addr} (ne : L ≠ x) (n : L ∉ ms) : L ∉ x :: ms := fun z => (List.mem_cons.mp z).elim ne n
section
variable {K : PySem.W.Frag} {ms ms' ps : List Addr} {H0 H H' H1 : Hp} {L L' : Addr} {d d' : D} {ds : List D} {u x : V} {vs : List V}
theorem nm_dr (dr : Drop ms L ms') (n : L' ∉ ms) : L' ∉ ms' := fun z => n (dr.sub _ z)
theorem keep_dr (dr : Drop ms L ms') (n : H1 L = none) (k : Keep ms H1 H) : Keep ms' H1 H := fun a o na e => k a o (fun z => by
  rcases dr.ex a z with z | z
  · exact na z
  · rw [z, n] at e
    cases e) e
theorem wd_dr (dr : Drop ms L ms') (hp : L ∉ ps) (w : Wd ms ps [] H0 H) : Wd ms' ps [] H0 H := wd_sub dr.sub (fun a h => (dr.ex a (w.pm a h)).elim id fun e => absurd (by rw [← e]; exact h) hp) w
theorem rep_dr (dr : Drop ms L ms') (h : rep ms H d u) : rep ms' H d u := rep_sub dr.sub h
theorem repL_dr (dr : Drop ms L ms') (h : repL ms H ds vs) : repL ms' H ds vs := repL_map (fun p o n hp => ⟨fun z => n (dr.sub p z), hp⟩) ds vs h
theorem mo_dr (dr : Drop ms L ms') (ne : L' ≠ L) (m : MutO ms ps H0 H L' d) : MutO ms' ps H0 H L' d := mo_sub dr.sub ((dr.ex _ m.im).elim id fun e => absurd e ne) m
theorem mo_rep_dr (dr : Drop ms L ms') (n : L ∉ ms') (m : MutO ms ps H0 H L d) : rep ms' H d (.ref L) := mo_rep n dr.sub m
mutual
def noM : D → Bool
  | .v _ => true
  | .lst _ => false
  | .tup ds => noMs ds
  | .ins _ _ ds => noMs ds
  | .dct _ _ => false
  | .dcT _ _ => false
def noMs : List D → Bool
  | [] => true
  | d :: ds => noM d && noMs ds
end
def isMo : Option HO → Prop
  | some (.lst _) => True
  | some (.dK _) => True
  | some (.dT _) => True
  | _ => False
theorem MutO.isMo (m : MutO ms ps H0 H L d) : isMo (H L) := by
  have h := m.val
  cases d with
  | lst ds =>
    rw [h.choose_spec.1]
    trivial
  | dct ks ds =>
    rw [h.choose_spec.1]
    trivial
  | dcT ks ds =>
    rw [h.choose_spec.1]
    trivial
  | v _ => exact h.elim
  | tup _ => exact h.elim
  | ins _ _ _ => exact h.elim
mutual
theorem rep_liftO (dr : Drop ms L ms') (hL : Rx.isMo (H L)) : ∀ (d : D) (u : V), noM d = true → rep ms' H d u → rep ms H d u
  | .v x, u, _, h => by
    simp only [rep] at h ⊢
    exact h
  | .lst ds, u, n, h => by
    simp only [noM] at n
    cases n
  | .dct _ ds, u, n, h => by
    simp only [noM] at n
    cases n
  | .dcT _ ds, u, n, h => by
    simp only [noM] at n
    cases n
  | .tup ds, u, n, h => by
    simp only [noM] at n
    simp only [rep] at h ⊢
    obtain ⟨p, us, e, np, hp, hl⟩ := h
    refine ⟨p, us, e, fun z => ?_, hp, repL_liftO dr hL ds us n hl⟩
    rcases dr.ex p z with z | z
    · exact np z
    · rw [← z, hp] at hL
      exact hL
  | .ins C ns ds, u, n, h => by
    simp only [noM] at n
    simp only [rep] at h ⊢
    obtain ⟨p, dx, us, e, np, hp, hn, hl⟩ := h
    refine ⟨p, dx, us, e, fun z => ?_, hp, hn, repL_liftO dr hL ds us n hl⟩
    rcases dr.ex p z with z | z
    · exact np z
    · rw [← z, hp] at hL
      exact hL
theorem repL_liftO (dr : Drop ms L ms') (hL : Rx.isMo (H L)) : ∀ (ds : List D) (us : List V), noMs ds = true → repL ms' H ds us → repL ms H ds us
  | [], us, _, h => by
    simp only [repL] at h ⊢
    exact h
  | d :: ds, us, n, h => by
    simp only [noMs, Bool.and_eq_true] at n
    simp only [repL] at h ⊢
    obtain ⟨u, ws, e, h1, h2⟩ := h
    exact ⟨u, ws, e, rep_liftO dr hL d u n.1 h1, repL_liftO dr hL ds ws n.2 h2⟩
end
theorem mo_ixN {α : Type} {e : α → D} {xs : List α} {i : Int} {y : α} {Q : VK} (m : MutO ms ps H0 H L (.lst (xs.map e))) (hi : atI xs i = some y) (k : ∀ v, rep ms H (e y) v → Q v H) : rIxL K (.ref L) (.int i) H Q := by
  obtain ⟨vs, hp, hr⟩ := m.val
  have hl := repL_len hr
  rw [List.length_map] at hl
  unfold atI at hi
  cases hx : ixN xs.length i with
  | none =>
    rw [hx] at hi
    cases hi
  | some j =>
    rw [hx] at hi
    have hi' : xs[j]? = some y := hi
    obtain ⟨v, hv, rv⟩ := repL_get (d := e y) hr (by rw [List.getElem?_map, hi']; rfl)
    refine ⟨L, vs, i, v, rfl, rfl, .inl (.inl hp), ?_, k v rv⟩
    unfold atI
    rw [← hl, hx]
    exact hv
theorem mo_len {α : Type} {e : α → D} {xs : List α} {P : Nat → Prop} (m : MutO ms ps H0 H L (.lst (xs.map e))) (k : P xs.length) : ∃ y n, [V.ref L] = [y] ∧ LenV K y H n ∧ P n := by
  obtain ⟨vs, hp, hr⟩ := m.val
  have hl := repL_len hr
  rw [List.length_map] at hl
  exact ⟨_, xs.length, rfl, .inl ⟨vs, .inl (.inl hp), hl⟩, k⟩
end
end Rx
namespace Rx
open PySem PySem.Spec PyProof.Rows L2
section
variable {K : PySem.W.Frag} {ms ms' ps : List Addr} {H0 H H' H1 : Hp} {L L' : Addr} {d d' : D} {ds : List D} {u x : V} {vs : List V}
theorem mo_extU {α : Type} {e : α → D} {ys : List α} {P : Addr → List V → List V → Prop} (m : MutO ms ps H0 H L (.lst ds)) (h : rep ms H (.lst (ys.map e)) x) (hl : ds.length + ys.length ≤ 16777216) (k : ∀ vs us, repL ms H ds vs → repL ms H (ys.map e) us → P L vs us) :
    ∃ (l b : Addr) (xs zs : List V), V.ref L = .ref l ∧ [x] = [.ref b] ∧ H l = some (.lst xs) ∧ H b = some (.lst zs) ∧ xs.length + zs.length ≤ sizeLine ∧ P l xs zs := by
  obtain ⟨vs, h1, h2⟩ := m.val
  simp only [rep] at h
  obtain ⟨p, us, rfl, _, hp, hr⟩ := h
  have a := repL_len h2
  have b := repL_len hr
  rw [List.length_map] at b
  refine ⟨L, p, vs, us, rfl, rfl, h1, hp, ?_, k vs us h2 hr⟩
  rw [sizeLine_eq]
  omega
theorem repL_erase {α : Type} {e : α → D} : ∀ {xs : List α} {vs : List V} (k : Nat), repL ms H (xs.map e) vs → repL ms H ((xs.eraseIdx k).map e) (vs.eraseIdx k)
  | [], vs, k, h => by
    have ev : vs = [] := by
      simp only [List.map_nil, repL] at h
      exact h
    subst ev
    simpa using h
  | x :: xs, vs, 0, h => by
    simp only [List.map_cons, repL] at h
    obtain ⟨u, us, rfl, _, h2⟩ := h
    exact h2
  | x :: xs, vs, k + 1, h => by
    simp only [List.map_cons, repL] at h
    obtain ⟨u, us, rfl, h1, h2⟩ := h
    exact repL_cons h1 (repL_erase k h2)
theorem mo_popU {α : Type} {e : α → D} {xs : List α} {i : Int} {y : α} {P : Addr → List V → Nat → V → Prop} (m : MutO ms ps H0 H L (.lst (xs.map e))) (h0 : 0 ≤ i) (hi : xs[i.toNat]? = some y) (hb : i < 2 ^ 63) (k : ∀ vs v, repL ms H (xs.map e) vs → rep ms H (e y) v → P L vs i.toNat v) :
    ∃ (l : Addr) (xs : List V) (i' : Int) (k : Nat) (y : V), V.ref L = .ref l ∧ [V.int i] = [.int i'] ∧ H l = some (.lst xs) ∧ -(2 ^ 63) ≤ i' ∧ i' < 2 ^ 63 ∧ seqIndex? i' xs.length = some k ∧ xs[k]? = some y ∧ P l xs k y := by
  obtain ⟨vs, h1, h2⟩ := m.val
  have hl := repL_len h2
  rw [List.length_map] at hl
  obtain ⟨v, hv, rv⟩ := repL_get (d := e y) h2 (by rw [List.getElem?_map, hi]; rfl)
  have lt := (List.getElem?_eq_some_iff.mp hi).1
  refine ⟨L, vs, i, i.toNat, v, rfl, rfl, h1, by omega, hb, ?_, hv, k vs v h2 rv⟩
  unfold seqIndex?
  first
    | (simp only []; split <;> first | rfl | (exfalso; omega))
    | (rw [if_neg (by omega), if_pos (by omega)])
    | (simp; omega)
end
/-! a comprehension that changes things: its state is carried -/
def mapS {α β S : Type} (body : α → S → (β → S → Prop) → Prop) : List α → List β → S → (List β → S → Prop) → Prop
  | [], acc, s, k => k acc s
  | x :: xs, acc, s, k => body x s fun y s' => mapS body xs (acc ++ [y]) s' k
section
variable {α β S : Type} {K : PySem.W.Frag} {H1 H2 : Hp} {g : TG} {tt : TT} {te : TE} {vl : List Nat} {σ : L2.St} {Qd : Hp → Prop} {L : Addr}
theorem lc_rangeS {lo hi : Int} {N : Nat} {body : Int → S → (β → S → Prop) → Prop} {KM : List β → S → Prop} (SI : Nat → List β → S → Hp → Prop) (s0 : S) (hN : N = (hi - lo).toNat) (hM : (rangeI lo hi).length < 100000 ∧ mapS body (rangeI lo hi) [] s0 KM) (h0 : SI 0 [] s0 (upd H1 L (.lst [])))
    (hs : ∀ (x : Int) (n : Nat) (ys : List β) (s : S) (k : β → S → Prop) (H : Hp), n < 100000 → SI n ys s H → body x s k → ∀ Nx : Hp → Prop, (∀ y s' H', k y s' → SI (n + 1) (ys ++ [y]) s' H' → Nx H') → Turn g tt te vl σ L (.int x) H Nx)
    (hd : ∀ n ys s H, KM ys s → SI n ys s H → Qd H) :
    ∃ W : Nat → Nat → Hp → Prop, (∃ m, W 0 m (upd H1 L (.lst []))) ∧ ∀ i m H, W i m H →
      ((Itr lo N).stop i H ∧ Qd H) ∨ ((Itr lo N).go i H ∧ ∃ Nx : Hp → Prop, (∀ H', Nx H' → ∃ m', m' < m ∧ W (i + 1) m' H') ∧ ∀ x H', (Itr lo N).yld i H x H' → g x (wipe σ vl) H' fun σ2 H2 => wipe σ2 vl = wipe σ vl ∧ tt σ2 H2 fun b H3 =>
        if b = true then te σ2 H3 fun y H4 => ∃ acc, H4 L = some (.lst acc) ∧ acc.length < sizeLine ∧ Nx (upd H4 L (.lst (acc ++ [y]))) else Nx H3) := by
  obtain ⟨hn, hM⟩ := hM
  subst hN
  rw [rangeI_len] at hn
  refine ⟨fun i m H => m = (hi - lo).toNat - i ∧ i ≤ (hi - lo).toNat ∧ ∃ ys s, SI i ys s H ∧ mapS body ((rangeI lo hi).drop i) ys s KM, ⟨_, rfl, Nat.zero_le _, [], s0, h0, hM⟩, ?_⟩
  rintro i m H ⟨rfl, hi', ys, s, T, q⟩
  by_cases hlt : i < (hi - lo).toNat
  · refine .inr ⟨hlt, fun H' => i + 1 ≤ (hi - lo).toNat ∧ ∃ ys s, SI (i + 1) ys s H' ∧ mapS body ((rangeI lo hi).drop (i + 1)) ys s KM, fun H' p' => ⟨_, by omega, rfl, p'⟩, fun x H' y => ?_⟩
    obtain ⟨e, y⟩ := y
    subst e y
    rw [drop_cons' (rangeI_get hlt)] at q
    exact hs _ i ys s _ H' (by omega) T q _ fun y s' H' k T' => ⟨hlt, _, _, T', k⟩
  · have e : i = (hi - lo).toNat := by omega
    refine .inl ⟨by rw [e]; exact Nat.le_refl _, ?_⟩
    rw [List.drop_of_length_le (by rw [rangeI_len]; omega)] at q
    exact hd _ ys s H q T
end
end Rx
namespace Rx
open PySem PySem.Spec PyProof.Rows L2
section
variable {ms : List Addr} {H : Hp} {x y : V}
theorem rep_catU {α : Type} {xs ys : List α} {e : α → D} {P : List V → List V → Prop} (h1 : rep ms H (.lst (xs.map e)) x) (h2 : rep ms H (.lst (ys.map e)) y) (hz : xs.length + ys.length ≤ sizeLine)
    (k : ∀ vs us, repL ms H (xs.map e) vs → repL ms H (ys.map e) us → P vs us) : ∃ p q vs us, x = .ref p ∧ y = .ref q ∧ H p = some (.lst vs) ∧ H q = some (.lst us) ∧ vs.length + us.length ≤ sizeLine ∧ P vs us := by
  simp only [rep] at h1 h2
  obtain ⟨p, vs, rfl, np, hp, r1⟩ := h1
  obtain ⟨q, us, rfl, nq, hq, r2⟩ := h2
  have l1 := repL_len r1
  have l2 := repL_len r2
  rw [List.length_map] at l1 l2
  exact ⟨p, q, vs, us, rfl, rfl, hp, hq, by rw [← l1, ← l2]; exact hz, k vs us r1 r2⟩
end
end Rx
namespace Rx
open PySem PySem.Spec PyProof.Rows L2
section
variable {K : PySem.W.Frag} {ms : List Addr} {H : Hp} {x y : V} {ds : List D} {vs : List V}
/-- what a list holds -/
theorem rep_lsU {P : List V → Prop} (h : rep ms H (.lst ds) x) (k : ∀ vs, repL ms H ds vs → P vs) : ∃ a xs, x = .ref a ∧ SqL K H a xs ∧ P xs := by
  simp only [rep] at h
  obtain ⟨p, vs, rfl, np, hp, hr⟩ := h
  exact ⟨p, vs, rfl, .inl (.inl hp), k vs hr⟩
theorem rep_tpU {P : List V → Prop} (h : rep ms H (.tup ds) x) (k : ∀ vs, repL ms H ds vs → P vs) : ∃ a xs, x = .ref a ∧ SqT K H a xs ∧ P xs := by
  simp only [rep] at h
  obtain ⟨p, vs, rfl, np, hp, hr⟩ := h
  exact ⟨p, vs, rfl, .inl (.inl hp), k vs hr⟩
theorem rep_iterT {ds : List D} {P : Addr → Prop} (h : rep ms H (.tup ds) x) (k : ∀ a xs, x = .ref a → a ∉ ms → H a = some (.tup xs) → repL ms H ds xs → P a) : ∃ a, x = .ref a ∧ (∃ xs, SqT K H a xs) ∧ P a := by
  simp only [rep] at h
  obtain ⟨p, vs, e, n, hp, hr⟩ := h
  exact ⟨p, e, ⟨vs, .inl (.inl hp)⟩, k p vs e n hp hr⟩
theorem repL_rev : ∀ {ds : List D} {vs : List V}, repL ms H ds vs → repL ms H ds.reverse vs.reverse
  | [], vs, h => by
    have e := repL_empty h
    subst e
    exact repL_nil
  | d :: ds, vs, h => by
    obtain ⟨u, us, rfl, h1, h2⟩ := repL_uncons h
    rw [List.reverse_cons, List.reverse_cons]
    exact repL_app (repL_rev h2) (repL_one h1)
theorem repL_revM {α : Type} {e : α → D} {xs : List α} (h : repL ms H (xs.map e) vs) : repL ms H (xs.reverse.map e) vs.reverse := by
  rw [List.map_reverse]
  exact repL_rev h
theorem repL_take : ∀ (n : Nat) {ds : List D} {vs : List V}, repL ms H ds vs → repL ms H (ds.take n) (vs.take n)
  | 0, _, _, _ => by
    rw [List.take_zero, List.take_zero]
    exact repL_nil
  | n + 1, [], vs, h => by
    have e := repL_empty h
    subst e
    exact repL_nil
  | n + 1, d :: ds, vs, h => by
    obtain ⟨u, us, rfl, h1, h2⟩ := repL_uncons h
    exact repL_cons h1 (repL_take n h2)
theorem repL_drop : ∀ (n : Nat) {ds : List D} {vs : List V}, repL ms H ds vs → repL ms H (ds.drop n) (vs.drop n)
  | 0, _, _, h => h
  | n + 1, [], vs, h => by
    have e := repL_empty h
    subst e
    exact repL_nil
  | n + 1, d :: ds, vs, h => by
    obtain ⟨u, us, rfl, h1, h2⟩ := repL_uncons h
    exact repL_drop n h2
/-- a slice -/
def cutM {α : Type} (xs : List α) (lo hi : Option Int) : List α := (xs.drop (HT.sIx xs.length 0 lo)).take (HT.sIx xs.length xs.length hi - HT.sIx xs.length 0 lo)
theorem repL_cut {α : Type} {e : α → D} {xs : List α} {lo hi : Option Int} (h : repL ms H (xs.map e) vs) : repL ms H ((cutM xs lo hi).map e) (cutV vs lo hi) := by
  have hl := repL_len h
  rw [List.length_map] at hl
  unfold cutM cutV
  rw [List.map_take, List.map_drop, hl]
  exact repL_take _ (repL_drop _ h)
end
/-! walks over tuples -/
section
variable {α β S : Type} {K : PySem.W.Frag} {H1 : Hp} {g : TG} {tt : TT} {te : TE} {vl : List Nat} {σ : L2.St} {Qd : Hp → Prop} {L : Addr}
theorem lc_tupG {items : List α} {e : α → D} {ms : List Addr} {a : Addr} {xs : List V} {body : α → (β → Prop) → Prop} {KM : List β → Prop} (SI : Nat → List β → Hp → Prop) (an : a ∉ ms) (ha : H1 a = some (.tup xs)) (hx : repL ms H1 (items.map e) xs) (nl : H1 L = none)
    (kp : ∀ n ys H, SI n ys H → Keep (L :: ms) H1 H) (hM : items.length < 100000 ∧ mapC body items [] KM) (h0 : SI 0 [] (upd H1 L (.lst [])))
    (hs : ∀ (x : α) (u : V) (n : Nat) (ys : List β) (k : β → Prop) (H : Hp), n < 100000 → SI n ys H → rep (L :: ms) H (e x) u → body x k → ∀ Nx : Hp → Prop, (∀ y H', k y → SI (n + 1) (ys ++ [y]) H' → Nx H') → Turn g tt te vl σ L u H Nx)
    (hd : ∀ n ys H, KM ys → SI n ys H → Qd H) :
    ∃ W : Nat → Nat → Hp → Prop, (∃ m, W 0 m (upd H1 L (.lst []))) ∧ ∀ i m H, W i m H →
      ((Itt K a).stop i H ∧ Qd H) ∨ ((Itt K a).go i H ∧ ∃ Nx : Hp → Prop, (∀ H', Nx H' → ∃ m', m' < m ∧ W (i + 1) m' H') ∧ ∀ x H', (Itt K a).yld i H x H' → g x (wipe σ vl) H' fun σ2 H2 => wipe σ2 vl = wipe σ vl ∧ tt σ2 H2 fun b H3 =>
        if b = true then te σ2 H3 fun y H4 => ∃ acc, H4 L = some (.lst acc) ∧ acc.length < sizeLine ∧ Nx (upd H4 L (.lst (acc ++ [y]))) else Nx H3) := by
  obtain ⟨hn, hM⟩ := hM
  have hl : items.length = xs.length := by
    have := repL_len hx
    rwa [List.length_map] at this
  have aM : a ∉ L :: ms := fun z => by
    rcases List.mem_cons.mp z with z | z
    · exact ne_of_none ha nl z
    · exact an z
  have hx1 : repL (L :: ms) H1 (items.map e) xs := repL_new nl hx
  refine ⟨fun i m H => m = xs.length - i ∧ i ≤ xs.length ∧ ∃ ys, SI i ys H ∧ mapC body (items.drop i) ys KM, ⟨_, rfl, Nat.zero_le _, [], h0, hM⟩, ?_⟩
  rintro i m H ⟨rfl, hi', ys, T, q⟩
  have hA : H a = some (.tup xs) := kp i ys H T a _ aM ha
  by_cases hlt : i < xs.length
  · refine .inr ⟨⟨xs, xs[i], .inl (.inl hA), by simp [hlt]⟩, fun H' => i + 1 ≤ xs.length ∧ ∃ ys, SI (i + 1) ys H' ∧ mapC body (items.drop (i + 1)) ys KM, fun H' p' => ⟨_, by omega, rfl, p'⟩, fun x H' y => ?_⟩
    obtain ⟨e1, y⟩ := y
    subst e1
    have hxi := y xs (.inl (.inl hA))
    have hit : items[i]? = some (items[i]'(by omega)) := List.getElem?_eq_getElem (by omega)
    rw [drop_cons' hit] at q
    obtain ⟨v, hv, rv⟩ := repL_get (repL_keep (kp i ys H' T) hx1) (j := i) (d := e (items[i]'(by omega))) (by rw [List.getElem?_map, hit]; rfl)
    rw [hxi] at hv
    have ev : x = v := Option.some.inj hv
    subst ev
    exact hs _ x i ys _ H' (by omega) T rv q _ fun y H'' k T' => ⟨hlt, _, T', k⟩
  · refine .inl ⟨⟨xs, .inl (.inl hA), by omega⟩, ?_⟩
    rw [List.drop_of_length_le (by omega)] at q
    exact hd _ ys H q T
end
end Rx
namespace Rx
open PySem PySem.Spec PyProof.Rows L2
/-! the same rules, their readings without the context -/
section
variable {X : Cx} {K : PySem.W.Frag}
theorem call_lenK (hK : X.K = K) : CallR X (.builtin "len") (fun xs H Q => ∃ x n, xs = [x] ∧ LenV K x H n ∧ Q (.int n) H) := by
  subst hK
  exact call_len
theorem call_isiK (hK : X.K = K) : CallR X (.builtin "isinstance") (rIsi K) := by
  subst hK
  exact call_isi
theorem sl_listK (hK : X.K = K) : SlR X (rSlL K) := by
  subst hK
  exact sl_list
theorem call_list_ofK (hK : X.K = K) : CallR X (.type "list") (fun xs H Q => ∃ p ys, xs = [.ref p] ∧ (SqL K H p ys ∨ SqT K H p ys) ∧ ∀ l, H l = none → Q (.ref l) (upd H l (.lst ys))) := by
  subst hK
  exact call_list_of
theorem cr_maxK (hK : X.K = K) (hc : X.calm = true) : CallR X (.builtin "max") (rMax K) := by
  subst hK
  exact cr_max hc
theorem cr_minK (hK : X.K = K) (hc : X.calm = true) : CallR X (.builtin "min") (rMin K) := by
  subst hK
  exact cr_min hc
theorem cr_anyK (hK : X.K = K) (hc : X.calm = true) : CallR X (.builtin "any") (rAny K) := by
  subst hK
  exact cr_any hc
theorem cr_allK (hK : X.K = K) (hc : X.calm = true) : CallR X (.builtin "all") (rAll K) := by
  subst hK
  exact cr_all hc
theorem op_eqDK (hK : X.K = K) (hu : X.A.units + 64 < cLine) : OpR X (compareOp .Eq) (rEqD K) := by
  subst hK
  exact op_eqD hu
theorem op_neDK (hK : X.K = K) (hu : X.A.units + 64 < cLine) : OpR X (compareOp .NotEq) (rNeD K) := by
  subst hK
  exact op_neD hu
theorem call_reprAK {k : Nat} (hK : X.K = K) (gu : X.A.guards = some []) (hr : Room k X.A) : CallR X (.builtin "repr") (rReprA K) := by
  subst hK
  exact call_reprA gu hr
theorem mt_lcountSK (hK : X.K = K) : MtR X "list.count" (rCntS K) := by
  subst hK
  exact mt_lcountS
end
end Rx
namespace Rx
open PySem PySem.Spec PyProof.Rows L2
section
variable {X : Cx} {K : PySem.W.Frag} {T name id : String} {o e : Expr} {es : List Expr} {r : V → List V → Hp → VK → Prop} {to : TE} {t : TA} {apos cpos : Pos}
theorem pe_bmK (hK : X.K = K) (pa : PlainAttrs T) (slot : Slot T name id) (hty : typeOf (.builtin id) = pure (.type "method_descriptor")) (hm : MtR X id r) (ho : PE X o to) (ha : PA X (e :: es) t)
    (hbase : attributeBase o name X.env (eval o X.env) = eval o X.env := by rfl)
    (hfew : ((backTo cpos (starEach (e :: es) X.env)).all (fun x => !x.1) && (backToKw cpos (keywordEach [] X.env)).all (fun x => x.1.isSome)
      && decide ((e :: es).length + ([] : List Keyword).length + (if ([] : List Keyword).isEmpty then 0 else 1) < 30)) = true := by rfl)
    (hline : (apos.endLine == cpos.line) = true := by rfl) (hs : starEach (e :: es) X.env = (false, eval e X.env) :: starEach es X.env := by rfl) (hplain : (backTo cpos (starEach es X.env)).any (·.1) = false := by rfl) :
    PE X (.Call (.Attribute o name apos) (e :: es) [] cpos) (tBM K T r to t) := by
  subst hK
  exact pe_bm pa slot hty hm ho ha hbase hfew hline hs hplain
end
end Rx
namespace Rx
open PySem PySem.Spec PyProof.Rows L2
section
variable {M : Model} {s : Shared} {K : PySem.W.Frag} {C : Addr}
theorem looksT {v : Value} {T : String} (h : s.TypeIs v T) : PySem.W.Looks M s.heap (typeOf v) (.type T) := fun A Q E s' k q => wpAny_typeOf (by
  cases v with
  | ref a =>
    obtain ⟨o, e, c⟩ := h
    exact ⟨o, k _ _ e, c⟩
  | _ => exact h) q
theorem sub_non : PySem.W.subIn K (.type "NoneType") (.ref C) = some false := by
  show ((fastBuiltinMro "NoneType").map _) = _
  rw [show fastBuiltinMro "NoneType" = some [.type "NoneType", .type "object"] by decide +kernel]
  simp
theorem sub_bool : PySem.W.subIn K (.type "bool") (.ref C) = some false := by
  show ((fastBuiltinMro "bool").map _) = _
  rw [show fastBuiltinMro "bool" = some [.type "bool", .type "int", .type "object"] by decide +kernel]
  simp
theorem sub_int : PySem.W.subIn K (.type "int") (.ref C) = some false := by
  show ((fastBuiltinMro "int").map _) = _
  rw [show fastBuiltinMro "int" = some [.type "int", .type "object"] by decide +kernel]
  simp
theorem sub_str : PySem.W.subIn K (.type "str") (.ref C) = some false := by
  show ((fastBuiltinMro "str").map _) = _
  rw [show fastBuiltinMro "str" = some [.type "str", .type "object"] by decide +kernel]
  simp
theorem sub_list : PySem.W.subIn K (.type "list") (.ref C) = some false := by
  show ((fastBuiltinMro "list").map _) = _
  rw [show fastBuiltinMro "list" = some [.type "list", .type "object"] by decide +kernel]
  simp
theorem sub_tuple : PySem.W.subIn K (.type "tuple") (.ref C) = some false := by
  show ((fastBuiltinMro "tuple").map _) = _
  rw [show fastBuiltinMro "tuple" = some [.type "tuple", .type "object"] by decide +kernel]
  simp
theorem sub_dict : PySem.W.subIn K (.type "dict") (.ref C) = some false := by
  show ((fastBuiltinMro "dict").map _) = _
  rw [show fastBuiltinMro "dict" = some [.type "dict", .type "object"] by decide +kernel]
  simp
theorem sub_ty {H : Hp} {x : V} {T : String} (t : TyB K H x T) (nb : ∀ b, x ≠ .byt b) : PySem.W.subIn K (.type T) (.ref C) = some false := by
  cases t with
  | non => exact sub_non
  | bl b => exact sub_bool
  | int i => exact sub_int
  | str z => exact sub_str
  | byt b => exact absurd rfl (nb b)
  | lst h => exact sub_list
  | tup h => exact sub_tuple
  | dK h => exact sub_dict
end
section
variable {M : Model} {prog : Program} {w : World} {A : Around} {E : Value → Shared → Prop} {s : Shared} {K : PySem.W.Frag} {x C : Addr} {uy : Value} {ox : Obj} {od : Option Obj}
theorem entry_objNeA {Q : Fin → Shared → Prop} (hu : A.units < cLine) (hcall : wpAny M A (callSpecialIfBound? (.ref x) (Str.ofString "__eq__") [uy]) (fun r s' => ∃ b, r = some (.bool b) ∧ Q (.done (.ret (.bool (!b)))) s') E s) :
    wpAny M A (Builtin.«object.__ne__» ⟨[.ref x, uy], []⟩) Q E s := by
  unfold Builtin.«object.__ne__»
  repeat (first
    | with_reducible refine wpAny_cRoomFor hu ?_
    | (refine wpAny_bind (m := callSpecialIfBound? (.ref x) (Str.ofString "__eq__") [uy])
        (wpAny_mono hcall (fun r s' hr => by
          obtain ⟨b, rfl, hq⟩ := hr
          repeat (first | exact hq | exact wpAny_pure hq | exact wpAny_truthy_bool hq | (refine wpAny_bind (m := truthy (.bool _)) (wpAny_truthy_bool ?_)) | wp_step)) fun _ _ e => e))
    | wp_step)
theorem call_objNeA {Q : Value → Shared → Prop} (X : K.In s.heap) (I : PySem.W.InstAt s.heap x ox C od) (hm : PySem.W.mroIn K C (.type "object") = some true) (hu : A.in1.units < cLine)
    (hcall : wpAny (model prog w) A.in1 (callSpecialIfBound? (.ref x) (Str.ofString "__eq__") [uy]) (fun r s' => ∃ b, r = some (.bool b) ∧ Q (.bool (!b)) s') E s) :
    wpAny (model prog w) A (call (.builtin "object.__ne__") [.ref x, uy]) Q E s := by
  refine wpAny_call (codeAny_call_builtin F.cmp_object.ne.plain F.cmpEntry_ne (PySem.W.check_slot F.cmpKind_ne F.cmpSplit_ne (I.type.andThen (PySem.W.looks_mroIn X hm)) (F.cmpArgs_ne _ _) (entry_objNeA hu (wpAny_mono hcall (fun r s' hr => ?_) fun _ _ e => e))))
  obtain ⟨b, rfl, hq⟩ := hr
  first | exact ⟨b, rfl, hq⟩ | exact ⟨b, rfl, wpAny_pure hq⟩
end
/-- not an instance -/
def noI : D → Bool
  | .v .non => true
  | .v (.bl _) => true
  | .v (.int _) => true
  | .v (.str _) => true
  | .v _ => false
  | .ins _ _ _ => false
  | .dcT _ _ => false
  | _ => true
theorem rep_TyB {K : PySem.W.Frag} {ms : List Addr} {H : Hp} {d : D} {u : V} (h : rep ms H d u) (n : noI d = true) : ∃ T, TyB K H u T ∧ (∀ b, u ≠ .byt b) ∧ TyX K H u (.type T) := by
  cases d with
  | v x =>
    obtain rfl := of_v h
    cases u <;> simp only [noI] at n
    · exact ⟨_, .non, (fun _ z => nomatch z), .base .non⟩
    · exact ⟨_, .bl _, (fun _ z => nomatch z), .base (.bl _)⟩
    · exact ⟨_, .int _, (fun _ z => nomatch z), .base (.int _)⟩
    · exact ⟨_, .str _, (fun _ z => nomatch z), .base (.str _)⟩
    all_goals cases n
  | lst ds =>
    simp only [rep] at h
    obtain ⟨p, vs, rfl, _, hp, _⟩ := h
    exact ⟨_, .lst (.inl (.inl hp)), (fun _ z => nomatch z), .base (.lst hp)⟩
  | tup ds =>
    simp only [rep] at h
    obtain ⟨p, vs, rfl, _, hp, _⟩ := h
    exact ⟨_, .tup (.inl (.inl hp)), (fun _ z => nomatch z), .base (.tup hp)⟩
  | dct ks ds =>
    simp only [rep] at h
    obtain ⟨p, vs, rfl, _, hp, _⟩ := h
    exact ⟨_, .dK hp, (fun _ z => nomatch z), .base (.dK hp)⟩
  | dcT _ _ => cases n
  | ins _ _ _ => cases n
/-- own == with any value that is no instance -/
def rOwnEqA (K : PySem.W.Frag) (C : Addr) (sp : Sp) (E : XK) : R2 := fun x y H Q => ∃ a dx fs T, x = .ref a ∧ H a = some (.ins C dx fs) ∧ TyB K H y T ∧ (∀ b, y ≠ .byt b) ∧ sp [x, y] H (fun v H' => ∃ r : Bool, v = .bl r ∧ Q v H') E
def rOwnNeA (K : PySem.W.Frag) (C : Addr) (sp : Sp) (E : XK) : R2 := fun x y H Q => ∃ a dx fs T, x = .ref a ∧ H a = some (.ins C dx fs) ∧ TyB K H y T ∧ (∀ b, y ≠ .byt b) ∧ sp [x, y] H (fun v H' => ∃ r : Bool, v = .bl r ∧ Q (.bl (!r)) H') E
theorem op_eqOwnA {X : Cx} {K : PySem.W.Frag} (hK : X.K = K) {n : Nat} {CX : CXT} {C f : Addr} {fd : FuncData} {ps : List Str} {sp : Sp} {E : XK} (F : FnOk X.prog X.w X.K X.mg X.base CX n f fd ps sp) (hr : Room n X.A)
    (o : OwnEq X.K C f) (hb : Binds X.K fd ps []) (hx : Passes CX X E) : OpR X (compareOp .Eq) (rOwnEqA K C sp E) := by
  subst hK
  intro pins s σ H x y v u Q I rx ry d
  show wpAny (model X.prog X.w) X.A (richCompare .Eq v u) (EP X pins σ Q) X.xe s
  obtain ⟨a, dx, fs, T, rfl, ha, ty, nb, hsp⟩ := d
  cases rx
  obtain ⟨mA, J, _⟩ := ins_get I.hok ha
  obtain ⟨od, J, _⟩ := J.look
  obtain ⟨m, hF⟩ := I.fr
  refine PySem.W.cmp_K (op := .Eq) (tb := .type T) hr.units0 hF I.ok.mod.kin J (looksT (ty.is I ry)) (by simp [PySem.W.notFirst, sub_ty ty nb]) o.hs o.hf ?_
  have hl := F.len _ _ _ _ hsp
  have r2 : Vals [V.ref a, y] [Value.ref a, u] := .cons rfl (.cons ry .nil)
  refine wpAny_call (codeAny_mono (F.run X.A X.stack s H ⟨[.ref a, u], []⟩ [.ref a, u] [.ref a, y] _ E hr I.env0 (by
    have := hb s [.ref a, u] I.kIn (by simpa using hl)
    simpa using this) r2 hsp) fun r s' hq => ?_)
  cases r with
  | error e => exact hx pins σ H s e s' I hq
  | ok fl =>
    cases fl with
    | ret w =>
      obtain ⟨z, H', I', rz, ⟨r, ez, q⟩⟩ := I.after hq
      subst ez
      cases (show w = Value.bool r from rz)
      exact ⟨.bl r, H', I', rfl, q⟩
    | next => exact False.elim hq
    | brk => exact False.elim hq
    | cont => exact False.elim hq
theorem op_neOwnA {X : Cx} {K : PySem.W.Frag} (hK : X.K = K) {n : Nat} {CX : CXT} {C f : Addr} {fd : FuncData} {ps : List Str} {sp : Sp} {E : XK} (F : FnOk X.prog X.w X.K X.mg X.base CX n f fd ps sp) (hr : Room (n + 1) X.A)
    (o : OwnEq X.K C f) (o' : OwnNe X.K C) (hb : Binds X.K fd ps []) (hx : Passes CX X E) : OpR X (compareOp .NotEq) (rOwnNeA K C sp E) := by
  subst hK
  intro pins s σ H x y v u Q I rx ry d
  show wpAny (model X.prog X.w) X.A (richCompare .NotEq v u) (EP X pins σ Q) X.xe s
  obtain ⟨a, dx, fs, T, rfl, ha, ty, nb, hsp⟩ := d
  cases rx
  obtain ⟨mA, J, _⟩ := ins_get I.hok ha
  obtain ⟨od, J, _⟩ := J.look
  have J' := looksT (M := model X.prog X.w) (ty.is I ry)
  have hl := F.len _ _ _ _ hsp
  have r2 : Vals [V.ref a, y] [Value.ref a, u] := .cons rfl (.cons ry .nil)
  have one : wpAny (model X.prog X.w) X.A (tryCompare (.ref a) (cmpInfo .NotEq).2.1 u) (fun r s' => ∃ v, r = some v ∧ EP X pins σ Q v s') X.xe s := by
    unfold tryCompare
    refine wpAny_bind (ifBound_objNe I.kIn J o'.hne (call_objNeA I.kIn J o'.hm hr.in1.units0 (PySem.W.ifBound_K I.kIn J o.hs o.hf ?_)))
    refine wpAny_call (codeAny_mono (F.run X.A.in1 X.stack s H ⟨[.ref a, u], []⟩ [.ref a, u] [.ref a, y] _ E hr.in1 I.env0.in1 (by
      have := hb s [.ref a, u] I.kIn (by simpa using hl)
      simpa using this) r2 hsp) fun r s' hq => ?_)
    cases r with
    | error e => exact hx pins σ H s e s' I hq
    | ok fl =>
      cases fl with
      | ret w =>
        obtain ⟨z, H', I', rz, ⟨r, ez, q⟩⟩ := I.after hq
        subst ez
        cases (show w = Value.bool r from rz)
        exact ⟨r, rfl, wpAny_pure ⟨_, rfl, .bl (!r), H', I', rfl, q⟩⟩
      | next => exact False.elim hq
      | brk => exact False.elim hq
      | cont => exact False.elim hq
  unfold richCompare
  simp only [oneThing_ref]
  refine wpAny_holding (wpAny_bind (wpAny_cRoomFor hr.units0 ?_))
  refine wpAny_bind (J.type.here (wpAny_bind (J'.here ?_)))
  rw [show (Value.ref C != Value.type T) = true from by simp]
  refine wpAny_bind ((PySem.W.looks_subIn I.kIn (sub_ty ty nb)).here ?_)
  simp only [Bool.false_eq_true, if_false]
  refine wpAny_bind (wpAny_mono one (fun r s' z => ?_) fun _ _ e => e)
  obtain ⟨v, rfl, hq⟩ := z
  exact wpAny_pure hq
section
variable {K : PySem.W.Frag} {ms : List Addr} {H : Hp} {x y : V} {d : D}
theorem rep_eqOwnA {C : Addr} {ns : List Str} {ds : List D} {sp : Sp} {E : XK} {Q : VK} (h1 : rep ms H (.ins C ns ds) x) (h2 : rep ms H d y) (n : noI d = true) (k : sp [x, y] H (fun v H' => ∃ r : Bool, v = .bl r ∧ Q v H') E) : rOwnEqA K C sp E x y H Q := by
  obtain ⟨p, dx, fs, e, hp⟩ := rep_ins h1
  obtain ⟨T, ty, nb, _⟩ := rep_TyB (K := K) h2 n
  subst e
  exact ⟨p, dx, fs, T, rfl, hp, ty, nb, k⟩
theorem rep_neOwnA {C : Addr} {ns : List Str} {ds : List D} {sp : Sp} {E : XK} {Q : VK} (h1 : rep ms H (.ins C ns ds) x) (h2 : rep ms H d y) (n : noI d = true) (k : sp [x, y] H (fun v H' => ∃ r : Bool, v = .bl r ∧ Q (.bl (!r)) H') E) : rOwnNeA K C sp E x y H Q := by
  obtain ⟨p, dx, fs, e, hp⟩ := rep_ins h1
  obtain ⟨T, ty, nb, _⟩ := rep_TyB (K := K) h2 n
  subst e
  exact ⟨p, dx, fs, T, rfl, hp, ty, nb, k⟩
/-- a class of the text's own, for isinstance that says no -/
structure IsN (K : PySem.W.Frag) (C : Addr) : Prop where
  ic : PySem.W.isClsIn K C = true
  ty : PySem.W.typeIn K (.ref C) = some (.type "type")
theorem rep_isN2 {C : Addr} {P : Bool → Prop} (h : rep ms H d x) (n : noI d = true) (c : IsN K C) (k : P false) :
    ∃ (x' c : V) (t u : Value) (b : Bool), [x, .ref C] = [x', c] ∧ ClsV c u ∧ TyX K H x' t ∧ PySem.W.kitOne K t u = some b ∧ P b := by
  obtain ⟨T, ty, nb, tx⟩ := rep_TyB (K := K) h n
  refine ⟨x, _, .type T, .ref C, false, rfl, .own C, tx, ?_, k⟩
  · unfold PySem.W.kitOne
    rw [if_neg (by simp)]
    show (if ((PySem.W.clsIn K C).isSome && PySem.W.typeIn K (.ref C) == some (.type "type")) = true then PySem.W.subIn K (.type T) (.ref C) else none) = some false
    rw [sub_ty ty nb]
    have h1 := c.ic
    unfold PySem.W.isClsIn at h1
    rw [h1, c.ty]
    simp
end
end Rx
namespace Rx
open PySem PySem.Spec PyProof.Rows L2
theorem pe_never {X : Cx} {e : Expr} : PE X e (fun _ _ _ => False) := ⟨fun _ _ _ _ _ _ h => h.elim⟩
section
variable {ms ps : List Addr} {cs : List (Addr × List V)} {H0 H H' : Hp} {u : V}
theorem rep_dynL {α : Type} {e : α → D} {xs : List α} (h : rep ms H (.lst (xs.map e)) u) : rep ms H (.lst ((xs.map e).map fun y : D => y)) u := by
  rw [List.map_id']
  exact h
theorem rep_dct0 {p : Addr} (w : Wd ms ps cs H0 H) (np : H p = none) (hp : H' p = some (.dK [])) : rep ms H' (.dct [] []) (.ref p) := by
  simp only [rep]
  exact ⟨p, [], rfl, fun z => w.tr p z np, hp, rfl, repL_nil⟩
end
end Rx
namespace Rx
open PySem PySem.Spec PyProof.Rows L2
section
variable {κ : Type} [DecidableEq κ]
theorem any_zip {k : κ} : ∀ {ks : List κ} {vs : List V}, ks.length = vs.length → ((ks.zip vs).any fun kv => decide (kv.1 = k)) = decide (k ∈ ks)
  | [], [], _ => by simp
  | k0 :: ks, v :: vs, h => by
    have ih := any_zip (k := k) (ks := ks) (vs := vs) (by simpa using h)
    rw [List.zip_cons_cons, List.any_cons, ih]
    by_cases e : k0 = k
    · subst e
      simp
    · have e' : k ≠ k0 := fun z => e z.symm
      simp [e, e']
  | [], _ :: _, h => by simp at h
  | _ :: _, [], h => by simp at h
theorem putK_new {k : κ} {v : V} {ks : List κ} {vs : List V} (h : ks.length = vs.length) (n : k ∉ ks) : putK (ks.zip vs) k v = (ks ++ [k]).zip (vs ++ [v]) := by
  unfold putK
  rw [any_zip h, if_neg (by simpa using n), List.zip_append h]
  rfl
theorem putK_old {k : κ} {v : V} : ∀ {ks : List κ} {vs : List V} {j : Nat}, ks.length = vs.length → ks.Nodup → ks[j]? = some k → putK (ks.zip vs) k v = ks.zip (vs.set j v) := by
  intro ks vs j h nd hj
  have hk : k ∈ ks := List.mem_of_getElem? hj
  unfold putK
  rw [any_zip h, if_pos (by simpa using hk)]
  induction ks generalizing vs j with
  | nil => simp at hj
  | cons k0 ks ih =>
    cases vs with
    | nil => simp at h
    | cons v0 vs =>
      have nd' := List.nodup_cons.mp nd
      cases j with
      | zero =>
        have e : k0 = k := Option.some.inj hj
        subst e
        rw [List.zip_cons_cons, List.map_cons, if_pos rfl, List.set_cons_zero, List.zip_cons_cons]
        congr 1
        conv => rhs; rw [← List.map_id (ks.zip vs)]
        refine List.map_congr_left fun q hq => ?_
        rw [if_neg]
        · rfl
        · intro z
          exact nd'.1 (by rw [← z]; exact (List.of_mem_zip (show (q.1, q.2) ∈ ks.zip vs from hq)).1)
      | succ j =>
        have hj' : ks[j]? = some k := by simpa using hj
        have ne : ¬ k0 = k := fun z => nd'.1 (by rw [z]; exact List.mem_of_getElem? hj')
        rw [List.zip_cons_cons, List.map_cons, if_neg ne, List.set_cons_succ, List.zip_cons_cons]
        congr 1
        exact ih (by simpa using h) nd'.2 hj' (List.mem_of_getElem? hj')
theorem valV_zip {k : κ} : ∀ {ks : List κ} {vs : List V} {j : Nat}, ks.Nodup → ks[j]? = some k → ks.length = vs.length → valV (ks.zip vs) k = vs[j]?
  | [], _, _, _, hj, _ => by simp at hj
  | k0 :: ks, [], _, _, _, h => by simp at h
  | k0 :: ks, v :: vs, 0, _, hj, _ => by
    have e : k0 = k := Option.some.inj hj
    subst e
    simp [valV]
  | k0 :: ks, v :: vs, j + 1, nd, hj, h => by
    have nd' := List.nodup_cons.mp nd
    have hj' : ks[j]? = some k := by simpa using hj
    have ne : ¬ k0 = k := fun z => nd'.1 (by rw [z]; exact List.mem_of_getElem? hj')
    rw [List.zip_cons_cons, valV_neg (p := (k0, v)) ne, valV_zip nd'.2 hj' (by simpa using h)]
    rfl
end
theorem mergeK_nodup : ∀ {more : List (Key × V)} {acc : List (Key × V)}, ((acc ++ more).map (·.1)).Nodup → mergeK acc more = acc ++ more
  | [], acc, _ => by simp [mergeK]
  | q :: more, acc, h => by
    have n : q.1 ∉ acc.map (·.1) := by
      rw [List.map_append, List.nodup_append] at h
      exact fun z => h.2.2 q.1 z q.1 (by simp) rfl
    have e : putK acc q.1 q.2 = acc ++ [q] := by
      unfold putK
      rw [if_neg]
      intro z
      obtain ⟨w, hw, ew⟩ := List.any_eq_true.mp z
      exact n (List.mem_map.mpr ⟨w, hw, of_decide_eq_true ew⟩)
    show mergeK (putK acc q.1 q.2) more = _
    rw [e, mergeK_nodup (by rw [List.append_assoc]; exact h), List.append_assoc]
    rfl
section
variable {K : PySem.W.Frag} {ms ps : List Addr} {H0 H H' H1 : Hp} {L : Addr} {d : D} {ds : List D} {u x y : V} {vs : List V} {ks : List Key} {k : Key}
theorem map_fst_zip' : ∀ {ks : List Key} {vs : List V}, ks.length = vs.length → (ks.zip vs).map (·.1) = ks
  | [], [], _ => rfl
  | k :: ks, v :: vs, h => by
    rw [List.zip_cons_cons, List.map_cons, map_fst_zip' (by simpa using h)]
  | [], _ :: _, h => by simp at h
  | _ :: _, [], h => by simp at h
theorem merge_zip (h : ks.length = vs.length) (nd : ks.Nodup) : mergeK [] (ks.zip vs) = ks.zip vs := by
  rw [mergeK_nodup (by rw [List.nil_append, map_fst_zip' h]; exact nd), List.nil_append]
/-- what a dict of one's own holds, as it is made -/
theorem mo_nilD (w : Wd ms ps [] H0 H) (nl : H L = none) : MutO (L :: ms) ps H0 (upd H L (.dK [])) L (.dct [] []) :=
  mo_newD (ks := []) (vs := []) (ds := []) w nl rfl repL_nil
theorem mo_dK0 (m : MutO ms ps H0 H L (.dct [] [])) : H L = some (.dK []) := by
  obtain ⟨vs, h1, h2, _⟩ := m.val
  rw [h1]
  simp
theorem mo_setD (m : MutO ms ps H0 H L d) (hl : ks.length = vs.length) (r : repL ms H ds vs) : MutO ms ps H0 (upd H L (.dK (ks.zip vs))) L (.dct ks ds) :=
  ⟨m.im, m.hp, m.h0, vs, upd_same, hl, repL_put m.im r⟩
/-- d[k] = v, a new key -/
theorem mo_putU {v : V} {Q : Hp → Prop} (m : MutO ms ps H0 H L (.dct ks ds)) (n : k ∉ ks) (hk : ks.length < 16777216)
    (q : ∀ vs, ks.length = vs.length → repL ms H ds vs → Q (upd H L (.dK ((ks ++ [k]).zip (vs ++ [v]))))) : rSetD (.ref L) (kV k) v H Q := by
  obtain ⟨vs, h1, h2, h3⟩ := m.val
  refine ⟨L, _, rfl, DPut.k h1 ?_, ?_⟩
  · rw [List.length_zip, ← h2, sizeLine_eq, Nat.min_self]
    exact hk
  · rw [putK_new h2 n]
    exact q vs h2 h3
/-- d[k] = v, a key that is there -/
theorem mo_putO {v : V} {Q : Hp → Prop} (j : Nat) (m : MutO ms ps H0 H L (.dct ks ds)) (nd : ks.Nodup) (hj : ks[j]? = some k) (hk : ks.length < 16777216)
    (q : ∀ vs, ks.length = (vs.set j v).length → repL ms H ds vs → Q (upd H L (.dK (ks.zip (vs.set j v))))) : rSetD (.ref L) (kV k) v H Q := by
  obtain ⟨vs, h1, h2, h3⟩ := m.val
  refine ⟨L, _, rfl, DPut.k h1 ?_, ?_⟩
  · rw [List.length_zip, ← h2, sizeLine_eq, Nat.min_self]
    exact hk
  · rw [putK_old h2 nd hj]
    exact q vs (by rw [List.length_set]; exact h2) h3
theorem repL_setD {v : V} {e : D} : ∀ {ds : List D} {vs : List V} (j : Nat), repL ms H ds vs → rep ms H e v → repL ms H (ds.set j e) (vs.set j v)
  | [], vs, j, h, r => by
    have ev := repL_empty h
    subst ev
    simpa using h
  | d :: ds, vs, 0, h, r => by
    obtain ⟨u, us, rfl, h1, h2⟩ := repL_uncons h
    exact repL_cons r h2
  | d :: ds, vs, j + 1, h, r => by
    obtain ⟨u, us, rfl, h1, h2⟩ := repL_uncons h
    exact repL_cons h1 (repL_setD j h2 r)
theorem dgetL (h1 : H L = some (.dK (ks.zip vs))) (nd : ks.Nodup) (hl : ks.length = vs.length) {j : Nat} (hj : ks[j]? = some k) {v : V} (hv : vs[j]? = some v) : DGet H L (kV k) (some v) := by
  have := DGet.k (k := k) h1
  rw [valV_zip nd hj hl, hv] at this
  exact this
/-- d[k], k a written key -/
theorem rep_dget {Q : VK} (j : Nat) (h : rep ms H (.dct ks ds) x) (nd : ks.Nodup) (hj : ks[j]? = some k) (hd : ds[j]? = some d) (q : ∀ v, rep ms H d v → Q v H) :
    ∃ a v, x = .ref a ∧ DGet H a (kV k) (some v) ∧ Q v H := by
  simp only [rep] at h
  obtain ⟨p, vs, rfl, _, hp, hl, hr⟩ := h
  obtain ⟨v, hv, rv⟩ := repL_get hr hd
  exact ⟨p, v, rfl, dgetL hp nd hl hj hv, q v rv⟩
theorem mo_dget {Q : VK} (j : Nat) (m : MutO ms ps H0 H L (.dct ks ds)) (nd : ks.Nodup) (hj : ks[j]? = some k) (hd : ds[j]? = some d) (q : ∀ v, rep ms H d v → Q v H) :
    ∃ a v, V.ref L = .ref a ∧ DGet H a (kV k) (some v) ∧ Q v H := by
  obtain ⟨vs, hp, hl, hr⟩ := m.val
  obtain ⟨v, hv, rv⟩ := repL_get hr hd
  exact ⟨L, v, rfl, dgetL hp nd hl hj hv, q v rv⟩
/-- d[k], any key: what is found -/
def getM {α : Type} (ks : List Key) (xs : List α) (k : Key) : Option α := ((ks.zip xs).find? fun q => decide (q.1 = k)).map (·.2)
theorem getM_at {α : Type} {y : α} : ∀ {ks : List Key} {xs : List α}, getM ks xs k = some y → ∃ j : Nat, ks[j]? = some k ∧ xs[j]? = some y
  | [], _, h => by simp [getM] at h
  | _ :: _, [], h => by simp [getM] at h
  | k0 :: ks, x :: xs, h => by
    by_cases e : k0 = k
    · subst e
      simp [getM] at h
      exact ⟨0, rfl, by rw [h]; rfl⟩
    · have h' : getM ks xs k = some y := by
        unfold getM at h ⊢
        rw [List.zip_cons_cons, List.find?_cons_of_neg (by simpa using e)] at h
        exact h
      obtain ⟨j, h1, h2⟩ := getM_at h'
      exact ⟨j + 1, by simpa using h1, by simpa using h2⟩
theorem rep_dgetM {α : Type} {e : α → D} {xs : List α} {y : α} {Q : VK} (h : rep ms H (.dct ks (xs.map e)) x) (nd : ks.Nodup) (hy : getM ks xs k = some y) (q : ∀ v, rep ms H (e y) v → Q v H) :
    ∃ a v, x = .ref a ∧ DGet H a (kV k) (some v) ∧ Q v H := by
  obtain ⟨j, h1, h2⟩ := getM_at hy
  exact rep_dget j h nd h1 (by rw [List.getElem?_map, h2]; rfl) q
/-- dict(list(d.items())) -/
theorem rep_items {Q : VK} (w : Wd ms ps [] H0 H) (h : rep ms H (.dct ks ds) x)
    (q : ∀ (H' : Hp) (p : Addr), Ret [] H H' → (∀ (r : List V → Hp → Prop), (∀ vs, ks.length = vs.length → repL ms H' ds vs → (∃ ps, SqL K H' p (ps.map V.ref) ∧ Paired (fun p kv => SqT K H' p [kV kv.1, kv.2]) ps (ks.zip vs)) → r vs H') → ∃ vs, ks.length = vs.length ∧ repL ms H' ds vs ∧ r vs H') → Q (.ref p) H') :
    ∃ (d : Addr) (kvs : List (Key × V)), x = .ref d ∧ H d = some (.dK kvs) ∧ ∀ (H' : Hp) (p : Addr) (ts : List Addr), (∀ b o, H b = some o → H' b = some o) → H p = none → (∀ t ∈ ts, H t = none) → p ∉ ts → H' p = some (.lst (ts.map V.ref)) → Paired (fun (t : Addr) (q : Key × V) => H' t = some (.tup [kV q.1, q.2])) ts kvs → Q (.ref p) H' := by
  simp only [rep] at h
  obtain ⟨d, vs, rfl, _, hp, hl, hr⟩ := h
  refine ⟨d, _, rfl, hp, fun H' p ts keep np nts pt hl' hpd => ?_⟩
  have e : Ret [] H H' := ⟨fun a o _ z => keep a o z, fun _ z => absurd z List.not_mem_nil, fun a z => by
    cases c : H a with
    | none => exact absurd c z
    | some o => rw [keep a o c]; exact fun z => nomatch z⟩
  refine q H' p e fun r hr' => ⟨vs, hl, repL_ext e hr, hr' vs hl (repL_ext e hr) ⟨ts, .inl (.inl hl'), ?_⟩⟩
  clear hr' hl' q hp
  generalize ks.zip vs = kvs at hpd
  induction hpd with
  | nil => exact .nil
  | cons a _ ih => exact .cons (.inl (.inl a)) (ih (fun t z => nts t (List.mem_cons_of_mem _ z)) fun z => pt (List.mem_cons_of_mem _ z))
end
end Rx
namespace Rx
open PySem PySem.Spec PyProof.Rows L2
section
variable {X : Cx} {K : PySem.W.Frag}
theorem call_dictPK (hK : X.K = K) (hcalm : X.calm = true) : CallR X (.type "dict") (fun xs H Q => ∃ (a : Addr) (ps : List Addr) (kvs : List (Key × V)), xs = [.ref a] ∧ SqL K H a (ps.map V.ref) ∧ Paired (fun p kv => SqT K H p [kV kv.1, kv.2]) ps kvs ∧
    ∀ p, H p = none → Q (.ref p) (upd H p (.dK (mergeK [] kvs)))) := by
  subst hK
  exact call_dictP hcalm
end
end Rx
namespace Rx
theorem nin_of {α : Type} {ks : List α} {k : α} (h : (ks ++ [k]).Nodup) : k ∉ ks := fun z => by
  rw [List.nodup_append] at h
  exact h.2.2 k z k (by simp) rfl
end Rx
namespace Rx
open PySem PySem.Spec PyProof.Rows L2
/-! a new instance, while its __init__ runs -/
section
variable {ms ps : List Addr} {H0 H H' He : Hp} {p L C dx : Addr} {d : D} {u : V} {fs : List (Str × V)} {o : HO}
structure KpI (p : Addr) (He H : Hp) : Prop where
  kp : ∀ a o, a ≠ p → He a = some o → H a = some o
  gr : ∀ a, He a ≠ none → H a ≠ none
theorem ki_refl : KpI p H H := ⟨fun _ _ _ h => h, fun _ h => h⟩
theorem ki_wd (k : KpI p He H0) (w : Wd ms [] [] H0 H) : KpI p He H := ⟨fun a o n h => w.kp a o (by simp) (k.kp a o n h), fun a h => w.grow a (k.gr a h)⟩
theorem ki_put (k : KpI p He H0) (w : Wd ms [] [] H0 H) : KpI p He (upd H p o) := ⟨fun a o' n h => by
  rw [upd_ne n]
  exact (ki_wd k w).kp a o' n h, fun a h => by
  by_cases e : a = p
  · rw [e, upd_same]
    exact fun z => nomatch z
  · rw [upd_ne e]
    exact (ki_wd k w).gr a h⟩
theorem wd_at (w : Wd ms [] [] H0 H) : Wd ms [] [] (upd H p o) (upd H p o) := ⟨fun _ _ _ h => h, fun _ h => h, fun m h => by
  by_cases e : m = p
  · rw [e, upd_same]
    exact fun z => nomatch z
  · rw [upd_ne e]
    exact w.tr m h, fun _ h => absurd h List.not_mem_nil, fun _ h => absurd h List.not_mem_nil, fun _ h => absurd h List.not_mem_nil⟩
theorem at_put (hp : H p = some (.ins C dx fs)) (m : MutO ms ps H0 H L d) : upd H L o p = some (.ins C dx fs) := by
  rw [upd_ne (fun z => ?_)]
  · exact hp
  · have h := m.isMo
    rw [← z, hp] at h
    exact h
theorem putF_zip {f : Str} {v : V} : ∀ {ns : List Str} {us : List V}, ns.length = us.length → f ∉ ns → putF f v (ns.zip us) = (ns ++ [f]).zip (us ++ [v])
  | [], [], _, _ => by simp [putF]
  | [], _ :: _, h, _ => by simp at h
  | _ :: _, [], h, _ => by simp at h
  | n :: ns, u :: us, h, nn => by
    have e : ¬ n = f := fun z => nn (by rw [z]; exact List.mem_cons_self)
    have ih := putF_zip (f := f) (v := v) (ns := ns) (us := us) (by simpa using h) fun z => nn (List.mem_cons_of_mem _ z)
    simp only [List.zip_cons_cons, List.cons_append]
    unfold putF
    rw [if_neg e, ih]
theorem mem_new (nl : H p = none) (h : rep ms H d u) (ndx : H dx = none) {o1 o2 : HO} : rep (p :: ms) (upd (upd H dx o1) p o2) d u :=
  rep_map (fun a o n hp => ⟨fun z => by
    rcases List.mem_cons.mp z with z | z
    · exact ne_of_none hp nl z
    · exact n z, by rw [upd_ne (ne_of_none hp nl), upd_ne (ne_of_none hp ndx)]; exact hp⟩) d u h
theorem wd_new (w : Wd ms ps cs H0 H) (nl : H p = none) (ndx : H dx = none) {o1 o2 : HO} : Wd (p :: ms) [] [] (upd (upd H dx o1) p o2) (upd (upd H dx o1) p o2) := ⟨fun _ _ _ h => h, fun _ h => h, fun m h => by
  by_cases e : m = p
  · rw [e, upd_same]
    exact fun z => nomatch z
  · rw [upd_ne e]
    by_cases e2 : m = dx
    · rw [e2, upd_same]
      exact fun z => nomatch z
    · rw [upd_ne e2]
      exact w.tr m ((List.mem_cons.mp h).elim (fun z => absurd z e) id), fun _ h => absurd h List.not_mem_nil, fun _ h => absurd h List.not_mem_nil, fun _ h => absurd h List.not_mem_nil⟩
theorem ext_new (k : KpI p (upd (upd H dx o1) p o2) H') (nl : H p = none) (ndx : H dx = none) : Ret [] H H' := ⟨fun a o _ h => k.kp a o (ne_of_none h nl) (by rw [upd_ne (ne_of_none h nl), upd_ne (ne_of_none h ndx)]; exact h), fun _ z => absurd z List.not_mem_nil, fun a h => k.gr a (by
  by_cases e : a = p
  · rw [e, upd_same]
    exact fun z => nomatch z
  · rw [upd_ne e]
    by_cases e2 : a = dx
    · rw [e2, upd_same]
      exact fun z => nomatch z
    · rw [upd_ne e2]
      exact h)⟩
theorem rep_insW (w : Wd ms ps cs H0 H) (np : H p = none) {ns : List Str} {us : List V} {ds : List D} (hp : H' p = some (.ins C dx (ns.zip us))) (hl : ns.length = us.length) (hr : repL (p :: ms) H' ds us) : rep ms H' (.ins C ns ds) (.ref p) := by
  simp only [rep]
  exact ⟨p, dx, us, rfl, fun z => w.tr p z np, hp, hl, repL_weak hr⟩
end
end Rx
namespace Rx
open PySem PySem.Spec PyProof.Rows L2
section
variable {K : PySem.W.Frag} {x qual : Str} {params : Arguments} {body : List Stmt} {scope : Scope} {dvs : List V} {f : Addr} {fd : FuncData} {ps : List Str}
/-- a def with defaults, called with all its arguments -/
theorem FunD_b0 (F : FunD K x qual params body scope dvs [] f fd) (hd : dvs ≠ [])
    (h : ∀ (T : Addr) (kV doc pm : Value) (an : Option Addr) (cdv ct : Value) (us its : List Value), us.length = ps.length → its.length = dvs.length →
      ∃ k, bindArgs (PySem.W.fnOf x qual params body scope (.ref T) kV doc pm an cdv ct) ⟨us, []⟩ = seqItems? (.ref T) >>= k ∧ k (some its.toArray) = pure (ps.zip us)) : Binds K fd ps [] := by
  obtain ⟨ds, rd, hb⟩ := F.binds1 (ps := ps) ps.length dvs.length hd (by omega) fun T kV doc pm an cdv ct us its h1 h2 => by
    obtain ⟨k, e1, e2⟩ := h T kV doc pm an cdv ct us its h1 h2
    refine ⟨k, e1, ?_⟩
    rw [e2, List.drop_of_length_le (by omega), List.append_nil]
  rw [List.drop_length] at rd
  cases rd
  exact hb
end
end Rx
namespace Rx
open PySem PySem.Spec PyProof.Rows L2
/-! x in a written dict, x there -/
def rInW (K : PySem.W.Frag) (w : World) (d : Addr) (b : Bool) : R2 := fun x y H Q => ∃ (z c : Str), x = .str z ∧ y = .ref d ∧ KDct K w d z (.str c) ∧ Q (.bl b) H
section
variable {X : Cx} {K : PySem.W.Frag} {w : World} {d : Addr}
theorem op_inW (hK : X.K = K) (hw : X.w = w) (low : (d == sysModules) = false) : OpR X (compareOp .In) (rInW K w d true) := by
  subst hK hw
  intro pins s σ H x y v u Q I rx ry h
  obtain ⟨z, c, rfl, rfl, ⟨es, n, u0, at_, lit, ns, ru⟩, q⟩ := h
  exact op_in_kd ⟨at_, lit, low⟩ pins s σ H _ _ v u Q I rx ry ⟨z, some u0, rfl, rfl, ns, q⟩
theorem op_ninW (hK : X.K = K) (hw : X.w = w) (low : (d == sysModules) = false) : OpR X (compareOp .NotIn) (rInW K w d false) := by
  subst hK hw
  intro pins s σ H x y v u Q I rx ry h
  obtain ⟨z, c, rfl, rfl, ⟨es, n, u0, at_, lit, ns, ru⟩, q⟩ := h
  exact op_notIn_kd ⟨at_, lit, low⟩ pins s σ H _ _ v u Q I rx ry ⟨z, some u0, rfl, rfl, ns, q⟩
theorem rep_inW {l : List (Str × Str)} {z c : Str} {b : Bool} {H : Hp} {σ : L2.St} {Q : VK} (t : ∀ z c : Str, l.lookup z = some c → KDct K w d z (.str c)) (h : l.lookup z = some c) (q : Q (.bl b) H) : tC (V.ref d) σ H fun y H2 => rInW K w d b (.str z) y H2 Q := ⟨z, c, rfl, rfl, t z c h, q⟩
end
end Rx
namespace Rx
open PySem PySem.Spec PyProof.Rows L2
/-! ranges with a step -/
def rangeS (lo hi c : Int) : List Int := (List.range (if lo < hi then (hi - lo - 1) / c + 1 else 0).toNat).map fun i => lo + ((i : Nat) : Int) * c
def RgB (lo hi : Int) : Prop := -(2 ^ 60) ≤ lo ∧ lo < 2 ^ 60 ∧ -(2 ^ 60) ≤ hi ∧ hi < 2 ^ 60
theorem rangeS_len {lo hi c : Int} : (rangeS lo hi c).length = (if lo < hi then (hi - lo - 1) / c + 1 else 0).toNat := by simp [rangeS]
theorem rangeS_get {lo hi c : Int} {i : Nat} (h : i < (rangeS lo hi c).length) : (rangeS lo hi c)[i]? = some (lo + (i : Int) * c) := by
  rw [rangeS_len] at h
  simp [rangeS, List.getElem?_map, List.getElem?_range h]
theorem rgS_size {lo hi c : Int} (hc : 0 < c) : Builtin.Range.rangeSize lo hi c = ((rangeS lo hi c).length : Int) := by
  rw [rangeS_len]
  unfold Builtin.Range.rangeSize
  rw [if_pos hc]
  split
  · have := Int.ediv_nonneg (a := hi - lo - 1) (b := c) (by omega) (by omega)
    omega
  · rfl
theorem rgS_small {lo hi c : Int} (hc : 0 < c) (hc2 : c < 2 ^ 30) (hb : RgB lo hi) : Builtin.Range.small lo hi c = true := by
  obtain ⟨h1, h2, h3, h4⟩ := hb
  have e : Builtin.Range.rangeSize lo hi c ≤ 2 ^ 61 ∧ 0 ≤ Builtin.Range.rangeSize lo hi c := by
    unfold Builtin.Range.rangeSize
    rw [if_pos hc]
    split
    · have a := Int.ediv_nonneg (a := hi - lo - 1) (b := c) (by omega) (by omega)
      have b := Int.ediv_le_self (a := hi - lo - 1) c (by omega)
      omega
    · omega
  unfold Builtin.Range.small
  have f : ∀ z : Int, -(2 ^ 62) ≤ z → z < 2 ^ 62 → Builtin.Range.rangeFitsLong z = true := by
    intro z a b
    unfold Builtin.Range.rangeFitsLong
    simp only [Bool.and_eq_true, decide_eq_true_eq]
    omega
  rw [f lo (by omega) (by omega), f hi (by omega) (by omega), f c (by omega) (by omega), f _ (by omega) (by omega), if_pos hc, f (hi + (c - 1)) (by omega) (by omega)]
  simp
theorem rgC_of {lo hi c : Int} (hc : 0 < c) (hc2 : c < 2 ^ 30) (hb : RgB lo hi) : RgC lo hi c (rangeS lo hi c).length :=
  ⟨by omega, by omega, rgS_small hc hc2 hb, rgS_size hc⟩
section
variable {α β : Type} {K : PySem.W.Frag} {H1 H2 : Hp} {g : TG} {tt : TT} {te : TE} {vl : List Nat} {σ : L2.St} {Qd : Hp → Prop} {L : Addr}
theorem lc_rangeTG {lo hi c : Int} {body : Int → (β → Prop) → Prop} {KM : List β → Prop} (SI : Nat → List β → Hp → Prop) (hM : (rangeS lo hi c).length < 100000 ∧ mapC body (rangeS lo hi c) [] KM) (h0 : SI 0 [] (upd H1 L (.lst [])))
    (hs : ∀ (x : Int) (n : Nat) (ys : List β) (k : β → Prop) (H : Hp), n < 100000 → SI n ys H → body x k → ∀ Nx : Hp → Prop, (∀ y H', k y → SI (n + 1) (ys ++ [y]) H' → Nx H') → Turn g tt te vl σ L (.int x) H Nx)
    (hd : ∀ n ys H, KM ys → SI n ys H → Qd H) :
    ∃ W : Nat → Nat → Hp → Prop, (∃ m, W 0 m (upd H1 L (.lst []))) ∧ ∀ i m H, W i m H →
      ((Itc lo c (rangeS lo hi c).length).stop i H ∧ Qd H) ∨ ((Itc lo c (rangeS lo hi c).length).go i H ∧ ∃ Nx : Hp → Prop, (∀ H', Nx H' → ∃ m', m' < m ∧ W (i + 1) m' H') ∧ ∀ x H', (Itc lo c (rangeS lo hi c).length).yld i H x H' → g x (wipe σ vl) H' fun σ2 H2 => wipe σ2 vl = wipe σ vl ∧ tt σ2 H2 fun b H3 =>
        if b = true then te σ2 H3 fun y H4 => ∃ acc, H4 L = some (.lst acc) ∧ acc.length < sizeLine ∧ Nx (upd H4 L (.lst (acc ++ [y]))) else Nx H3) := by
  obtain ⟨hn, hM⟩ := hM
  refine ⟨fun i m H => m = (rangeS lo hi c).length - i ∧ i ≤ (rangeS lo hi c).length ∧ ∃ ys, SI i ys H ∧ mapC body ((rangeS lo hi c).drop i) ys KM, ⟨_, rfl, Nat.zero_le _, [], h0, hM⟩, ?_⟩
  rintro i m H ⟨rfl, hi', ys, T, q⟩
  by_cases hlt : i < (rangeS lo hi c).length
  · refine .inr ⟨hlt, fun H' => i + 1 ≤ (rangeS lo hi c).length ∧ ∃ ys, SI (i + 1) ys H' ∧ mapC body ((rangeS lo hi c).drop (i + 1)) ys KM, fun H' p' => ⟨_, by omega, rfl, p'⟩, fun x H' y => ?_⟩
    obtain ⟨e, y⟩ := y
    subst e y
    rw [drop_cons' (rangeS_get hlt)] at q
    exact hs _ i ys _ H' (by omega) T q _ fun y H' k T' => ⟨hlt, _, T', k⟩
  · have e : i = (rangeS lo hi c).length := by omega
    refine .inl ⟨by rw [e]; exact Nat.le_refl _, ?_⟩
    rw [List.drop_of_length_le (by omega)] at q
    exact hd _ ys H q T
theorem lf_rangeTG {lo hi c : Int} {body : Int → (Option β → Prop) → Prop} {KM : List β → Prop} (SI : Nat → List β → Hp → Prop) (hM : (rangeS lo hi c).length < 100000 ∧ filC body (rangeS lo hi c) [] KM) (h0 : SI 0 [] (upd H1 L (.lst [])))
    (hs : ∀ (x : Int) (n : Nat) (ys : List β) (k : Option β → Prop) (H : Hp), n < 100000 → SI n ys H → body x k → ∀ Nx : Hp → Prop, (∀ y H', k (some y) → SI (n + 1) (ys ++ [y]) H' → Nx H') → (∀ H', k none → SI (n + 1) ys H' → Nx H') → Turn g tt te vl σ L (.int x) H Nx)
    (hd : ∀ n ys H, KM ys → SI n ys H → Qd H) :
    ∃ W : Nat → Nat → Hp → Prop, (∃ m, W 0 m (upd H1 L (.lst []))) ∧ ∀ i m H, W i m H →
      ((Itc lo c (rangeS lo hi c).length).stop i H ∧ Qd H) ∨ ((Itc lo c (rangeS lo hi c).length).go i H ∧ ∃ Nx : Hp → Prop, (∀ H', Nx H' → ∃ m', m' < m ∧ W (i + 1) m' H') ∧ ∀ x H', (Itc lo c (rangeS lo hi c).length).yld i H x H' → g x (wipe σ vl) H' fun σ2 H2 => wipe σ2 vl = wipe σ vl ∧ tt σ2 H2 fun b H3 =>
        if b = true then te σ2 H3 fun y H4 => ∃ acc, H4 L = some (.lst acc) ∧ acc.length < sizeLine ∧ Nx (upd H4 L (.lst (acc ++ [y]))) else Nx H3) := by
  obtain ⟨hn, hM⟩ := hM
  refine ⟨fun i m H => m = (rangeS lo hi c).length - i ∧ i ≤ (rangeS lo hi c).length ∧ ∃ ys, SI i ys H ∧ filC body ((rangeS lo hi c).drop i) ys KM, ⟨_, rfl, Nat.zero_le _, [], h0, hM⟩, ?_⟩
  rintro i m H ⟨rfl, hi', ys, T, q⟩
  by_cases hlt : i < (rangeS lo hi c).length
  · refine .inr ⟨hlt, fun H' => i + 1 ≤ (rangeS lo hi c).length ∧ ∃ ys, SI (i + 1) ys H' ∧ filC body ((rangeS lo hi c).drop (i + 1)) ys KM, fun H' p' => ⟨_, by omega, rfl, p'⟩, fun x H' y => ?_⟩
    obtain ⟨e, y⟩ := y
    subst e y
    rw [drop_cons' (rangeS_get hlt)] at q
    exact hs _ i ys _ H' (by omega) T q _ (fun y H' k T' => ⟨hlt, _, T', k⟩) fun H' k T' => ⟨hlt, _, T', k⟩
  · have e : i = (rangeS lo hi c).length := by omega
    refine .inl ⟨by rw [e]; exact Nat.le_refl _, ?_⟩
    rw [List.drop_of_length_le (by omega)] at q
    exact hd _ ys H q T
theorem lc_rangeTS {lo hi c : Int} {body : Int → S → (β → S → Prop) → Prop} {KM : List β → S → Prop} (SI : Nat → List β → S → Hp → Prop) (s0 : S) (hM : (rangeS lo hi c).length < 100000 ∧ mapS body (rangeS lo hi c) [] s0 KM) (h0 : SI 0 [] s0 (upd H1 L (.lst [])))
    (hs : ∀ (x : Int) (n : Nat) (ys : List β) (s : S) (k : β → S → Prop) (H : Hp), n < 100000 → SI n ys s H → body x s k → ∀ Nx : Hp → Prop, (∀ y s' H', k y s' → SI (n + 1) (ys ++ [y]) s' H' → Nx H') → Turn g tt te vl σ L (.int x) H Nx)
    (hd : ∀ n ys s H, KM ys s → SI n ys s H → Qd H) :
    ∃ W : Nat → Nat → Hp → Prop, (∃ m, W 0 m (upd H1 L (.lst []))) ∧ ∀ i m H, W i m H →
      ((Itc lo c (rangeS lo hi c).length).stop i H ∧ Qd H) ∨ ((Itc lo c (rangeS lo hi c).length).go i H ∧ ∃ Nx : Hp → Prop, (∀ H', Nx H' → ∃ m', m' < m ∧ W (i + 1) m' H') ∧ ∀ x H', (Itc lo c (rangeS lo hi c).length).yld i H x H' → g x (wipe σ vl) H' fun σ2 H2 => wipe σ2 vl = wipe σ vl ∧ tt σ2 H2 fun b H3 =>
        if b = true then te σ2 H3 fun y H4 => ∃ acc, H4 L = some (.lst acc) ∧ acc.length < sizeLine ∧ Nx (upd H4 L (.lst (acc ++ [y]))) else Nx H3) := by
  obtain ⟨hn, hM⟩ := hM
  refine ⟨fun i m H => m = (rangeS lo hi c).length - i ∧ i ≤ (rangeS lo hi c).length ∧ ∃ ys s, SI i ys s H ∧ mapS body ((rangeS lo hi c).drop i) ys s KM, ⟨_, rfl, Nat.zero_le _, [], s0, h0, hM⟩, ?_⟩
  rintro i m H ⟨rfl, hi', ys, s, T, q⟩
  by_cases hlt : i < (rangeS lo hi c).length
  · refine .inr ⟨hlt, fun H' => i + 1 ≤ (rangeS lo hi c).length ∧ ∃ ys s, SI (i + 1) ys s H' ∧ mapS body ((rangeS lo hi c).drop (i + 1)) ys s KM, fun H' p' => ⟨_, by omega, rfl, p'⟩, fun x H' y => ?_⟩
    obtain ⟨e, y⟩ := y
    subst e y
    rw [drop_cons' (rangeS_get hlt)] at q
    exact hs _ i ys s _ H' (by omega) T q _ fun y s' H' k T' => ⟨hlt, _, _, T', k⟩
  · have e : i = (rangeS lo hi c).length := by omega
    refine .inl ⟨by rw [e]; exact Nat.le_refl _, ?_⟩
    rw [List.drop_of_length_le (by omega)] at q
    exact hd _ ys s H q T
end
section
variable {α S : Type} {K : PySem.W.Frag} {H1 : Hp} {g : TG} {tb : TS} {D' : Ends} {σ : L2.St}
theorem for_rangeTG {lo hi c : Int} {body : Int → S → (S → Prop) → Prop} {KM : S → Prop} (SI : S → L2.St → Hp → Prop) (s0 : S) (hM : forC body (rangeS lo hi c) s0 KM) (h0 : SI s0 σ H1)
    (hs : ∀ (x : Int) (s : S) (k : S → Prop) (σ : L2.St) (H : Hp), SI s σ H → body x s k → ∀ Nx : L2.St → Hp → Prop, (∀ s' σ' H', k s' → SI s' σ' H' → Nx σ' H') →
      g (.int x) σ H fun σ2 H2 => tb { D' with nx := Nx, ct := Nx, bk := D'.nx } σ2 H2)
    (hd : ∀ s σ H, KM s → SI s σ H → D'.nx σ H) :
    ∃ W : Nat → Nat → L2.St → Hp → Prop, (∃ m, W 0 m σ H1) ∧ ∀ i m σ H, W i m σ H →
      ((Itc lo c (rangeS lo hi c).length).stop i H ∧ D'.nx σ H) ∨ ((Itc lo c (rangeS lo hi c).length).go i H ∧ ∃ Nx : L2.St → Hp → Prop, (∀ σ' H', Nx σ' H' → ∃ m', m' < m ∧ W (i + 1) m' σ' H') ∧ ∀ x H', (Itc lo c (rangeS lo hi c).length).yld i H x H' → g x σ H' fun σ2 H2 => tb { D' with nx := Nx, ct := Nx, bk := D'.nx } σ2 H2) := by
  refine L2.for_rangeC (lo := lo) (c := c) (n := (rangeS lo hi c).length) (D := D') (fun i σ H => ∃ s, SI s σ H ∧ forC body ((rangeS lo hi c).drop i) s KM) ⟨s0, h0, hM⟩ (fun i σ H hi' ⟨s, si, q⟩ => ?_) (fun σ H ⟨s, si, q⟩ => ?_)
  · rw [drop_cons' (rangeS_get hi')] at q
    exact hs _ s _ σ H si q _ fun s' σ' H' hk si2 => ⟨s', si2, hk⟩
  · rw [List.drop_of_length_le (Nat.le_refl _)] at q
    exact hd s σ H q si
end
theorem paired_at {ys : List V} {l : List Value} (hl : ys.length = l.length) (h : ∀ (i : Nat) (v : V) (u : Value), ys[i]? = some v → l[i]? = some u → L2.RelV v u) : Vals ys l := by
  induction ys generalizing l with
  | nil =>
    cases l with
    | nil => exact .nil
    | cons _ _ => cases hl
  | cons y ys ih =>
    cases l with
    | nil => cases hl
    | cons u l => exact .cons (h 0 y u rfl rfl) (ih (Nat.succ.inj hl) fun i v u a b => h (i + 1) v u a b)
section
variable {X : L2.Cx} {a b c e : PySem.Expr} {ta : TA}
/-- list(range(a, b, c)) -/
def tLstRg3 (ta : TA) : TE := fun σ H Q => ta σ H fun vs H1 => ∃ i j c : Int, vs = [.int i, .int j, .int c] ∧ (0 < c ∧ c < 2 ^ 30) ∧ RgB i j ∧ (rangeS i j c).length ≤ 2 ^ 24 ∧ ∀ q, H1 q = none → Q (.ref q) (upd H1 q (.lst ((rangeS i j c).map V.int)))
theorem pe_listRg3 {p pos p' pos' : Pos} (hc : X.calm = true) (hl : Gl X "list") (hlm : X.mg "list" = none) (hg : Gl X "range") (hm : X.mg "range" = none) (ha : PA X [a, b, c] ta)
    (hs : starEach [a, b, c] X.env = [(false, eval a X.env), (false, eval b X.env), (false, eval c X.env)] := by rfl) (hs2 : starEach [b, c] X.env = [(false, eval b X.env), (false, eval c X.env)] := by rfl) :
    PE X (.Call (.Name "list" p) [.Call (.Name "range" p') [a, b, c] [] pos'] [] pos) (tLstRg3 ta) := by
  refine ⟨fun pins s σ H Q I h => ?_⟩
  refine Call_ (ld_blt I hl hlm boot_list (PyProof.Rows.callWith_type1 (e := .Call (.Name "range" p') [a, b, c] [] pos') (rest := []) (PyProof.Rows.args_cons (Call_ (ld_blt I hg hm boot_range (PyProof.Rows.callWith_type1 (thn (ha.run pos' pins s σ H _ I h) fun us s1 ⟨vs, H1, I1, r1, q1⟩ => ?_) (by rw [hs, hs2]) (by rw [hs2]; rfl)))) rfl) rfl rfl))
  obtain ⟨i, j, c, e, ⟨c0, c1⟩, hb, hn, q⟩ := q1
  subst e
  cases r1 with
  | cons r rr =>
  cases rr with
  | cons r' rr =>
  cases rr with
  | cons r'' rr =>
  cases rr
  obtain ⟨t, rfl⟩ := r
  obtain ⟨t', rfl⟩ := r'
  obtain ⟨t'', rfl⟩ := r''
  refine call_range_3 (by omega) (PyProof.Rows.args_nil ?_) (.inl ?_)
  · have I2 : L2.Inv X pins σ H1 { heap := s1.heap.push { cls := .type "range", data := .fields #[.int i t, .int j t', .int c t''] }, gens := s1.gens, drawn := s1.drawn, toks := s1.toks, os := s1.os } := I1.kept fun b o e => Heap.get?_push_of_some _ e
    refine call_list_range (I2.ok.hd hc) (IsRange.new _ i j c t t' t'') (rgS_small c0 c1 hb) (rgS_size c0) hn fun h' tk acc' c' hk hob hit => ?_
    obtain ⟨hi1, hi2⟩ := hit
    refine ⟨.ref _, _, I2.laid (a := _) (o := .lst ((rangeS i j c).map V.int)) (t' := tk) hk (Nat.le_refl _) ?_, rfl, q _ I2.fresh⟩
    refine ⟨by rw [List.length_map, sizeLine_eq]; omega, acc'.toList, c', paired_at (by rw [List.length_map]; exact hi1.symm) fun k v u hv hu => ?_, hob⟩
    rw [List.getElem?_map] at hv
    have lt : k < (rangeS i j c).length := by
      rcases Nat.lt_or_ge k (rangeS i j c).length with h | h
      · exact h
      · rw [List.getElem?_eq_none h] at hv
        cases hv
    rw [rangeS_get lt] at hv
    cases hv
    obtain ⟨tt, e⟩ := hi2 k u (by simpa using hu)
    exact ⟨tt, e⟩
  · unfold Builtin.divisionGoesByPylong
    have e : c.natAbs.log2 < 30 := (Nat.log2_lt (by omega)).mpr (by omega)
    have d : (if (c == 0) = true then 0 else c.natAbs.log2 / 30 + 1) ≤ 1 := by
      split
      · omega
      · omega
    simp only [Bool.and_eq_false_iff, decide_eq_false_iff_not]
    exact .inl (by omega)
end
/-! text[::-1] -/
def revS (z : Str) : Str := ⟨z.cps.reverse⟩
theorem revS_len (z : Str) : (revS z).length = z.length := by
  show (z.cps.reverse).size = z.cps.size
  exact Array.size_reverse
theorem revS_eq (z : Str) (u : Tok) : Txt.sliceBy z none none (-1, u) = revS z := by
  have h := step_rev_list z u
  have e : (Txt.sliceBy z none none (-1, u)).cps = (revS z).cps := by
    apply Array.toList_inj.mp
    rw [h]
    show _ = (z.cps.reverse).toList
    rw [Array.toList_reverse]
    apply List.ext_getElem?
    intro i
    rw [List.getElem?_map]
    by_cases c : i < z.length
    · rw [List.getElem?_range c, List.getElem?_reverse (by exact c)]
      show some (z.cps.getD (z.length - 1 - i) 0) = z.cps.toList[z.length - 1 - i]?
      rw [Array.getD_eq_getD_getElem?, ← Array.getElem?_toList, List.getElem?_eq_getElem (show z.length - 1 - i < z.cps.toList.length from (by have : z.cps.toList.length = z.length := rfl; omega))]
      rfl
    · rw [List.getElem?_eq_none (by simpa using c), List.getElem?_eq_none (by rw [List.length_reverse]; exact Nat.le_of_not_lt c)]
      rfl
  cases hx : Txt.sliceBy z none none (-1, u) with
  | mk c =>
    rw [hx] at e
    show Str.mk c = Str.mk _
    rw [show c = _ from e]
    rfl
section
variable {X : L2.Cx} {e : PySem.Expr} {te : TE}
def tRevS (te : TE) : TE := fun σ H Q => te σ H fun x H1 => ∃ z : Str, x = .str z ∧ z.length ≤ sizeLine ∧ Q (.str (revS z)) H1
theorem pe_revS {e : PySem.Expr} {k : Nat} {p1 p2 p3 pos : Pos} (h : PE X e te)  (hl : ∀ o r : Value, letTemporaryGo e o r = pure () := by intros; rfl) :
    PE X (.Subscript e (.Slice none none (some (.UnaryOp .USub (.Constant (.int 1) k p1) p2)) p3) pos) (tRevS te) := by
  refine ⟨fun pins s σ H Q I q => ?_⟩
  have hn : PE X (.UnaryOp .USub (.Constant (.int 1) k p1) p2) (tC (.int (-1))) := ⟨fun pins s σ H Q I q => (pe_un un_neg pe_int).run pins s σ H Q I ⟨1, rfl, q⟩⟩
  refine wpAny_Subscript_Slice_step (T := "str") (id := "str.__getitem__") (by rfl) (thn (h.run pins s σ H _ I q) fun v s1 ⟨x, H1, I1, r1, q1⟩ => ?_) hl
  obtain ⟨z, e, hz, q1⟩ := q1
  subst e
  obtain ⟨t, rfl⟩ := r1
  refine wpAny_Slice (evalPart_none_step (evalPart_none_step (wpAny_evalPart_some (thn (hn.run pins s1 σ H1 (fun y H2 => y = .int (-1) ∧ H2 = H1) I1 ⟨rfl, rfl⟩) fun v s2 ⟨y, H2, I2, r2, q2⟩ => ?_))))
  obtain ⟨e1, e2⟩ := q2
  subst e1 e2
  obtain ⟨t2, rfl⟩ := r2
  refine ⟨rfl, wpAny_getItem_str_slice (l := none) (u := none) (st := some (-1, t2)) ⟨_, Heap.get?_push_size _ rfl, rfl, rfl⟩ (by rfl) ?_⟩
  have e : sliceMade z t none none (some (-1, t2)) = .str (revS z) := by
    rw [← revS_eq z t2]
    rfl
  rw [e]
  unfold Made.post
  exact ⟨by rw [revS_len]; exact hz, .str (revS z), _, I2.kept fun b o e => Heap.get?_push_of_some _ e, ⟨_, rfl⟩, q1⟩
end
theorem repL_intsM {ms : List Addr} {H : Hp} {xs : List Int} : repL ms H (xs.map fun y_ : Int => D.v (V.int y_)) (xs.map V.int) := by
  have e1 : xs.map (fun y_ : Int => D.v (V.int y_)) = (xs.map V.int).map D.v := by
    rw [List.map_map]
    rfl
  rw [e1]
  exact repL_flat.mpr rfl
/-! results that may be None, of plain values -/
def optV {α : Type} (f : α → V) : Option α → V
  | none => .non
  | some y => f y
theorem rep_oV {α : Type} {f : α → V} {ms : List Addr} {H : Hp} {m : Option α} : rep ms H (encO (fun y_ : α => D.v (f y_)) m) (optV f m) := by
  cases m <;> exact rep_v
theorem rep_optV {α : Type} {f : α → V} {ms : List Addr} {H : Hp} {m : Option α} {u : V} (h : rep ms H (encO (fun y_ : α => D.v (f y_)) m) u) : u = optV f m := by
  cases m <;> exact of_v h
theorem optV_isN {α : Type} {f : α → V} {m : Option α} (he : ∀ y, f y ≠ .non) : decide (optV f m = .non) = m.isNone := by
  cases m with
  | none => rfl
  | some y => exact decide_eq_false (he y)
theorem optV_isSome {α : Type} {f : α → V} {m : Option α} (he : ∀ y, f y ≠ .non) : (!decide (optV f m = .non)) = m.isSome := by
  rw [optV_isN he]
  cases m <;> rfl
theorem optV_some {α : Type} {f : α → V} {m : Option α} {y : α} (h : m = some y) : optV f m = f y := by rw [h]; rfl
theorem scal_oo {a b : Option Int} : scal (optV V.int a) (optV V.int b) = true := by
  cases a <;> cases b <;> rfl
theorem scal_oi {a : Option Int} {b : Int} : scal (optV V.int a) (V.int b) = true := by
  cases a <;> rfl
theorem scal_io {a : Int} {b : Option Int} : scal (V.int a) (optV V.int b) = true := by
  cases b <;> rfl
theorem scal_on {a : Option Int} : scal (optV V.int a) V.non = true := by
  cases a <;> rfl
/-! x in a list or tuple of plain values -/
section
variable {X : L2.Cx} {K : PySem.W.Frag} {ms : List Addr} {H : Hp} {u x : V}
theorem op_inSK (hK : X.K = K) : OpR X (compareOp .In) (rIn K false) := by
  subst hK
  exact op_in_seq
theorem op_ninSK (hK : X.K = K) : OpR X (compareOp .NotIn) (rIn K true) := by
  subst hK
  exact op_notIn_seq
theorem inQ_all {α : Type} {f : α → V} {xs : List α} (fs : ∀ y, flatV (f y) = true) : (xs.map f).all flatV = true := by
  rw [List.all_map]
  exact List.all_eq_true.mpr fun y _ => fs y
theorem inQ_eq {α : Type} {f : α → V} {xs : List α} {vs : List V} (h : repL ms H (xs.map fun y_ : α => D.v (f y_)) vs) : vs = xs.map f := by
  have e1 : xs.map (fun y_ : α => D.v (f y_)) = (xs.map f).map D.v := by
    rw [List.map_map]
    rfl
  rw [e1] at h
  exact repL_flat.mp h
theorem rep_inL {α : Type} {f : α → V} {xs : List α} {Q : VK} (h : rep ms H (.lst (xs.map fun y_ : α => D.v (f y_))) u) (fx : flatV x = true) (fs : ∀ y, flatV (f y) = true) (k : Q (.bl (inV x (xs.map f))) H) : rIn K false x u H Q := by
  simp only [rep] at h
  obtain ⟨p, vs, e, _, hp, hr⟩ := h
  rw [inQ_eq hr] at hp
  exact ⟨p, _, e, .inl (.inl (.inl hp)), fx, inQ_all fs, k⟩
theorem rep_ninL {α : Type} {f : α → V} {xs : List α} {Q : VK} (h : rep ms H (.lst (xs.map fun y_ : α => D.v (f y_))) u) (fx : flatV x = true) (fs : ∀ y, flatV (f y) = true) (k : Q (.bl (!inV x (xs.map f))) H) : rIn K true x u H Q := by
  simp only [rep] at h
  obtain ⟨p, vs, e, _, hp, hr⟩ := h
  rw [inQ_eq hr] at hp
  exact ⟨p, _, e, .inl (.inl (.inl hp)), fx, inQ_all fs, k⟩
theorem rep_inT {α : Type} {f : α → V} {xs : List α} {Q : VK} (h : rep ms H (.tup (xs.map fun y_ : α => D.v (f y_))) u) (fx : flatV x = true) (fs : ∀ y, flatV (f y) = true) (k : Q (.bl (inV x (xs.map f))) H) : rIn K false x u H Q := by
  simp only [rep] at h
  obtain ⟨p, vs, e, _, hp, hr⟩ := h
  rw [inQ_eq hr] at hp
  exact ⟨p, _, e, .inr (.inl (.inl hp)), fx, inQ_all fs, k⟩
theorem rep_ninT {α : Type} {f : α → V} {xs : List α} {Q : VK} (h : rep ms H (.tup (xs.map fun y_ : α => D.v (f y_))) u) (fx : flatV x = true) (fs : ∀ y, flatV (f y) = true) (k : Q (.bl (!inV x (xs.map f))) H) : rIn K true x u H Q := by
  simp only [rep] at h
  obtain ⟨p, vs, e, _, hp, hr⟩ := h
  rw [inQ_eq hr] at hp
  exact ⟨p, _, e, .inr (.inl (.inl hp)), fx, inQ_all fs, k⟩
theorem inV_int {x : Int} {xs : List Int} : inV (.int x) (xs.map V.int) = true ↔ x ∈ xs := by
  unfold inV
  rw [List.any_map, List.any_eq_true]
  constructor
  · rintro ⟨y, hy, e⟩
    have e' : (y == x) = true := e
    rw [← eq_of_beq e']
    exact hy
  · intro h
    exact ⟨x, h, show (x == x) = true from beq_self_eq_true x⟩
end
section
variable {K : PySem.W.Frag} {ms ps : List Addr} {H0 H H' H1 : Hp} {L : Addr} {d : D} {ds : List D} {u x y : V} {vs : List V} {ks : List Key} {k : Key}
theorem rep_itemsR {Q : VK} (w : Wd ms ps [] H0 H) (h : rep ms H (.dct ks ds) x)
    (q : ∀ (H' : Hp) (p : Addr), Ret [] H H' → (∀ (r : List V → Hp → Prop), (∀ vs, ks.length = vs.length → repL ms H' ds vs → (∃ ps, SqL K H' p (ps.map V.ref) ∧ Paired (fun p kv => SqT K H' p [kV kv.1, kv.2]) ps (ks.zip vs)) → r vs H') → ∃ vs, ks.length = vs.length ∧ repL ms H' ds vs ∧ r vs H') → Q (.ref p) H') : LiI.rItemsL x H Q := rep_items w h q
end
end Rx
namespace Rx
open PySem PySem.Spec PyProof.Rows L2
section
variable {K : PySem.W.Frag} {ms ps : List Addr} {H0 H : Hp} {x : V}
theorem rep_gunl {ds : List D} {n : Nat} {Q : L2.St → Hp → Prop} {t : TGs} {σ : L2.St} (h : rep ms H (.lst ds) x) (hn : ds.length = n) (k : ∀ vs, repL ms H ds vs → t vs σ H Q) : ∃ a xs, x = .ref a ∧ SqL K H a xs ∧ xs.length = n ∧ t xs σ H Q := by
  simp only [rep] at h
  obtain ⟨p, vs, e, _, hp, hr⟩ := h
  exact ⟨p, vs, e, .inl (.inl hp), by rw [← repL_len hr]; exact hn, k vs hr⟩
theorem rep_iterE {ds : List D} {P : Addr → Prop} (h : rep ms H (.lst ds) x) (k : ∀ a xs, x = .ref a → a ∉ ms → H a = some (.lst xs) → repL ms H ds xs → P a) : ∃ (a : Addr) (xs : List V), [x] = [.ref a] ∧ SqL K H a xs ∧ P a := by
  simp only [rep] at h
  obtain ⟨p, vs, e, n, hp, hr⟩ := h
  exact ⟨p, vs, by rw [e], .inl (.inl hp), k p vs e n hp hr⟩
end
section
variable {α S : Type} {K : PySem.W.Frag} {H1 : Hp} {g : TG} {tb : TS} {D' : Ends} {σ : L2.St}
/-- a pair that is new at T -/
theorem rep_pair {ms : List Addr} {H H2 : Hp} {T : Addr} {d1 d2 : D} {v1 v2 : V} (tr : ∀ m ∈ ms, H m ≠ none) (nT : H T = none) (e : H2 = upd H T (.tup [v1, v2])) (h1 : rep ms H d1 v1) (h2 : rep ms H d2 v2) : rep ms H2 (.tup [d1, d2]) (.ref T) := by
  subst e
  simp only [rep]
  refine ⟨T, [v1, v2], rfl, fun z => tr T z nT, upd_same, ?_⟩
  exact repL_ext (Ext.new nT) (repL_cons h1 (repL_cons h2 repL_nil))
theorem for_enumG {items : List α} {e : α → D} {ms : List Addr} {a : Addr} {xs : List V} {body : (Int × α) → S → (S → Prop) → Prop} {KM : S → Prop} (SI : S → L2.St → Hp → Prop) (s0 : S) (an : a ∉ ms) (ha : H1 a = some (.lst xs)) (hx : repL ms H1 (items.map e) xs)
    (kp : ∀ s σ H, SI s σ H → Keep ms H1 H) (tr : ∀ s σ H, SI s σ H → ∀ m ∈ ms, H m ≠ none) (hM : forC body ((rangeI 0 (items.length : Int)).zip items) s0 KM) (h0 : SI s0 σ H1)
    (hs : ∀ (x : Int × α) (u : V) (s : S) (k : S → Prop) (σ : L2.St) (H H2 : Hp), SI s σ H → Ext H H2 → rep ms H2 (.tup [.v (.int x.1), e x.2]) u → body x s k → ∀ Nx : L2.St → Hp → Prop, (∀ s' σ' H', k s' → SI s' σ' H' → Nx σ' H') →
      g u σ H2 fun σ2 H2 => tb { D' with nx := Nx, ct := Nx, bk := D'.nx } σ2 H2)
    (hd : ∀ s σ H, KM s → SI s σ H → D'.nx σ H) :
    ∃ W : Nat → Nat → L2.St → Hp → Prop, (∃ m, W 0 m σ H1) ∧ ∀ i m σ H, W i m σ H →
      ((Ite K a).stop i H ∧ D'.nx σ H) ∨ ((Ite K a).go i H ∧ ∃ Nx : L2.St → Hp → Prop, (∀ σ' H', Nx σ' H' → ∃ m', m' < m ∧ W (i + 1) m' σ' H') ∧ ∀ x H', (Ite K a).yld i H x H' → g x σ H' fun σ2 H2 => tb { D' with nx := Nx, ct := Nx, bk := D'.nx } σ2 H2) := by
  have hl : items.length = xs.length := by
    have := repL_len hx
    rwa [List.length_map] at this
  have rl : (rangeI 0 (items.length : Int)).length = items.length := by rw [rangeI_len]; omega
  have zl : ((rangeI 0 (items.length : Int)).zip items).length = xs.length := by rw [List.length_zip, rl, hl, Nat.min_self]
  refine for_it (walk_enum (K := K) (a := a) (xs := xs)) (D := D') (fun i σ H => ∃ s, SI s σ H ∧ forC body (((rangeI 0 (items.length : Int)).zip items).drop i) s KM) ⟨s0, h0, hM⟩ (fun i σ H _ ⟨s, si, _⟩ => .inl (.inl (kp s σ H si a _ an ha))) (fun i u σ H H' hi ⟨s, si, q⟩ y => ?_) (fun σ H ⟨s, si, q⟩ => ?_)
  · obtain ⟨T, x1, x2, rfl, nT, eH, e1, e2⟩ := y
    have hit : items[i]? = some (items[i]'(by omega)) := List.getElem?_eq_getElem (by omega)
    have hz : ((rangeI 0 (items.length : Int)).zip items)[i]? = some ((i : Int), items[i]'(by omega)) := by
      rw [List.getElem?_zip_eq_some]
      exact ⟨by rw [rangeI_get (by omega)]; congr 1; omega, hit⟩
    rw [drop_cons' hz] at q
    obtain ⟨v, hv, rv⟩ := repL_get (repL_keep (kp s σ H si) hx) (j := i) (d := e (items[i]'(by omega))) (by rw [List.getElem?_map, hit]; rfl)
    have e2 : xs[i]? = some x2 := e2
    rw [e2] at hv
    have ev : x2 = v := Option.some.inj hv
    subst ev
    have ev1 : V.int (i : Nat) = x1 := Option.some.inj e1
    subst ev1
    have ex : Ext H H' := by rw [eH]; exact Ext.new nT
    exact hs ((i : Int), items[i]'(by omega)) (.ref T) s _ σ H H' si ex (rep_pair (tr s σ H si) nT eH rep_v rv) q _ fun s' σ' H'' hk si2 => ⟨s', si2, hk⟩
  · rw [List.drop_of_length_le (by omega)] at q
    exact hd s σ H q si
end
end Rx
namespace Rx
open PySem PySem.Spec PyProof.Rows L2
/-! dicts with any keys of one kind -/
section
variable {α κ : Type} [DecidableEq κ]
def putD (m : List (κ × α)) (k : κ) (y : α) : List (κ × α) := if (m.any fun q => decide (q.1 = k)) = true then m.map (fun q => if q.1 = k then (q.1, y) else q) else m ++ [(k, y)]
def getD (m : List (κ × α)) (k : κ) : Option α := (m.find? fun q => decide (q.1 = k)).map (·.2)
def hasD (m : List (κ × α)) (k : κ) : Bool := m.any fun q => decide (q.1 = k)
theorem zip_fst_any {k : κ} : ∀ {m : List (κ × α)} {vs : List V}, m.length = vs.length → (((m.map (·.1)).zip vs).any fun kv => decide (kv.1 = k)) = m.any fun q => decide (q.1 = k)
  | [], [], _ => rfl
  | q :: m, v :: vs, h => by
    rw [List.map_cons, List.zip_cons_cons, List.any_cons, List.any_cons, zip_fst_any (by simpa using h)]
  | [], _ :: _, h => by simp at h
  | _ :: _, [], h => by simp at h
theorem putK_map {k : κ} {y : α} {v : V} : ∀ {m : List (κ × α)} {vs : List V}, m.length = vs.length → ((m.map (·.1)).zip vs).map (fun kv => if kv.1 = k then (kv.1, v) else kv) = ((m.map (fun q => if q.1 = k then (q.1, y) else q)).map (·.1)).zip ((m.zip vs).map fun z => if z.1.1 = k then v else z.2)
  | [], [], _ => rfl
  | q :: m, w :: vs, h => by
    have ih := putK_map (k := k) (y := y) (v := v) (m := m) (vs := vs) (by simpa using h)
    rw [List.map_cons, List.zip_cons_cons, List.map_cons, ih, List.map_cons, List.map_cons, List.zip_cons_cons, List.map_cons, List.zip_cons_cons]
    by_cases e : q.1 = k
    · simp [e]
    · simp [e]
  | [], _ :: _, h => by simp at h
  | _ :: _, [], h => by simp at h
end
section
variable {α : Type} {K : PySem.W.Frag} {ms ps : List Addr} {H0 H : Hp} {L : Addr} {x : V} {e : α → D}
theorem repL_mapD {ms : List Addr} {H : Hp} {y : α} {v : V} {k : Key} (rv : rep ms H (e y) v) : ∀ {m : List (Key × α)} {vs : List V}, repL ms H (m.map fun q => e q.2) vs → repL ms H ((m.map (fun q => if q.1 = k then (q.1, y) else q)).map fun q => e q.2) ((m.zip vs).map fun z => if z.1.1 = k then v else z.2)
  | [], vs, h => by
    have := repL_empty h
    subst this
    exact repL_nil
  | q :: m, vs, h => by
    obtain ⟨u, us, rfl, h1, h2⟩ := repL_uncons h
    have ih := repL_mapD (y := y) (v := v) (k := k) rv h2
    by_cases c : q.1 = k
    · simp only [List.map_cons, List.zip_cons_cons, if_pos c]
      exact repL_cons rv ih
    · simp only [List.map_cons, List.zip_cons_cons, if_neg c]
      exact repL_cons h1 ih
/-- d[k] = v, the key new or not -/
theorem mo_putA {m : List (Key × α)} {k : Key} {y : α} {v : V} {Q : Hp → Prop} (mo : MutO ms ps H0 H L (.dct (m.map (·.1)) (m.map fun q => e q.2))) (rv : rep ms H (e y) v) (hk : m.length < 16777216)
    (q : ∀ vs, ((putD m k y).map (·.1)).length = vs.length → repL ms H ((putD m k y).map fun q => e q.2) vs → Q (upd H L (.dK (((putD m k y).map (·.1)).zip vs)))) : rSetD (.ref L) (kV k) v H Q := by
  obtain ⟨vs, h1, h2, h3⟩ := mo.val
  have hl : m.length = vs.length := by rw [← h2, List.length_map]
  refine ⟨L, _, rfl, DPut.k h1 ?_, ?_⟩
  · rw [List.length_zip, ← h2, sizeLine_eq, Nat.min_self, List.length_map]
    exact hk
  · unfold putK
    rw [zip_fst_any hl]
    unfold putD at q
    by_cases c : (m.any fun q => decide (q.1 = k)) = true
    · rw [if_pos c, putK_map (y := y) hl]
      rw [if_pos c] at q
      exact q _ (by simp [hl]) (repL_mapD rv h3)
    · rw [if_neg c]
      rw [if_neg c] at q
      have z : (m.map (·.1)).zip vs ++ [(k, v)] = ((m ++ [(k, y)]).map (·.1)).zip (vs ++ [v]) := by
        rw [List.map_append, List.zip_append h2]
        rfl
      rw [z]
      refine q _ (by simp [hl]) ?_
      rw [List.map_append]
      exact repL_app h3 (repL_one rv)
theorem valV_getD {ms : List Addr} {H : Hp} {k : Key} {y : α} : ∀ {m : List (Key × α)} {vs : List V}, repL ms H (m.map fun q => e q.2) vs → getD m k = some y → ∃ v, valV ((m.map (·.1)).zip vs) k = some v ∧ rep ms H (e y) v
  | [], _, _, h => by simp [getD] at h
  | q :: m, vs, r, h => by
    obtain ⟨u, us, rfl, h1, h2⟩ := repL_uncons r
    by_cases c : q.1 = k
    · have : q.2 = y := by simpa [getD, c] using h
      subst this
      exact ⟨u, valV_pos (p := (q.1, u)) c, h1⟩
    · have h' : getD m k = some y := by
        unfold getD at h ⊢
        rw [List.find?_cons_of_neg (by simpa using c)] at h
        exact h
      obtain ⟨v, hv, rv⟩ := valV_getD h2 h'
      exact ⟨v, by rw [List.map_cons, List.zip_cons_cons, valV_neg (p := (q.1, u)) c]; exact hv, rv⟩
theorem rep_dgetA {m : List (Key × α)} {k : Key} {y : α} {Q : VK} (h : rep ms H (.dct (m.map (·.1)) (m.map fun q => e q.2)) x) (hy : getD m k = some y) (q : ∀ v, rep ms H (e y) v → Q v H) :
    ∃ a v, x = .ref a ∧ DGet H a (kV k) (some v) ∧ Q v H := by
  simp only [rep] at h
  obtain ⟨p, vs, rfl, _, hp, hl, hr⟩ := h
  obtain ⟨v, hv, rv⟩ := valV_getD hr hy
  refine ⟨p, v, rfl, ?_, q v rv⟩
  have := DGet.k (k := k) hp
  rw [hv] at this
  exact this
theorem mo_dgetA {m : List (Key × α)} {k : Key} {y : α} {Q : VK} (mo : MutO ms ps H0 H L (.dct (m.map (·.1)) (m.map fun q => e q.2))) (hy : getD m k = some y) (q : ∀ v, rep ms H (e y) v → Q v H) :
    ∃ a v, V.ref L = .ref a ∧ DGet H a (kV k) (some v) ∧ Q v H := by
  obtain ⟨vs, hp, hl, hr⟩ := mo.val
  obtain ⟨v, hv, rv⟩ := valV_getD hr hy
  refine ⟨L, v, rfl, ?_, q v rv⟩
  have := DGet.k (k := k) hp
  rw [hv] at this
  exact this
end
section
variable {K : PySem.W.Frag} {ms : List Addr} {H : Hp} {x : V}
/-- an item of a list whose items are of several kinds -/
theorem rep_ixH {ds : List D} {d : D} {i : Int} {σ : L2.St} {Q : VK} (j : Nat) (h : rep ms H (.lst ds) x) (hi : i = (j : Int)) (hd : ds[j]? = some d) (q : ∀ v, rep ms H d v → Q v H) : tC (V.int i) σ H fun y H2 => rIxL K x y H2 Q := by
  simp only [rep] at h
  obtain ⟨p, vs, rfl, _, hp, hr⟩ := h
  obtain ⟨v, hv, rv⟩ := repL_get hr hd
  subst hi
  exact ⟨p, vs, _, v, rfl, rfl, .inl (.inl hp), atI_nat hv, q v rv⟩
end
/-! xs.index(x): numbers -/
theorem idxOf_le_of {w : Int} : ∀ {xs : List Int} {m : Nat}, xs[m]? = some w → xs.idxOf w ≤ m
  | [], _, h => by simp at h
  | x :: xs, 0, h => by
    have : x = w := Option.some.inj h
    subst this
    rw [List.idxOf_cons_self]
    exact Nat.le_refl 0
  | x :: xs, m + 1, h => by
    have ih := idxOf_le_of (xs := xs) (m := m) (by simpa using h)
    rw [List.idxOf_cons]
    cases x == w
    · show List.idxOf w xs + 1 ≤ m + 1
      omega
    · show 0 ≤ m + 1
      omega
def rIndexI (K : PySem.W.Frag) : V → List V → Hp → VK → Prop := rIndex K
theorem mt_indexK {X : Cx} {K : PySem.W.Frag} (hK : X.K = K) : MtR X "list.index" (rIndexI K) := by
  subst hK
  exact mt_index
theorem rep_indexI {K : PySem.W.Frag} {ms : List Addr} {H : Hp} {x : V} {xs : List Int} {n : Int} {Q : VK} (h : rep ms H (.lst (xs.map fun y => .v (.int y))) x) (hm : n ∈ xs) (q : Q (.int (xs.idxOf n : Int)) H) : rIndexI K x [.int n] H Q := by
  simp only [rep] at h
  obtain ⟨p, vs, rfl, _, hp, hr⟩ := h
  have ev : vs = xs.map V.int := by
    have := repL_flat (xs := xs.map V.int) (vs := vs) (ms := ms) (H := H)
    rw [List.map_map] at this
    exact this.mp hr
  subst ev
  have hl : xs.idxOf n < xs.length := List.idxOf_lt_length_iff.mpr hm
  have eqv : ∀ a b : Int, eqV (.int a) (.int b) = decide (a = b) := fun a b => by
    by_cases c : a = b
    · subst c
      rw [decide_eq_true rfl]
      show (a == a) = true
      exact beq_self_eq_true a
    · rw [decide_eq_false c]
      show (a == b) = false
      exact beq_eq_false_iff_ne.mpr c
  refine ⟨p, _, _, xs.idxOf n, .int n, rfl, rfl, .inl (.inl hp), rfl, ?_, ?_, ?_, ?_, q⟩
  · rw [List.all_eq_true]
    intro z hz
    obtain ⟨w, _, rfl⟩ := List.mem_map.mp hz
    rfl
  · rw [List.getElem?_map, List.getElem?_eq_getElem hl, List.getElem_idxOf hl]
    rfl
  · rw [eqv, decide_eq_true rfl]
  · intro m z' hm' hz
    rw [List.getElem?_map] at hz
    obtain ⟨w, hw, rfl⟩ := Option.map_eq_some_iff.mp hz
    rw [eqv]
    refine decide_eq_false fun c => ?_
    subst c
    have := idxOf_le_of hw
    omega
theorem rep_indexIC {K : PySem.W.Frag} {ms : List Addr} {H : Hp} {x : V} {xs : List Int} {n : Int} {σ : L2.St} {Q : VK} (h : rep ms H (.lst (xs.map fun y => .v (.int y))) x) (hm : n ∈ xs) (q : Q (.int (xs.idxOf n : Int)) H) : tCons (tC (V.int n)) tNil σ H fun ys H2 => rIndexI K x ys H2 Q := rep_indexI (K := K) (Q := Q) h hm q
end Rx
namespace Rx
open PySem PySem.Spec PyProof.Rows L2
theorem units65 {k : Nat} {A : Around} (r : Room k A) : A.units + 65 < cLine := by
  have := r.un
  omega
def tyN : D → String
  | .v (.bl _) => "bool"
  | .v (.int _) => "int"
  | .v (.str _) => "str"
  | .v _ => "NoneType"
  | .lst _ => "list"
  | .tup _ => "tuple"
  | .dct _ _ => "dict"
  | .dcT _ _ => "dict"
  | .ins _ _ _ => "object"
def tyOk : D → Bool
  | .v .non => true
  | .v (.bl _) => true
  | .v (.int _) => true
  | .v (.str _) => true
  | .v _ => false
  | .ins _ _ _ => false
  | _ => true
section
variable {K : PySem.W.Frag} {ms ps : List Addr} {H0 H : Hp} {d : D} {u x : V}
theorem rep_TyN (h : rep ms H d u) (n : tyOk d = true) {T : String} (e : tyN d = T) : TyX K H u (.type T) := by
  subst e
  cases d with
  | v x =>
    obtain rfl := of_v h
    cases u <;> simp only [tyOk] at n
    · exact .base .non
    · exact .base (.bl _)
    · exact .base (.int _)
    · exact .base (.str _)
    all_goals cases n
  | lst ds =>
    simp only [rep] at h
    obtain ⟨p, vs, rfl, _, hp, _⟩ := h
    exact .base (.lst hp)
  | tup ds =>
    simp only [rep] at h
    obtain ⟨p, vs, rfl, _, hp, _⟩ := h
    exact .base (.tup hp)
  | dct ks ds =>
    simp only [rep] at h
    obtain ⟨p, vs, rfl, _, hp, _⟩ := h
    exact .base (.dK hp)
  | dcT ks ds =>
    simp only [rep] at h
    obtain ⟨p, vs, rfl, _, hp, _⟩ := h
    exact .base (.dT hp)
  | ins _ _ _ => cases n
theorem call_isiTK {X : Cx} (hK : X.K = K) : CallR X (.builtin "isinstance") (rIsiT K) := by
  subst hK
  exact call_isiT
theorem rep_isi1 {a b : String} {r : Bool} {P : Bool → Prop} (h : rep ms H d u) (n : tyOk d = true) (e : tyN d = a) (k : kitB a b = some r) (q : P r) :
    ∃ (x' c : V) (t u' : Value) (b' : Bool), [u, .ty b] = [x', c] ∧ ClsV c u' ∧ TyX K H x' t ∧ PySem.W.kitOne K t u' = some b' ∧ P b' :=
  ⟨u, .ty b, .type a, .type b, r, rfl, .ty b, rep_TyN h n e, kit_ty k, q⟩
theorem rep_isi2 {a b c : String} {r1 r2 : Bool} {tp : Addr} {P : Bool → Prop} (h : rep ms H d u) (n : tyOk d = true) (e : tyN d = a) (ht : H tp = some (.tup [.ty b, .ty c])) (k1 : kitB a b = some r1) (k2 : kitB a c = some r2) (q : P (r1 || r2)) :
    ∃ (x : V) (tp' : Addr) (cs : List V) (t : Value) (us : List Value) (b' : Bool), [u, .ref tp] = [x, .ref tp'] ∧ H tp' = some (.tup cs) ∧ Paired ClsV cs us ∧ TyX K H x t ∧ PySem.W.kitAny K t us = some b' ∧ P b' := by
  refine ⟨u, tp, [.ty b, .ty c], .type a, [.type b, .type c], r1 || r2, rfl, ht, .cons (.ty b) (.cons (.ty c) .nil), rep_TyN h n e, ?_, q⟩
  refine kitAny_cons (kit_ty k1) (fun e1 => ?_) (fun e1 => by rw [e1]; rfl)
  refine kitAny_cons (kit_ty k2) (fun e2 => ?_) (fun e2 => by rw [e2, Bool.or_true])
  rw [e1, e2]
  rfl
/-- t[:j], not the whole -/
theorem sl_tupK {X : Cx} (hK : X.K = K) : SlR X (rSlT K) := by
  subst hK
  exact sl_tup
theorem repL_takeD : ∀ (j : Nat) {ds : List D} {vs : List V}, repL ms H ds vs → repL ms H (ds.take j) (vs.take j)
  | 0, _, _, _ => repL_nil
  | j + 1, [], vs, h => by
    have := repL_empty h
    subst this
    exact repL_nil
  | j + 1, d :: ds, vs, h => by
    obtain ⟨u, us, rfl, h1, h2⟩ := repL_uncons h
    exact repL_cons h1 (repL_takeD j h2)
theorem rep_slT {ds : List D} {Q : VK} (j : Nat) (h : rep ms H (.tup ds) x) (hj : j < ds.length) (k : ∀ vs, repL ms H (ds.take j) vs → ∀ p, H p = none → Q (.ref p) (upd H p (.tup vs))) : rSlT K x none (some (j : Int)) H Q := by
  simp only [rep] at h
  obtain ⟨p, vs, rfl, _, hp, hr⟩ := h
  have hl := repL_len hr
  have e1 : HT.sIx vs.length vs.length (some (j : Int)) = j := by
    rw [HT.sIx_nat]
    omega
  refine ⟨p, vs, rfl, .inl (.inl hp), fun z => ?_, fun q hq => ?_⟩
  · rw [e1] at z
    omega
  · have e : cutV vs none (some (j : Int)) = vs.take j := by
      unfold cutV
      rw [e1, HT.sIx_none, List.drop_zero, Nat.sub_zero]
    rw [e]
    exact k _ (repL_takeD j hr) q hq
theorem rep_lenT {ds : List D} {n : Nat} {P : Nat → Prop} (h : rep ms H (.tup ds) x) (hn : ds.length = n) (q : P n) : ∃ (y : V) (m : Nat), [x] = [y] ∧ LenV K y H m ∧ P m := by
  simp only [rep] at h
  obtain ⟨p, vs, rfl, _, hp, hr⟩ := h
  exact ⟨_, vs.length, rfl, .inr ⟨vs, .inl (.inl hp), rfl⟩, by rw [← repL_len hr, hn]; exact q⟩
/-! x in a list of data -/
theorem op_inDK {X : Cx} (hK : X.K = K) (hu : X.A.units + 65 < cLine) : OpR X (compareOp .In) (rInD K) := by
  subst hK
  exact op_inD hu
theorem op_ninDK {X : Cx} (hK : X.K = K) (hu : X.A.units + 65 < cLine) : OpR X (compareOp .NotIn) (rNotInD K) := by
  subst hK
  exact op_notInD hu
def inDv (d : D) (es : List D) : Bool := (pyL es).any fun z => PyData.eqv z (pyOf d)
theorem rep_inD {es : List D} {y : V} {Q : VK} (h1 : rep ms H d x) (h2 : rep ms H (.lst es) y) (p1 : plainD d = true) (p2 : plainD (.lst es) = true) (s1 : SeqAt.shaped (pyOf d) = true) (s2 : SeqAt.shaped (pyOf (.lst es)) = true) (q : Q (.bl (inDv d es)) H) : rInD K x y H Q :=
  ⟨pyOf d, pyL es, dp_of d x p1 h1, by have := dp_of (K := K) (.lst es) y p2 h2; simpa only [pyOf] using this, s1, by simpa only [pyOf] using s2, q⟩
theorem rep_ninD {es : List D} {y : V} {Q : VK} (h1 : rep ms H d x) (h2 : rep ms H (.lst es) y) (p1 : plainD d = true) (p2 : plainD (.lst es) = true) (s1 : SeqAt.shaped (pyOf d) = true) (s2 : SeqAt.shaped (pyOf (.lst es)) = true) (q : Q (.bl (!inDv d es)) H) : rNotInD K x y H Q :=
  ⟨pyOf d, pyL es, dp_of d x p1 h1, by have := dp_of (K := K) (.lst es) y p2 h2; simpa only [pyOf] using this, s1, by simpa only [pyOf] using s2, q⟩
end
/-! dicts whose keys are tuples -/
section
variable {α : Type} {K : PySem.W.Frag} {ms ps : List Addr} {H0 H : Hp} {L : Addr} {x kx : V} {e : α → D}
theorem mo_nilT (w : Wd ms ps [] H0 H) (nl : H L = none) : MutO (L :: ms) ps H0 (upd H L (.dT [])) L (.dcT (([] : List (List Key × α)).map (·.1)) (([] : List (List Key × α)).map fun q => e q.2)) where
  im := List.mem_cons_self
  hp := fun z => w.tr L (w.pm L z) nl
  h0 := by
    cases h : H0 L with
    | none => rfl
    | some o => exact absurd nl (w.grow L (by rw [h]; exact fun z => nomatch z))
  val := ⟨[], upd_same, rfl, repL_nil⟩
theorem key_tup {ks : List Key} {ds : List D} (h : rep ms H (.tup ds) kx) (hd : ds = ks.map fun k => D.v (kV k)) : ∃ b, kx = .ref b ∧ H b = some (.tup (ks.map kV)) := by
  subst hd
  simp only [rep] at h
  obtain ⟨p, vs, rfl, _, hp, hr⟩ := h
  have : vs = ks.map kV := by
    have q := repL_flat (xs := ks.map kV) (vs := vs) (ms := ms) (H := H)
    rw [List.map_map] at q
    exact q.mp hr
  subst this
  exact ⟨p, rfl, hp⟩
theorem valV_hasT {m : List (List Key × α)} {vs : List V} (h : repL ms H (m.map fun q => e q.2) vs) (k : List Key) : (valV ((m.map (·.1)).zip vs) k).isSome = hasD m k := by
  have hl := repL_len h
  rw [List.length_map] at hl
  rw [← valV_any, zip_fst_any hl]
  rfl
/-- k in d -/
theorem mo_hasT {m : List (List Key × α)} {ks : List Key} {ds : List D} {P : Option V → Prop} (mo : MutO ms ps H0 H L (.dcT (m.map (·.1)) (m.map fun q => e q.2))) (hk : rep ms H (.tup ds) kx) (hd : ds = ks.map fun k => D.v (kV k)) (q : ∀ o : Option V, o.isSome = hasD m ks → P o) :
    ∃ (a : Addr) (o : Option V), V.ref L = .ref a ∧ DGet H a kx o ∧ P o := by
  obtain ⟨vs, hp, hl, hr⟩ := mo.val
  obtain ⟨b, rfl, hb⟩ := key_tup hk hd
  exact ⟨L, _, rfl, DGet.t hp hb, q _ (valV_hasT hr ks)⟩
theorem repL_mapT {y : α} {v : V} {k : List Key} (rv : rep ms H (e y) v) : ∀ {m : List (List Key × α)} {vs : List V}, repL ms H (m.map fun q => e q.2) vs → repL ms H ((m.map (fun q => if q.1 = k then (q.1, y) else q)).map fun q => e q.2) ((m.zip vs).map fun z => if z.1.1 = k then v else z.2)
  | [], vs, h => by
    have := repL_empty h
    subst this
    exact repL_nil
  | q :: m, vs, h => by
    obtain ⟨u, us, rfl, h1, h2⟩ := repL_uncons h
    have ih := repL_mapT (y := y) (v := v) (k := k) rv h2
    by_cases c : q.1 = k
    · simp only [List.map_cons, List.zip_cons_cons, if_pos c]
      exact repL_cons rv ih
    · simp only [List.map_cons, List.zip_cons_cons, if_neg c]
      exact repL_cons h1 ih
theorem mo_putT {m : List (List Key × α)} {ks : List Key} {ds : List D} {y : α} {v : V} {Q : Hp → Prop} (mo : MutO ms ps H0 H L (.dcT (m.map (·.1)) (m.map fun q => e q.2))) (hk : rep ms H (.tup ds) kx) (hd : ds = ks.map fun k => D.v (kV k)) (rv : rep ms H (e y) v) (hs : m.length < 16777216)
    (q : ∀ vs, ((putD m ks y).map (·.1)).length = vs.length → repL ms H ((putD m ks y).map fun q => e q.2) vs → Q (upd H L (.dT (((putD m ks y).map (·.1)).zip vs)))) : rSetD (.ref L) kx v H Q := by
  obtain ⟨vs, h1, h2, h3⟩ := mo.val
  obtain ⟨b, rfl, hb⟩ := key_tup hk hd
  have hl : m.length = vs.length := by rw [← h2, List.length_map]
  refine ⟨L, _, rfl, DPut.t h1 hb ?_, ?_⟩
  · rw [List.length_zip, ← h2, sizeLine_eq, Nat.min_self, List.length_map]
    exact hs
  · unfold putK
    rw [zip_fst_any hl]
    unfold putD at q
    by_cases c : (m.any fun q => decide (q.1 = ks)) = true
    · rw [if_pos c, putK_map (y := y) hl]
      rw [if_pos c] at q
      exact q _ (by simp [hl]) (repL_mapT rv h3)
    · rw [if_neg c]
      rw [if_neg c] at q
      have z : (m.map (·.1)).zip vs ++ [(ks, v)] = ((m ++ [(ks, y)]).map (·.1)).zip (vs ++ [v]) := by
        rw [List.map_append, List.zip_append h2]
        rfl
      rw [z]
      refine q _ (by simp [hl]) ?_
      rw [List.map_append]
      exact repL_app h3 (repL_one rv)
theorem mo_setT {ks : List (List Key)} {vs : List V} {ds : List D} {d : D} (m : MutO ms ps H0 H L d) (hl : ks.length = vs.length) (r : repL ms H ds vs) : MutO ms ps H0 (upd H L (.dT (ks.zip vs))) L (.dcT ks ds) :=
  ⟨m.im, m.hp, m.h0, vs, upd_same, hl, repL_put m.im r⟩
end
/-! sorted(xs), ints; tuple(xs) -/
section
variable {K : PySem.W.Frag} {ms ps : List Addr} {H0 H : Hp} {x : V}
theorem cr_sortedIK {X : Cx} (hK : X.K = K) : CallR X (.builtin "sorted") (rSortedI K) := by
  subst hK
  exact cr_sortedI
theorem rep_sortI {xs : List Int} {P : List Int → Addr → Prop} (h : rep ms H (.lst (xs.map fun y => .v (.int y))) x) (q : ∀ ys : List Int, ys.Perm xs → ys.Pairwise (· ≤ ·) → ∀ p, H p = none → P ys p) :
    ∃ (a : Addr) (ns : List Int), [x] = [V.ref a] ∧ SqL K H a (ns.map V.int) ∧ ∀ (ns' : List Int) (p : Addr), ns'.Perm ns → ns'.Pairwise (· ≤ ·) → H p = none → P ns' p := by
  simp only [rep] at h
  obtain ⟨p, vs, rfl, _, hp, hr⟩ := h
  have ev : vs = xs.map V.int := by
    have := repL_flat (xs := xs.map V.int) (vs := vs) (ms := ms) (H := H)
    rw [List.map_map] at this
    exact this.mp hr
  subst ev
  exact ⟨p, xs, rfl, .inl (.inl hp), fun ys q1 a b c => q ys a b q1 c⟩
theorem call_tuple_ofK {X : Cx} (hK : X.K = K) : CallR X (.type "tuple") (fun xs H Q => ∃ p ys, xs = [.ref p] ∧ ((SqL K H p ys ∧ ∀ l, H l = none → Q (.ref l) (upd H l (.tup ys))) ∨ (SqT K H p ys ∧ Q (.ref p) H))) := by
  subst hK
  exact call_tuple_of
theorem rep_tupOf {ds : List D} {P : List V → Addr → Prop} {R : Addr → Prop} (h : rep ms H (.lst ds) x) (q : ∀ ys, repL ms H ds ys → ∀ l, H l = none → P ys l) : ∃ p ys, [x] = [V.ref p] ∧ ((SqL K H p ys ∧ ∀ l, H l = none → P ys l) ∨ (SqT K H p ys ∧ R p)) := by
  simp only [rep] at h
  obtain ⟨p, vs, rfl, _, hp, hr⟩ := h
  exact ⟨p, vs, rfl, .inl ⟨.inl (.inl hp), q vs hr⟩⟩
end
end Rx
namespace Rx
open PySem PySem.Spec PyProof.Rows L2
section
variable {prog : Program} {w : World} {A : Around} {E : Value → Shared → Prop} {s : Shared}
/-- a triple that stands in the heap -/
def Trip (h : Heap) (v : Value) (k : Int × Int × Str) : Prop := ∃ (a : Addr) (o : Obj) (t1 t2 t3 : Tok) (n : Nat), v = Value.ref a ∧ h.get? a = some o ∧ o.cls = .type "tuple" ∧ o.data = .seq #[.int k.1 t1, .int k.2.1 t2, .str k.2.2 t3] n
def lxT (k l : Int × Int × Str) : Bool := SrtO.lexB (k.1, k.2.1) (l.1, l.2.1)
theorem lxT_swo (k : Value → Int × Int × Str) : SrtO.Swo fun v u => lxT (k v) (k u) := SrtO.swo_lex fun v => ((k v).1, (k v).2.1)
theorem Trip.moved {h h' : Heap} {v : Value} {k : Int × Int × Str} (t : Trip h v k) (kp : ∀ b o, h.get? b = some o → o.cls = .type "tuple" → h'.get? b = some o) : Trip h' v k := by
  obtain ⟨a, o, t1, t2, t3, n, e, ho, hc, hd⟩ := t
  exact ⟨a, o, t1, t2, t3, n, e, kp a o ho hc, hc, hd⟩
theorem trip_lt {vs : List Value} {k : Value → Int × Int × Str} (hp : ∀ v ∈ vs, Trip s.heap v (k v)) (hu : ∀ v ∈ vs, ∀ u ∈ vs, (k v).1 = (k u).1 → (k v).2.1 = (k u).2.1 → (k v).2.2 = (k u).2.2) :
    SrtO.Cmp prog w A s (tuples' true) (fun p => p.1 ∈ vs) (SrtO.lt2 fun v u => lxT (k v) (k u)) := by
  intro p q m1 m2
  have uq := hu _ m1 _ m2
  obtain ⟨a1, o1, x1, y1, z1, n1, e1, g1, c1, d1⟩ := hp _ m1
  obtain ⟨a2, o2, x2, y2, z2, n2, e2, g2, c2, d2⟩ := hp _ m2
  show wpAny (model prog w) A (keyLt' (tuples' true) p.1 q.1) (fun b s2 => s2 = s ∧ b = lxT (k p.1) (k q.1)) (fun _ _ => False) s
  unfold lxT SrtO.lexB
  generalize k p.1 = kp at *
  generalize k q.1 = kq at *
  obtain ⟨i, j, c⟩ := kp
  obtain ⟨i2, j2, c2'⟩ := kq
  simp only at uq d1 d2 ⊢
  rw [e1, e2]
  refine PySem.W.kat_lt g1 d1 g2 d2 ?_
  show PySem.W.KatLex prog w A true (decide (3 < 3)) _ [(Value.int i x1, Value.int i2 x2), (Value.int j y1, Value.int j2 y2), (Value.str c z1, Value.str c2' z2)] 0 s
  refine PySem.W.kat_cons (SeqAt.EqAt.int_int i x1 i2 x2 prog w _ _ (PySem.W.kat_go (fun f1 => ?_) fun f1 => ?_))
  · obtain rfl : i = i2 := by simpa using f1
    refine PySem.W.kat_yes (PySem.W.kat_cons (SeqAt.EqAt.int_int j y1 j2 y2 prog w _ _ (PySem.W.kat_go (fun f2 => ?_) fun f2 => ?_)))
    · obtain rfl : j = j2 := by simpa using f2
      obtain rfl : c = c2' := uq rfl rfl
      refine PySem.W.kat_yes (PySem.W.kat_cons (SeqAt.EqAt.str_str c z1 c z2 prog w _ _ (PySem.W.kat_go (fun _ => ?_) fun f3 => ?_)))
      · refine PySem.W.kat_yes (PySem.W.kat_nil ⟨rfl, ?_⟩)
        rw [if_pos rfl]
        exact (decide_eq_false (Int.lt_irrefl j)).symm
      · exact absurd f3 (by simp)
    · refine PySem.W.kat_no (PySem.W.kat_one _ _ (PyProof.Rows.lt_int ?_))
      exact ⟨rfl, (if_pos rfl).symm⟩
  · have ne : ¬ i = i2 := by simpa using f1
    exact PySem.W.kat_no (oneLt_int ⟨rfl, (if_neg ne).symm⟩)
end
section
variable {prog : Program} {w : World} {A : Around} {E : Value → Shared → Prop} {s : Shared}
theorem trip_sorted {l : Addr} {vs : List Value} {k : Value → Int × Int × Str} {Q : Value → Shared → Prop} (hl : s.heap.IsList l vs.toArray) (hz : vs.length ≤ sizeLine) (hp : ∀ v ∈ vs, Trip s.heap v (k v))
    (hu : ∀ v ∈ vs, ∀ u ∈ vs, (k v).1 = (k u).1 → (k v).2.1 = (k u).2.1 → (k v).2.2 = (k u).2.2)
    (fin : ∀ (h2 : Heap) (d : Addr) (zs : List Value), SrtO.Srtd (fun v u => lxT (k v) (k u)) zs → SrtO.Stb (fun v u => lxT (k v) (k u)) zs vs → (∀ b o, s.heap.get? b = some o → h2.get? b = some o) → s.heap.objs.size ≤ d → (∃ n, h2.get? d = some (seqObj "list" zs.toArray n)) → Q (.ref d) { s with heap := h2 }) :
    wpAny (model prog w) A (call (.builtin "sorted") [.ref l]) Q E s := by
  refine SrtO.sorted_ord (lxT_swo k) hl hz (fun two g b hb keepb => ?_) fun zs z1 z2 => fin _ _ zs z1 z2 (fun b o e => sortedAll_old e) (Nat.le_succ _) (sortedAll_at s.heap vs zs.toArray)
  intro g2 keep2
  have nb : ∀ o, g.get? b = some o → o.cls ≠ .type "tuple" := fun o e c => by
    rw [hb] at e
    cases e
    exact absurd (Value.type.inj c) (by decide)
  have tp : ∀ v ∈ vs, Trip g2 v (k v) := fun v hv => (hp v hv).moved fun c o e ct => keep2 c o (fun z => by subst z; exact nb o (keepb _ o e).2 ct) (keepb c o e).2
  have tups : ∀ us : List Value, (∀ v ∈ us, Trip g2 v (k v)) → ∃ fs : List Value, PySem.W.KatTups g2 us fs ∧ fs.length = us.length ∧ ∀ f ∈ fs, ∃ i t, f = Value.int i t := by
    intro us
    induction us with
    | nil => exact fun _ => ⟨[], .nil, rfl, fun f h => absurd h List.not_mem_nil⟩
    | cons v us ih =>
      intro hv
      obtain ⟨fs, f1, f2, f3⟩ := ih fun x hx => hv x (List.mem_cons_of_mem _ hx)
      obtain ⟨a, o, t1, t2, t3, n, e, ho, hc, hd⟩ := hv v List.mem_cons_self
      subst e
      refine ⟨.int (k (.ref a)).1 t1 :: fs, .cons ho hc hd rfl f1, by rw [List.length_cons, List.length_cons, f2], fun f hf => ?_⟩
      rcases List.mem_cons.mp hf with rfl | hf
      · exact ⟨_, _, rfl⟩
      · exact f3 f hf
  obtain ⟨fs, f1, f2, f3⟩ := tups vs tp
  refine ⟨tuples' true, fun Q' E' hq => ?_, trip_lt (s := { s with heap := g2 }) tp hu⟩
  refine PySem.W.kat_kind (s := { s with heap := g2 }) (T := .type "int") f1 (by omega) (fun f hf => ?_) (by rfl) ?_
  · obtain ⟨i, t, rfl⟩ := f3 f hf
    exact PySem.W.Looks.now
  · rw [show (Value.type "int" != Value.type "tuple") = true by first | decide +kernel | rfl]
    exact hq
end
/-- sorted(xs), xs triples that their first two parts tell apart -/
def rSortTr (K : PySem.W.Frag) : List V → Hp → VK → Prop := fun vs H Q => ∃ (a : Addr) (xs : List V) (k : V → Int × Int × Str), vs = [V.ref a] ∧ SqL K H a xs ∧ (∀ x ∈ xs, ∃ t, x = V.ref t ∧ H t = some (.tup [.int (k x).1, .int (k x).2.1, .str (k x).2.2])) ∧
  (∀ x ∈ xs, ∀ y ∈ xs, (k x).1 = (k y).1 → (k x).2.1 = (k y).2.1 → (k x).2.2 = (k y).2.2) ∧ ∀ zs p, zs.Perm xs → zs.Pairwise (fun x y => lxT (k y) (k x) = false) → H p = none → Q (.ref p) (upd H p (.lst zs))
theorem cr_sortTr {X : Cx} {K : PySem.W.Frag} (hK : X.K = K) : CallR X (.builtin "sorted") (rSortTr K) := by
  subst hK
  intro pins s σ H args us Q I rr hyp
  obtain ⟨a, xs, k, rfl, hs, ht, hu, q⟩ := hyp
  obtain ⟨its, rv, isl, small⟩ := I.list hs
  obtain ⟨u0, rfl, r0⟩ := vals1 rr
  obtain rfl : u0 = Value.ref a := r0
  obtain ⟨exs, refs⟩ := refs_back rv fun x hx => by
    obtain ⟨t, e, _⟩ := ht x hx
    exact ⟨t, e⟩
  have inx : ∀ v ∈ its, backV v ∈ xs := fun v hv => by
    rw [exs]
    exact List.mem_map.mpr ⟨v, hv, rfl⟩
  refine trip_sorted (k := fun v => k (backV v)) isl.isList (by rw [← rv.length]; exact small) (fun v hv => ?_) (fun v hv u hu' => hu _ (inx v hv) _ (inx u hu')) fun h2 d zs z1 z2 kp hd hn => ?_
  · obtain ⟨t, rfl⟩ := refs v hv
    obtain ⟨t2, e2, at2⟩ := ht _ (inx _ hv)
    cases e2
    obtain ⟨_, parts, rp, o, ho, hc, n, hd⟩ := I.hok _ _ at2
    cases rp with
    | cons r1 rp =>
      obtain ⟨w2, w3, rfl, r2, r3⟩ := vals2 rp
      obtain ⟨k1, rfl⟩ := r1
      obtain ⟨k2, rfl⟩ := r2
      obtain ⟨k3, rfl⟩ := r3
      exact ⟨t, o, k1, k2, k3, n, rfl, ho, hc, hd⟩
  · have zr : ∀ v ∈ zs, ∃ b, v = Value.ref b := fun v hv => refs v (z2.perm.mem_iff.mp hv)
    obtain ⟨n, hn⟩ := hn
    have pm : (zs.map backV).Perm xs := by
      rw [exs]
      exact z2.perm.map backV
    refine ⟨.ref d, upd H d (.lst (zs.map backV)), I.laid (t' := s.toks) kp hd ⟨?_, zs, n, vals_back zr, hn⟩, rfl, q _ d pm ?_ (I.hok.fresh hd)⟩
    · rw [pm.length_eq]
      exact small
    · exact List.pairwise_map.mpr z1
section
variable {K : PySem.W.Frag} {ms : List Addr} {H : Hp} {x : V}
abbrev encTr (y : Int × Int × Str) : D := D.tup [D.v (V.int y.1), D.v (V.int y.2.1), D.v (V.str y.2.2)]
def keyAt (H : Hp) : V → Int × Int × Str
  | .ref t => match H t with
    | some (.tup [.int i, .int j, .str c]) => (i, j, c)
    | _ => (0, 0, Str.empty)
  | _ => (0, 0, Str.empty)
theorem rep_tr {y : Int × Int × Str} {v : V} (h : rep ms H (encTr y) v) : keyAt H v = y ∧ ∃ t, v = .ref t ∧ H t = some (.tup [.int y.1, .int y.2.1, .str y.2.2]) := by
  simp only [rep] at h
  obtain ⟨p, vs, rfl, _, hp, hr⟩ := h
  obtain ⟨u1, r1, rfl, h1, hr⟩ := repL_uncons hr
  obtain ⟨u2, r2, rfl, h2, hr⟩ := repL_uncons hr
  obtain ⟨u3, r3, rfl, h3, hr⟩ := repL_uncons hr
  obtain rfl := repL_empty hr
  obtain rfl := of_v h1
  obtain rfl := of_v h2
  obtain rfl := of_v h3
  refine ⟨?_, p, rfl, hp⟩
  unfold keyAt
  simp only [hp]
theorem repL_keys : ∀ {xs : List (Int × Int × Str)} {vs : List V}, repL ms H (xs.map encTr) vs → vs.map (keyAt H) = xs ∧ ∀ v ∈ vs, rep ms H (encTr (keyAt H v)) v
  | [], vs, h => by
    obtain rfl := repL_empty h
    exact ⟨rfl, fun v hv => absurd hv List.not_mem_nil⟩
  | y :: xs, vs, h => by
    obtain ⟨u, us, rfl, h1, h2⟩ := repL_uncons h
    obtain ⟨e, f⟩ := repL_keys h2
    have k1 := (rep_tr h1).1
    refine ⟨by rw [List.map_cons, e, k1], fun v hv => ?_⟩
    rcases List.mem_cons.mp hv with rfl | hv
    · rw [k1]
      exact h1
    · exact f v hv
theorem repL_of_keys : ∀ {vs : List V}, (∀ v ∈ vs, rep ms H (encTr (keyAt H v)) v) → repL ms H ((vs.map (keyAt H)).map encTr) vs
  | [], _ => repL_nil
  | v :: vs, h => repL_cons (h v List.mem_cons_self) (repL_of_keys fun u hu => h u (List.mem_cons_of_mem _ hu))
theorem rep_sortTr {xs : List (Int × Int × Str)} {P : List V → Addr → Prop} (h : rep ms H (.lst (xs.map encTr)) x) (uq : ∀ a ∈ xs, ∀ b ∈ xs, a.1 = b.1 → a.2.1 = b.2.1 → a.2.2 = b.2.2)
    (q : ∀ (ys : List (Int × Int × Str)) (zs : List V), ys.Perm xs → ys.Pairwise (fun a b => lxT b a = false) → repL ms H (ys.map encTr) zs → ∀ p, H p = none → P zs p) :
    ∃ (a : Addr) (vs : List V) (k : V → Int × Int × Str), [x] = [V.ref a] ∧ SqL K H a vs ∧ (∀ x ∈ vs, ∃ t, x = V.ref t ∧ H t = some (.tup [.int (k x).1, .int (k x).2.1, .str (k x).2.2])) ∧
      (∀ x ∈ vs, ∀ y ∈ vs, (k x).1 = (k y).1 → (k x).2.1 = (k y).2.1 → (k x).2.2 = (k y).2.2) ∧ ∀ (zs : List V) (p : Addr), zs.Perm vs → zs.Pairwise (fun x y => lxT (k y) (k x) = false) → H p = none → P zs p := by
  simp only [rep] at h
  obtain ⟨p, vs, rfl, _, hp, hr⟩ := h
  obtain ⟨e, f⟩ := repL_keys hr
  have mem : ∀ v ∈ vs, keyAt H v ∈ xs := fun v hv => by
    rw [← e]
    exact List.mem_map.mpr ⟨v, hv, rfl⟩
  refine ⟨p, vs, keyAt H, rfl, .inl (.inl hp), fun v hv => (rep_tr (f v hv)).2, fun v hv u hu => uq _ (mem v hv) _ (mem u hu), fun zs l pm srt nl => ?_⟩
  refine q (zs.map (keyAt H)) zs ?_ ?_ (repL_of_keys fun v hv => f v (pm.mem_iff.mp hv)) l nl
  · rw [← e]
    exact pm.map _
  · exact List.pairwise_map.mpr srt
end
/-! comprehensions over a list of one's own, which stays -/
section
variable {α β : Type} {K : PySem.W.Frag} {H1 : Hp} {g : TG} {tt : TT} {te : TE} {vl : List Nat} {σ : L2.St} {Qd : Hp → Prop} {L : Addr}
theorem mo_item {ms ps : List Addr} {H0 H : Hp} {a : Addr} {items : List α} {e : α → D} (m : MutO ms ps H0 H a (.lst (items.map e))) : ∃ vs, H a = some (.lst vs) ∧ vs.length = items.length ∧ ∀ (i : Nat) (it : α), items[i]? = some it → ∃ v, vs[i]? = some v ∧ rep ms H (e it) v := by
  obtain ⟨vs, h1, h2⟩ := m.val
  have hl := repL_len h2
  rw [List.length_map] at hl
  exact ⟨vs, h1, hl.symm, fun i it hi => repL_get h2 (by rw [List.getElem?_map, hi]; rfl)⟩
theorem mo_iter {ms ps : List Addr} {H0 H : Hp} {a : Addr} {ds : List D} {P : Addr → Prop} (m : MutO ms ps H0 H a (.lst ds)) (k : P a) : ∃ b, V.ref a = .ref b ∧ (∃ xs, SqL K H b xs) ∧ P b := by
  obtain ⟨vs, h1, _⟩ := m.val
  exact ⟨a, rfl, ⟨vs, .inl (.inl h1)⟩, k⟩
theorem lc_mutG {items : List α} {e : α → D} {ms ps : List Addr} {H0 : Hp} {a : Addr} {body : α → (β → Prop) → Prop} {KM : List β → Prop} (SI : Nat → List β → Hp → Prop)
    (mo : ∀ n ys H, SI n ys H → MutO (L :: ms) ps H0 H a (.lst (items.map e))) (hM : items.length < 100000 ∧ mapC body items [] KM) (h0 : SI 0 [] (upd H1 L (.lst [])))
    (hs : ∀ (x : α) (u : V) (n : Nat) (ys : List β) (k : β → Prop) (H : Hp), n < 100000 → SI n ys H → rep (L :: ms) H (e x) u → body x k → ∀ Nx : Hp → Prop, (∀ y H', k y → SI (n + 1) (ys ++ [y]) H' → Nx H') → Turn g tt te vl σ L u H Nx)
    (hd : ∀ n ys H, KM ys → SI n ys H → Qd H) :
    ∃ W : Nat → Nat → Hp → Prop, (∃ m, W 0 m (upd H1 L (.lst []))) ∧ ∀ i m H, W i m H →
      ((Itl K a).stop i H ∧ Qd H) ∨ ((Itl K a).go i H ∧ ∃ Nx : Hp → Prop, (∀ H', Nx H' → ∃ m', m' < m ∧ W (i + 1) m' H') ∧ ∀ x H', (Itl K a).yld i H x H' → g x (wipe σ vl) H' fun σ2 H2 => wipe σ2 vl = wipe σ vl ∧ tt σ2 H2 fun b H3 =>
        if b = true then te σ2 H3 fun y H4 => ∃ acc, H4 L = some (.lst acc) ∧ acc.length < sizeLine ∧ Nx (upd H4 L (.lst (acc ++ [y]))) else Nx H3) := by
  obtain ⟨hn, hM⟩ := hM
  refine ⟨fun i m H => m = items.length - i ∧ i ≤ items.length ∧ ∃ ys, SI i ys H ∧ mapC body (items.drop i) ys KM, ⟨_, rfl, Nat.zero_le _, [], h0, hM⟩, ?_⟩
  rintro i m H ⟨rfl, le, ys, T, q⟩
  obtain ⟨vs, ha, hl, hi⟩ := mo_item (mo i ys H T)
  by_cases lt : i < items.length
  · have hit : items[i]? = some (items[i]'lt) := List.getElem?_eq_getElem lt
    obtain ⟨v, hv, rv⟩ := hi i _ hit
    refine .inr ⟨⟨vs, v, .inl (.inl ha), hv⟩, fun H' => i + 1 ≤ items.length ∧ ∃ ys, SI (i + 1) ys H' ∧ mapC body (items.drop (i + 1)) ys KM, fun H' p' => ⟨_, by omega, rfl, p'⟩, fun x H' y => ?_⟩
    obtain ⟨e1, y⟩ := y
    subst e1
    have hx := y vs (.inl (.inl ha))
    rw [hv] at hx
    obtain rfl : v = x := Option.some.inj hx
    rw [drop_cons' hit] at q
    exact hs _ v i ys _ H' (by omega) T rv q _ fun y2 H2 k2 T2 => ⟨lt, _, T2, k2⟩
  · refine .inl ⟨⟨vs, .inl (.inl ha), by omega⟩, ?_⟩
    rw [List.drop_of_length_le (by omega)] at q
    exact hd _ ys H q T
theorem lf_mutG {items : List α} {e : α → D} {ms ps : List Addr} {H0 : Hp} {a : Addr} {body : α → (Option β → Prop) → Prop} {KM : List β → Prop} (SI : Nat → List β → Hp → Prop)
    (mo : ∀ n ys H, SI n ys H → MutO (L :: ms) ps H0 H a (.lst (items.map e))) (hM : items.length < 100000 ∧ filC body items [] KM) (h0 : SI 0 [] (upd H1 L (.lst [])))
    (hs : ∀ (x : α) (u : V) (n : Nat) (ys : List β) (k : Option β → Prop) (H : Hp), n < 100000 → SI n ys H → rep (L :: ms) H (e x) u → body x k → ∀ Nx : Hp → Prop, (∀ y H', k (some y) → SI (n + 1) (ys ++ [y]) H' → Nx H') → (∀ H', k none → SI (n + 1) ys H' → Nx H') → Turn g tt te vl σ L u H Nx)
    (hd : ∀ n ys H, KM ys → SI n ys H → Qd H) :
    ∃ W : Nat → Nat → Hp → Prop, (∃ m, W 0 m (upd H1 L (.lst []))) ∧ ∀ i m H, W i m H →
      ((Itl K a).stop i H ∧ Qd H) ∨ ((Itl K a).go i H ∧ ∃ Nx : Hp → Prop, (∀ H', Nx H' → ∃ m', m' < m ∧ W (i + 1) m' H') ∧ ∀ x H', (Itl K a).yld i H x H' → g x (wipe σ vl) H' fun σ2 H2 => wipe σ2 vl = wipe σ vl ∧ tt σ2 H2 fun b H3 =>
        if b = true then te σ2 H3 fun y H4 => ∃ acc, H4 L = some (.lst acc) ∧ acc.length < sizeLine ∧ Nx (upd H4 L (.lst (acc ++ [y]))) else Nx H3) := by
  obtain ⟨hn, hM⟩ := hM
  refine ⟨fun i m H => m = items.length - i ∧ i ≤ items.length ∧ ∃ ys, SI i ys H ∧ filC body (items.drop i) ys KM, ⟨_, rfl, Nat.zero_le _, [], h0, hM⟩, ?_⟩
  rintro i m H ⟨rfl, le, ys, T, q⟩
  obtain ⟨vs, ha, hl, hi⟩ := mo_item (mo i ys H T)
  by_cases lt : i < items.length
  · have hit : items[i]? = some (items[i]'lt) := List.getElem?_eq_getElem lt
    obtain ⟨v, hv, rv⟩ := hi i _ hit
    refine .inr ⟨⟨vs, v, .inl (.inl ha), hv⟩, fun H' => i + 1 ≤ items.length ∧ ∃ ys, SI (i + 1) ys H' ∧ filC body (items.drop (i + 1)) ys KM, fun H' p' => ⟨_, by omega, rfl, p'⟩, fun x H' y => ?_⟩
    obtain ⟨e1, y⟩ := y
    subst e1
    have hx := y vs (.inl (.inl ha))
    rw [hv] at hx
    obtain rfl : v = x := Option.some.inj hx
    rw [drop_cons' hit] at q
    exact hs _ v i ys _ H' (by omega) T rv q _ (fun y2 H2 k2 T2 => ⟨lt, _, T2, k2⟩) fun H2 k2 T2 => ⟨lt, _, T2, k2⟩
  · refine .inl ⟨⟨vs, .inl (.inl ha), by omega⟩, ?_⟩
    rw [List.drop_of_length_le (by omega)] at q
    exact hd _ ys H q T
end
end Rx
namespace Rx
open PySem PySem.Spec PyProof.Rows L2
section
variable {K : PySem.W.Frag} {ms ps : List Addr} {H0 H : Hp} {L : Addr} {u : V}
theorem mo_insU {α : Type} {e : α → D} {xs : List α} {i : Int} {P : Addr → List V → Int → V → Prop} (m : MutO ms ps H0 H L (.lst (xs.map e))) (hl : xs.length < 16777216 ∧ 0 ≤ i ∧ i < 2 ^ 63) (k : ∀ vs, repL ms H (xs.map e) vs → P L vs i u) :
    ∃ (l : Addr) (zs : List V) (j : Int) (y : V), V.ref L = .ref l ∧ [V.int i, u] = [.int j, y] ∧ H l = some (.lst zs) ∧ zs.length < sizeLine ∧ 0 ≤ j ∧ j < 2 ^ 63 ∧ P l zs j y := by
  obtain ⟨vs, h1, h2⟩ := m.val
  refine ⟨L, vs, i, u, rfl, rfl, h1, ?_, hl.2.1, hl.2.2, k vs h2⟩
  rw [← repL_len h2, sizeLine_eq, List.length_map]
  exact hl.1
theorem repL_ins {α : Type} {e : α → D} {xs : List α} {y : α} {vs : List V} (i : Nat) (r : repL ms H (xs.map e) vs) (h : rep ms H (e y) u) : repL ms H ((xs.take i ++ [y] ++ xs.drop i).map e) (vs.take i ++ [u] ++ vs.drop i) := by
  rw [List.map_append, List.map_append, List.map_take, List.map_drop]
  exact repL_app (repL_app (repL_take _ r) (repL_one h)) (repL_drop _ r)
end
end Rx
/-! data in f-strings; repr and str of own things where no text is under way -/
namespace Rx
open PySem PySem.Spec PyProof.Rows L2
section
variable {X : Cx}
def tFmtD (K : PySem.W.Frag) (te : TE) : TE := fun σ H Q => te σ H fun x H1 => ∃ (a : Addr) (d : PyData), x = .ref a ∧ Dp K H1 (.ref a) d ∧ d.showable = true ∧ d.hasDict = false ∧ d.depth ≤ 60 ∧ d.shown.length ≤ sizeLine ∧ Q (.str d.shown) H1
theorem pe_fmtD {e : PySem.Expr} {te : TE} {pos : Pos} {k : Nat} {K : PySem.W.Frag} (hK : X.K = K) (gu : X.A.guards = some []) (hr : Room k X.A) (he : PE X e te) : PE X (.FormattedValue e (-1) none pos) (tFmtD K te) := by
  subst hK
  refine ⟨fun pins s σ H Q I h => ?_⟩
  refine wpAny_FormattedValue_plain (thn (he.run pins s σ H _ I h) fun v s1 hv => ?_)
  obtain ⟨x, H1, I1, r1, a, d, rfl, dp, sh, nd, dep, len, q⟩ := hv
  cases r1
  obtain ⟨as, rd⟩ := Dp.reads I1 d _ _ dp rfl
  have un := hr.un
  refine formatField_of_reads (h₀ := s1.heap) rd sh (fun z => by rw [nd] at z; cases z) gu (by omega) (fun _ _ h => h) (fun h' u tk keep => ?_) len
  exact ⟨.str d.shown, H1, I1.kept keep, ⟨u, rfl⟩, q⟩
theorem rep_fmtD {K : PySem.W.Frag} {ms : List Addr} {H : Hp} {d : D} {x : V} {P : PyData → Prop} (h : rep ms H d x) (hx : ∃ a, x = .ref a) (g : plainD d = true ∧ (pyOf d).showable = true ∧ (pyOf d).hasDict = false ∧ (pyOf d).depth ≤ 60 ∧ (pyOf d).shown.length ≤ sizeLine) (q : P (pyOf d)) :
    ∃ (a : Addr) (d : PyData), x = .ref a ∧ Dp K H (.ref a) d ∧ d.showable = true ∧ d.hasDict = false ∧ d.depth ≤ 60 ∧ d.shown.length ≤ sizeLine ∧ P d := by
  obtain ⟨a, rfl⟩ := hx
  exact ⟨a, _, rfl, dp_of (K := K) d _ g.1 h, g.2.1, g.2.2.1, g.2.2.2.1, g.2.2.2.2, q⟩
theorem rep_refL {ms : List Addr} {H : Hp} {ds : List D} {x : V} (h : rep ms H (.lst ds) x) : ∃ a, x = .ref a := by
  simp only [rep] at h
  obtain ⟨p, vs, e, _⟩ := h
  exact ⟨p, e⟩
theorem rep_refT {ms : List Addr} {H : Hp} {ds : List D} {x : V} (h : rep ms H (.tup ds) x) : ∃ a, x = .ref a := by
  simp only [rep] at h
  obtain ⟨p, vs, e, _⟩ := h
  exact ⟨p, e⟩
variable {n : Nat} {C f : Addr} {fd : FuncData} {ps : List Str} {sp : Sp}
theorem ownTextG_run (F : FnG X.prog X.w X.K X.mg X.base n f fd ps sp) {A : Around} (hg : A.guards = some []) (hr : Room n A) (hb : Binds X.K fd ps []) {pins : List (Addr × Obj)} {σ : L2.St} {H : Hp} {s : Shared} {a : Addr} {Q : VK} (I : Inv X pins σ H s)
    (en : Env0 X.prog X.w X.K X.mg X.base A X.stack s H) (h : sp [.ref a] H (fun v H' => ∃ z : Str, v = .str z ∧ Q v H') E0) : wpAny (model X.prog X.w) A (call (.ref f) [.ref a]) (PySem.W.StrBack (EP X pins σ Q)) X.xe s := by
  have hl := F.len _ _ _ _ h
  have bt := hb s [.ref a] I.kIn (by rw [List.append_nil]; exact hl)
  rw [List.append_nil] at bt
  refine wpAny_call (codeAny_mono (F.run A hg hr X.stack s H ⟨[.ref a], []⟩ [.ref a] [.ref a] _ E0 en bt (.cons rfl .nil) h) fun out s' hq => ?_)
  rcases out with err | fl
  · exact pass0 pins σ H s err s' I hq
  · rcases fl with _ | _ | _ | u
    · exact hq.elim
    · exact hq.elim
    · exact hq.elim
    · obtain ⟨v, H', I', rv, z, ez, q⟩ := I.after hq
      subst ez
      obtain ⟨t, rfl⟩ := rv
      exact ⟨.str z, H', I', ⟨t, rfl⟩, q⟩
theorem call_reprOwnG (F : FnG X.prog X.w X.K X.mg X.base n f fd ps sp) (gu : X.A.guards = some []) (hr : Room (n + 1) X.A) (o : OwnText X.K C "__repr__" f) (hb : Binds X.K fd ps []) : CallR X (.builtin "repr") (rOwnText C sp E0) := by
  intro pins s σ H xs us Q I r h
  obtain ⟨x, a, dx, fs, rfl, rfl, ha, hsp⟩ := h
  obtain ⟨u, rfl, ru⟩ := r.one
  cases ru
  obtain ⟨mA, J, _⟩ := ins_get I.hok ha
  obtain ⟨od, J, _⟩ := J.look
  obtain ⟨m, hF⟩ := I.fr
  exact PySem.W.repr_K hr.in1.units0 hF I.ok.mod.kin J o.hs o.hf (ownTextG_run (A := X.A.in1) F (show X.A.in1.guards = some [] from gu) hr.in1 hb I I.env0.in1 hsp)
theorem call_strOwnG (F : FnG X.prog X.w X.K X.mg X.base n f fd ps sp) (gu : X.A.guards = some []) (hr : Room (n + 2) X.A) (o : OwnText X.K C "__str__" f) (hb : Binds X.K fd ps []) : CallR X (.type "str") (rOwnText C sp E0) := by
  intro pins s σ H xs us Q I r h
  obtain ⟨x, a, dx, fs, rfl, rfl, ha, hsp⟩ := h
  obtain ⟨u, rfl, ru⟩ := r.one
  cases ru
  obtain ⟨mA, J, _⟩ := ins_get I.hok ha
  obtain ⟨od, J, _⟩ := J.look
  exact PySem.W.kso_call hr.in1.in1.units0 I.kIn J o.hs o.hf (ownTextG_run (A := X.A.in1.in1) F (show X.A.in1.in1.guards = some [] from gu) hr.in1.in1 hb I I.env0.in1.in1 hsp)
end
end Rx
namespace PySem
open Sem (wp)
open AutoSeq1 (wpAny_loadPart')
theorem meets_enum_tup (t : Addr) (items : Array Value) :
    Meets (Builtin.«enumerate.__new__» ⟨[.type "enumerate", .ref t], []⟩) (fun _ R s => s.heap.IsTuple t items ∧
      R (.ok (.ret (.ref (s.heap.push { cls := .type "tuple_iterator", data := .fields #[.ref t, .int 0 0] }).objs.size)))
        { s with heap := (s.heap.push { cls := .type "tuple_iterator", data := .fields #[.ref t, .int 0 0] }).push { cls := .type "enumerate", data := .fields #[.none, .bool false, .ref s.heap.objs.size, rawInt 0, .none, .none] } }) :=
  .of_wp fun prog w A R s h => by
    obtain ⟨hp, g, d, tk, os⟩ := s; obtain ⟨h1, h⟩ := h
    have hsub := sub_enumerate
    have q1 : ∀ {A' : Around} {E : Value → Shared → Prop} {Q : Value → Shared → Prop}, Q (.ref hp.objs.size) ⟨hp.push { cls := .type "tuple_iterator", data := .fields #[.ref t, .int 0 0] }, g, d, tk, os⟩ → wpAny (model prog w) A' (pyIter (.ref t)) Q E ⟨hp, g, d, tk, os⟩ :=
      fun q => (begins_tuple t items).iter prog w _ _ ⟨hp, g, d, tk, os⟩ _ h1 q
    wp_walk using q1
    refine wpAny_stack_any fun st => wpAny_pure ?_
    split
    · rename_i c _ _ _ _ _
      cases (c == Value.type "enumerate")
      · wp_walk using q1
        exact ⟨_, rfl, h⟩
      · wp_walk using q1
        exact ⟨_, rfl, h⟩
    · wp_walk using q1
      exact ⟨_, rfl, h⟩
section
variable {prog : Program} {w : World} {A : Around} {E : Value → Shared → Prop} {s : Shared}
theorem call_enum_tup {t : Addr} {items : Array Value} {Q : Value → Shared → Prop} (hL : s.heap.IsTuple t items)
    (h : ∀ h', IsEnum h' (s.heap.objs.size + 1) s.heap.objs.size 0 .none → h'.IsTupleIter s.heap.objs.size t 0 → h'.objs.size = s.heap.objs.size + 2 →
      (∀ b o, s.heap.get? b = some o → h'.get? b = some o) → Q (.ref (s.heap.objs.size + 1)) { s with heap := h' }) :
    wpAny (model prog w) A (call (.type "enumerate") [.ref t]) Q E s := by
  refine callType_new F.called_enumerate (by decide) (F.typeCall_enumerate_1 _) (F.newCall_enumerate_1 _) (fun obj => F.args_object_init_2 obj _) F.entry_enumerate_new
    (meets_enum_tup t items) ⟨hL, ?_⟩
  have hz : (s.heap.push { cls := .type "tuple_iterator", data := .fields #[.ref t, .int 0 0] }).objs.size = s.heap.objs.size + 1 := Heap.size_push ..
  show _ ∧ _
  rw [hz]
  have he : IsEnum ((s.heap.push { cls := .type "tuple_iterator", data := .fields #[.ref t, .int 0 0] }).push
      { cls := .type "enumerate", data := .fields #[.none, .bool false, .ref s.heap.objs.size, rawInt 0, .none, .none] }) (s.heap.objs.size + 1) s.heap.objs.size 0 .none := by
    have := Heap.get?_push_size (s.heap.push { cls := .type "tuple_iterator", data := .fields #[.ref t, .int 0 0] })
      (o := { cls := .type "enumerate", data := .fields #[.none, .bool false, .ref s.heap.objs.size, rawInt 0, .none, .none] }) rfl
    rw [hz] at this; exact this
  refine ⟨⟨_, he, rfl⟩, h _ he ⟨_, Heap.get?_push_of_some _ (Heap.get?_push_size _ rfl), rfl, rfl⟩ (by rw [Heap.size_push, hz]) fun b o x => Heap.get?_push_of_some _ (Heap.get?_push_of_some _ x)⟩
end
end PySem
namespace Rx
open PySem PySem.Spec PyProof.Rows L2
/-- the tuple at a as it stands at each turn, each item in a new pair -/
def IteT (K : PySem.W.Frag) (a : Addr) : It :=
  ⟨fun i H => ∃ (xs : List V) (x : V), SqT K H a xs ∧ xs[i]? = some x, fun i H v H' => ∃ T x, v = .ref T ∧ H T = none ∧ H' = upd H T (.tup [.int (i : Nat), x]) ∧ ∀ xs, SqT K H a xs → xs[i]? = some x, fun i H => ∃ xs : List V, SqT K H a xs ∧ xs.length ≤ i⟩
theorem turn_enumT {P : Program} {w : World} {K : PySem.W.Frag} {elts : List Expr} {kk : Nat} {tpos : Pos} (a e it : Addr) (hei : e ≠ it) (hai : a ≠ it) :
    L2.Turn P w K (.Tuple elts kk tpos) (IteT K a) [e, it] e (fun i h => (∃ old, IsEnum h e it ((i : Nat) : Int) old) ∧ h.IsTupleIter it a i) where
  mem := by simp
  obj := fun i h st b hb => by
    obtain ⟨⟨old, he⟩, ⟨o, ho, hc, hd⟩⟩ := st
    have e' : b = e ∨ b = it := by simpa using hb
    rcases e' with z | z
    · rw [z]; exact ⟨_, he, fun v q => nomatch q⟩
    · rw [z]; exact ⟨o, ho, fun v q => by rw [hd] at q; cases q⟩
  keep := fun i h h' st k => let ⟨⟨old, he⟩, hi⟩ := st; ⟨⟨old, k e (by simp) _ he⟩, hi.at fun o q => k it (by simp) o q⟩
  item := by
    intro X hP hw hK hc i pins s σ H E I hf st hg
    subst hP hw hK
    obtain ⟨⟨old, he⟩, hit⟩ := st
    obtain ⟨xs, x, hq, hx⟩ := hg
    obtain ⟨its, rv, p, hz⟩ := I.tuple hq
    obtain ⟨u, hu, ru⟩ := rv.get hx
    have hel : e < s.heap.objs.size := Heap.lt_size he
    have hil : it < s.heap.objs.size := by obtain ⟨_, q, _⟩ := hit; exact Heap.lt_size q
    have hea : e ≠ a := fun z => by
      obtain ⟨o, ho, hc', _⟩ := p
      rw [← z, he] at ho
      cases ho
      simp at hc'
    refine wpAny_pyNext_enum_itemD (Draws.tuple (A := X.A.in1) (I.ok.hd hc) it a hai its.toArray) he ⟨hit, p⟩ (by
      have := rv.length
      have := (List.getElem?_eq_some_iff.mp hx).1
      rw [List.size_toArray]
      omega) hei (by simp [hei, hea]) fun y h' tk hP ho hit' hT hsz hk => ?_
    have ey : y = u := by
      have h1 : its[i]? = some y := by simpa using hP
      rw [hu] at h1
      exact (Option.some.inj h1).symm
    subst ey
    refine ⟨_, rfl, wpAny_letOwnedTupleGo_enum (s := { s with heap := h', toks := tk + 1 }) ho fun h'' he' sb => ?_⟩
    have hT2 : h''.get? s.heap.objs.size = some { cls := .type "tuple", data := .seq #[.int i tk, y] } := (sb.2 _ (Nat.ne_of_gt hel)).trans hT
    have new : ObjOk X.prog X.w (upd H s.heap.objs.size (.tup [.int (i : Nat), x])) h'' s.heap.objs.size (.tup [.int (i : Nat), x]) :=
      ⟨by show 2 ≤ sizeLine; decide, [.int i tk, y], .cons ⟨_, rfl⟩ (.cons ru .nil), ⟨_, hT2, rfl, _, rfl⟩⟩
    have I1 : Inv X pins σ (upd H s.heap.objs.size (.tup [.int (i : Nat), x])) { s with heap := h'', toks := tk + 1 } :=
      I.turnedNew (ch := [e, it]) (fun b ob hb q => (sb.2 b (fun z => hb (by simp [z]))).trans (hk b ob (fun z => hb (by simp [z])) (fun z => hb (by simp [z])) q)) hf (Nat.le_refl _) new
    refine ⟨.ref s.heap.objs.size, _, I1, rfl, ⟨_, x, rfl, I.hok.fresh (Nat.le_refl _), rfl, fun ys hy => by rw [I.tuple_inj hy hq]; exact hx⟩, ⟨⟨y, ?_⟩, hit'.1.at fun o q => (sb.2 it (Ne.symm hei)).trans q⟩, fun b hb => ?_⟩
    · have e1 : ((i + 1 : Nat) : Int) = (i : Int) + 1 := by omega
      rw [e1]; exact he'
    · have hb' : b < s.heap.objs.size := by
        have e' : b = e ∨ b = it := by simpa using hb
        rcases e' with z | z
        · rw [z]; exact hel
        · rw [z]; exact hil
      rw [upd_ne (Nat.ne_of_lt hb')]
      exact (hf b hb).1
  done := by
    intro X hP hw hK hc i pins s σ H E I hf st hg
    subst hP hw hK
    obtain ⟨⟨old, he⟩, hit⟩ := st
    obtain ⟨xs, hq, hx⟩ := hg
    obtain ⟨its, rv, p, hz⟩ := I.tuple hq
    obtain ⟨f0, f1, f2, f3, f4, f5⟩ := hf it (by simp)
    have hl := rv.length
    have D : Draws X.prog X.w X.A.in1 it [it, a] i (fun i v => its.toArray[i]? = some v) (fun j h => j = i ∧ h.IsTupleIter it a i ∧ h.IsTuple a its.toArray) := {
      live := fun _ _ st => let ⟨o, ho, _⟩ := st.2.1; ⟨o, ho⟩
      frame := fun _ _ _ st hk => ⟨st.1, st.2.1.at fun o e => hk it (by simp) o e, st.2.2.at fun o e => hk a (by simp) o e⟩
      item := fun j s Q E hj st hQ => absurd hj (by rw [st.1]; exact Nat.lt_irrefl _)
      done := fun s Q E st hE => wpAny_nextOf_tuple_end (I.ok.hd hc) st.2.1 st.2.2 (by simp; omega) hE }
    refine wpAny_pyNext_enum_endD D he ⟨rfl, hit, p⟩ fun h' eb => ?_
    exact ⟨rfl, I.turned (t' := s.toks) (fun b o hb q => eb b o hb q) f0 f1 f3 f4 f5⟩
  self := fun A i s Q E st h => let ⟨⟨_, he⟩, _⟩ := st; wpAny_pyIter_enum he h
def iEnumT (K : PySem.W.Frag) (ta : TA) : TI := fun σ H R => ta σ H fun vs H1 => ∃ a xs, vs = [.ref a] ∧ SqT K H1 a xs ∧ R (IteT K a) H1
theorem pi_enumT {X : Cx} {K : PySem.W.Frag} {e : PySem.Expr} {ta : TA} {p pos tpos : Pos} {elts : List PySem.Expr} {kk : Nat} (hK : X.K = K) (hg : Gl X "enumerate") (hm : X.mg "enumerate" = none) (ha : PA X [e] ta) (hs : starEach [e] X.env = [(false, eval e X.env)] := by rfl) :
    PI X (.Tuple elts kk tpos) (.Call (.Name "enumerate" p) [e] [] pos) (iEnumT K ta) := by
  subst hK
  refine ⟨fun pins s σ H R I h => ?_⟩
  refine Call_ (ld_blt I hg hm boot_enumerate (PyProof.Rows.callWith_type1 (thn (ha.run pos pins s σ H _ I h) fun us s1 ⟨vs, H1, I1, r1, q1⟩ => ?_) hs rfl))
  obtain ⟨a, xs, ex, hq, q⟩ := q1
  subst ex
  cases r1 with
  | cons r rr =>
    cases rr
    cases r
    obtain ⟨its, rv, p', hz⟩ := I1.tuple hq
    have hal : a < s1.heap.objs.size := by
      obtain ⟨o, ho, _⟩ := p'
      exact Heap.lt_size ho
    refine call_enum_tup p' fun h' he hit hsz hk => wpAny_pyIter_enum he ?_
    have I2 : Inv X pins σ H1 { s1 with heap := h' } := I1.kept (t' := s1.toks) hk
    refine ⟨s1.heap.objs.size + 1, [s1.heap.objs.size + 1, s1.heap.objs.size], _, _, H1, rfl, I2, turn_enumT a (s1.heap.objs.size + 1) s1.heap.objs.size (Nat.succ_ne_self _) (Nat.ne_of_lt hal), ⟨⟨.none, he⟩, hit⟩, fun b hb => ?_, q⟩
    have e' : b = s1.heap.objs.size + 1 ∨ b = s1.heap.objs.size := by simpa using hb
    have hle : s1.heap.objs.size ≤ b := by
      rcases e' with z | z
      · rw [z]; exact Nat.le_add_right _ _
      · rw [z]; exact Nat.le_refl _
    exact I1.fpOk hle (I1.hok.fresh hle)
section
variable {K : PySem.W.Frag} {a : Addr} {xs : List V}
theorem walk_enumT : L2.Walk (IteT K a) xs.length (fun H => SqT K H a xs) (YPair (fun i => some (.int (i : Nat))) (fun i => xs[i]?)) := by
  refine ⟨fun i _ hi q => ⟨xs, xs[i], q, by simp [hi]⟩, fun _ q => ⟨xs, q, Nat.le_refl _⟩, fun i H v H' _ q y => ?_⟩
  obtain ⟨T, x, h1, h2, h3, h4⟩ := y
  exact ⟨T, .int (i : Nat), x, h1, h2, h3, rfl, h4 xs q⟩
end
section
variable {α S : Type} {K : PySem.W.Frag} {H1 : Hp} {g : TG} {tb : TS} {D' : Ends} {σ : L2.St}
theorem for_enumGT {items : List α} {e : α → D} {ms : List Addr} {a : Addr} {xs : List V} {body : (Int × α) → S → (S → Prop) → Prop} {KM : S → Prop} (SI : S → L2.St → Hp → Prop) (s0 : S) (an : a ∉ ms) (ha : H1 a = some (.tup xs)) (hx : repL ms H1 (items.map e) xs)
    (kp : ∀ s σ H, SI s σ H → Keep ms H1 H) (tr : ∀ s σ H, SI s σ H → ∀ m ∈ ms, H m ≠ none) (hM : forC body ((rangeI 0 (items.length : Int)).zip items) s0 KM) (h0 : SI s0 σ H1)
    (hs : ∀ (x : Int × α) (u : V) (s : S) (k : S → Prop) (σ : L2.St) (H H2 : Hp), SI s σ H → Ext H H2 → rep ms H2 (.tup [.v (.int x.1), e x.2]) u → body x s k → ∀ Nx : L2.St → Hp → Prop, (∀ s' σ' H', k s' → SI s' σ' H' → Nx σ' H') →
      g u σ H2 fun σ2 H2 => tb { D' with nx := Nx, ct := Nx, bk := D'.nx } σ2 H2)
    (hd : ∀ s σ H, KM s → SI s σ H → D'.nx σ H) :
    ∃ W : Nat → Nat → L2.St → Hp → Prop, (∃ m, W 0 m σ H1) ∧ ∀ i m σ H, W i m σ H →
      ((IteT K a).stop i H ∧ D'.nx σ H) ∨ ((IteT K a).go i H ∧ ∃ Nx : L2.St → Hp → Prop, (∀ σ' H', Nx σ' H' → ∃ m', m' < m ∧ W (i + 1) m' σ' H') ∧ ∀ x H', (IteT K a).yld i H x H' → g x σ H' fun σ2 H2 => tb { D' with nx := Nx, ct := Nx, bk := D'.nx } σ2 H2) := by
  have hl : items.length = xs.length := by
    have := repL_len hx
    rwa [List.length_map] at this
  have rl : (rangeI 0 (items.length : Int)).length = items.length := by rw [rangeI_len]; omega
  have zl : ((rangeI 0 (items.length : Int)).zip items).length = xs.length := by rw [List.length_zip, rl, hl, Nat.min_self]
  refine for_it (walk_enumT (K := K) (a := a) (xs := xs)) (D := D') (fun i σ H => ∃ s, SI s σ H ∧ forC body (((rangeI 0 (items.length : Int)).zip items).drop i) s KM) ⟨s0, h0, hM⟩ (fun i σ H _ ⟨s, si, _⟩ => .inl (.inl (kp s σ H si a _ an ha))) (fun i u σ H H' hi ⟨s, si, q⟩ y => ?_) (fun σ H ⟨s, si, q⟩ => ?_)
  · obtain ⟨T, x1, x2, rfl, nT, eH, e1, e2⟩ := y
    have hit : items[i]? = some (items[i]'(by omega)) := List.getElem?_eq_getElem (by omega)
    have hz : ((rangeI 0 (items.length : Int)).zip items)[i]? = some ((i : Int), items[i]'(by omega)) := by
      rw [List.getElem?_zip_eq_some]
      exact ⟨by rw [rangeI_get (by omega)]; congr 1; omega, hit⟩
    rw [drop_cons' hz] at q
    obtain ⟨v, hv, rv⟩ := repL_get (repL_keep (kp s σ H si) hx) (j := i) (d := e (items[i]'(by omega))) (by rw [List.getElem?_map, hit]; rfl)
    have e2 : xs[i]? = some x2 := e2
    rw [e2] at hv
    have ev : x2 = v := Option.some.inj hv
    subst ev
    have ev1 : V.int (i : Nat) = x1 := Option.some.inj e1
    subst ev1
    have ex : Ext H H' := by rw [eH]; exact Ext.new nT
    exact hs ((i : Int), items[i]'(by omega)) (.ref T) s _ σ H H' si ex (rep_pair (tr s σ H si) nT eH rep_v rv) q _ fun s' σ' H'' hk si2 => ⟨s', si2, hk⟩
  · rw [List.drop_of_length_le (by omega)] at q
    exact hd s σ H q si
end
section
variable {K : PySem.W.Frag} {ms ps : List Addr} {H0 H : Hp} {x : V}
theorem rep_iterET {ds : List D} {P : Addr → Prop} (h : rep ms H (.tup ds) x) (k : ∀ a xs, x = .ref a → a ∉ ms → H a = some (.tup xs) → repL ms H ds xs → P a) : ∃ (a : Addr) (xs : List V), [x] = [.ref a] ∧ SqT K H a xs ∧ P a := by
  simp only [rep] at h
  obtain ⟨p, vs, e, n, hp, hr⟩ := h
  exact ⟨p, vs, by rw [e], .inl (.inl hp), k p vs e n hp hr⟩
end
theorem rep_isNL {α : Type} {e : α → D} {ms : List Addr} {H : Hp} {m : Option α} {u : V} (he : ∀ y, ∃ ds, e y = .lst ds) (h : rep ms H (encO e m) u) : decide (u = .non) = m.isNone := by
  cases m with
  | none =>
    rw [of_v h]
    rfl
  | some y =>
    obtain ⟨ds, ed⟩ := he y
    have h' : rep ms H (e y) u := h
    rw [ed] at h'
    simp only [rep] at h'
    obtain ⟨p, _, e1, _⟩ := h'
    rw [e1]
    rfl
theorem rep_isSomeL {α : Type} {e : α → D} {ms : List Addr} {H : Hp} {m : Option α} {u : V} (he : ∀ y, ∃ ds, e y = .lst ds) (h : rep ms H (encO e m) u) : (!decide (u = .non)) = m.isSome := by
  rw [rep_isNL he h]
  cases m <;> rfl
theorem noMs_mapT {α : Type} {e : α → D} (h : ∀ y, noM (e y) = true) : ∀ xs : List α, noMs (xs.map e) = true
  | [] => rfl
  | x :: xs => by
    rw [List.map_cons]
    simp only [noMs, h x, noMs_mapT h xs, Bool.and_self]
theorem mo_dyn {α : Type} {e : α → D} {xs : List α} {ms ps : List Addr} {H0 H : Hp} {L : Addr} (m : MutO ms ps H0 H L (.lst (xs.map e))) : MutO ms ps H0 H L (.lst ((xs.map e).map fun y_ : D => y_)) := by
  rw [List.map_id']
  exact m
def tFS (ts : List TE) : TE := fun σ H Q => tJs ts Str.empty σ H fun out H1 => Q (.str out) H1
theorem pe_joinedF {X : Cx} {v1 v2 : PySem.Expr} {rest : List PySem.Expr} {ts : List TE} {pos : Pos} (h : PJ X (v1 :: v2 :: rest) ts) : PE X (.JoinedStr (v1 :: v2 :: rest) pos) (tFS ts) := pe_joined h
end Rx
namespace Wm
open PySem PySem.Spec PyProof.Rows L2

abbrev L (z : Str) : List Nat := z.cps.toList
theorem len_L (z : Str) : z.length = (L z).length := by
  show z.cps.size = z.cps.toList.length
  simp
theorem L_mk (l : List Nat) : L ⟨l.toArray⟩ = l := by simp [L]
theorem mk_L (z : Str) : (⟨(L z).toArray⟩ : Str) = z := by
  cases z
  simp [L]
theorem L_ext {a b : Str} (h : L a = L b) : a = b := ext_toList h
theorem L_app (a b : Str) : L (a ++ b) = L a ++ L b := by
  show (a.cps ++ b.cps).toList = _
  simp [L]
theorem L_empty : L ("" : Str) = [] := by decide +kernel
theorem L_h : L ("h" : Str) = [104] := by decide +kernel
theorem L_a : L ("a" : Str) = [97] := by decide +kernel
theorem L_one (c : Nat) : L ⟨#[c]⟩ = [c] := by simp [L]
theorem h_mk : ("h" : Str) = ⟨#[104]⟩ := by decide +kernel
theorem a_mk : ("a" : Str) = ⟨#[97]⟩ := by decide +kernel
theorem eqS {a b : Str} : decide (V.str a = V.str b) = decide (L a = L b) := by
  by_cases h : a = b
  · subst h
    simp
  · rw [decide_eq_false (fun z => h (V.str.inj z)), decide_eq_false (fun z => h (L_ext z))]
theorem eqI {a b : Int} : decide (V.int a = V.int b) = decide (a = b) := by
  by_cases h : a = b
  · subst h
    simp
  · rw [decide_eq_false (fun z => h (V.int.inj z)), decide_eq_false h]

/-- how many signs c -/
def cn (c : Nat) (l : List Nat) : Int := ((l.count c : Nat) : Int)
theorem cn_nil (c : Nat) : cn c [] = 0 := rfl
theorem cn_app (c : Nat) (a b : List Nat) : cn c (a ++ b) = cn c a + cn c b := by
  unfold cn
  rw [List.count_append]
  omega
theorem cn_cons (c x : Nat) (l : List Nat) : cn c (x :: l) = (if x = c then 1 else 0) + cn c l := by
  unfold cn
  rw [List.count_cons]
  by_cases h : x = c
  · simp [h]
    omega
  · simp [h]
theorem cn_pos (c : Nat) (l : List Nat) : 0 ≤ cn c l := by
  unfold cn
  omega
theorem cn_le (c : Nat) (l : List Nat) : cn c l ≤ l.length := by
  unfold cn
  have := List.count_le_length (a := c) (l := l)
  omega
theorem cnt_cn (c : Nat) : ∀ l : List Nat, cnt c l = cn c l
  | [] => by rw [cn_nil]; rfl
  | x :: l => by rw [cn_cons, cnt_cons, cnt_cn c l]
theorem count_h (x : Str) : Txt.count x ("h" : Str) = cn 104 (L x) := by rw [h_mk, count_cnt, cnt_cn]
theorem count_a (x : Str) : Txt.count x ("a" : Str) = cn 97 (L x) := by rw [a_mk, count_cnt, cnt_cn]
theorem marks_all : ∀ l : List Nat, (∀ c ∈ l, c = 104 ∨ c = 97) → cn 104 l + cn 97 l = l.length
  | [], _ => rfl
  | x :: l, h => by
    have ih := marks_all l fun c hc => h c (List.mem_cons_of_mem _ hc)
    rw [cn_cons, cn_cons, List.length_cons]
    rcases h x List.mem_cons_self with e | e <;> subst e <;> simp <;> omega

/-- z[:k], 0 ≤ k -/
theorem cut_take (z : Str) {k : Int} (h : 0 ≤ k) : L (cutS z none (some k)) = (L z).take k.toNat := by
  unfold cutS
  rw [L_mk, HT.sIx_none, List.drop_zero, Nat.sub_zero]
  show List.take (if k < 0 then _ else min k.toNat z.length) z.cps.toList = _
  rw [if_neg (by omega)]
  rw [len_L]
  exact (List.take_eq_take_min).symm
theorem join_L (ys : List Str) : L (Txt.join ("" : Str) ys) = (ys.map L).flatten := by
  rw [TL.join_eq]
  show TL.tl (Str.join _ _) = _
  rw [TL.tl_join]
  show TL.joinL (L ("" : Str)) _ = _
  rw [L_empty]
  show _ = (ys.map TL.tl).flatten
  generalize ys.map TL.tl = ls
  induction ls with
  | nil => rfl
  | cons p ls ih =>
    cases ls with
    | nil => simp [TL.joinL]
    | cons q r =>
      show p ++ ([] ++ TL.joinL [] (q :: r)) = _
      rw [ih]
      simp

/-! ### the middle, said again and again -/
def cyc (m : List Nat) (k : Nat) : List Nat := (List.range k).map fun j => m.getD (j % m.length) 0
theorem cyc_len (m : List Nat) (k : Nat) : (cyc m k).length = k := by simp [cyc]
theorem cyc_get (m : List Nat) {k j : Nat} (h : j < k) : (cyc m k)[j]? = some (m.getD (j % m.length) 0) := by
  simp [cyc, List.getElem?_map, List.getElem?_range h]
theorem cyc_get' {m : List Nat} (hm : 0 < m.length) {k j : Nat} (h : j < k) : (cyc m k)[j]? = m[j % m.length]? := by
  rw [cyc_get m h]
  have := Nat.mod_lt j hm
  rw [List.getD_eq_getElem?_getD, List.getElem?_eq_getElem this]
  rfl
theorem cyc_take (m : List Nat) {k j : Nat} (h : j ≤ k) : (cyc m k).take j = cyc m j := by
  unfold cyc
  rw [← List.map_take, List.take_range, Nat.min_eq_left h]
theorem cyc_full {m : List Nat} : cyc m m.length = m := by
  apply List.ext_getElem?
  intro j
  by_cases h : j < m.length
  · rw [cyc_get' (by omega) h, Nat.mod_eq_of_lt h]
  · rw [List.getElem?_eq_none (by rw [cyc_len]; omega), List.getElem?_eq_none (by omega)]
theorem cyc_add {m : List Nat} (hm : 0 < m.length) (k : Nat) : cyc m (m.length + k) = m ++ cyc m k := by
  apply List.ext_getElem?
  intro j
  by_cases h : j < m.length
  · rw [cyc_get' hm (by omega), List.getElem?_append_left h, Nat.mod_eq_of_lt h]
  · rw [List.getElem?_append_right (by omega)]
    by_cases h2 : j < m.length + k
    · rw [cyc_get' hm h2, cyc_get' hm (by omega), Nat.mod_eq_sub_mod (by omega)]
    · rw [List.getElem?_eq_none (by rw [cyc_len]; omega), List.getElem?_eq_none (by rw [cyc_len]; omega)]
/-- how many c the first k of them have -/
def cyn (c : Nat) (m : List Nat) (k : Nat) : Int := ((k / m.length : Nat) : Int) * cn c m + cn c (m.take (k % m.length))
theorem cyn_eq (c : Nat) {m : List Nat} (hm : 0 < m.length) : ∀ k : Nat, cn c (cyc m k) = cyn c m k := by
  intro k
  induction k using Nat.strongRecOn with
  | ind k ih =>
    by_cases h : k < m.length
    · unfold cyn
      rw [Nat.div_eq_of_lt h, Nat.mod_eq_of_lt h]
      have e : cyc m k = m.take k := by
        have := cyc_take m (Nat.le_of_lt h)
        rw [cyc_full] at this
        exact this.symm
      rw [e]
      show _ = ((0 : Nat) : Int) * _ + _
      omega
    · obtain ⟨j, rfl⟩ : ∃ j, k = m.length + j := ⟨k - m.length, by omega⟩
      rw [cyc_add hm, cn_app, ih j (by omega)]
      unfold cyn
      rw [Nat.add_mod_left, Nat.add_div_left _ hm]
      rw [show (((j / m.length + 1 : Nat) : Int)) = ((j / m.length : Nat) : Int) + 1 by omega, Int.add_mul]
      omega
theorem cyn_add (c : Nat) {m : List Nat} (hm : 0 < m.length) (k : Nat) : cyn c m (k + m.length) = cyn c m k + cn c m := by
  rw [← cyn_eq c hm, ← cyn_eq c hm, Nat.add_comm, cyc_add hm, cn_app]
  omega
theorem cyn_mul (c : Nat) {m : List Nat} (hm : 0 < m.length) (k : Nat) : cyn c m (k * m.length) = (k : Int) * cn c m := by
  unfold cyn
  rw [Nat.mul_div_cancel _ hm, Nat.mul_mod_left, List.take_zero, cn_nil]
  omega

/-! ### rows -/
def row (h m t : List Nat) (n : Nat) : List Nat := h ++ cyc m (n - h.length - t.length) ++ t
section
variable {h m t : List Nat} {n : Nat}
theorem row_len (hn : h.length + t.length ≤ n) : (row h m t n).length = n := by
  unfold row
  rw [List.length_append, List.length_append, cyc_len]
  omega
theorem row_head {j : Nat} (hj : j < h.length) : (row h m t n)[j]? = h[j]? := by
  unfold row
  rw [List.append_assoc, List.getElem?_append_left hj]
theorem row_mid {j : Nat} (hm : 0 < m.length) (hn : h.length + t.length ≤ n) (h1 : h.length ≤ j) (h2 : j < n - t.length) : (row h m t n)[j]? = m[(j - h.length) % m.length]? := by
  unfold row
  rw [List.append_assoc, List.getElem?_append_right h1, List.getElem?_append_left (by rw [cyc_len]; omega), cyc_get' hm (by omega)]
theorem row_tail {j : Nat} (hn : h.length + t.length ≤ n) (h1 : n - t.length ≤ j) : (row h m t n)[j]? = t[j - (n - t.length)]? := by
  unfold row
  rw [List.getElem?_append_right (by rw [List.length_append, cyc_len]; omega)]
  congr 1
  rw [List.length_append, cyc_len]
  omega
/-- the homes of the first i places -/
def hom (c : Nat) (h m t : List Nat) (n i : Nat) : Int := cn c (h.take i) + cyn c m (min i (n - t.length) - h.length) + cn c (t.take (i - (n - t.length)))
theorem hom_eq (c : Nat) (hm : 0 < m.length) (hn : h.length + t.length ≤ n) (i : Nat) (hi : i ≤ n) : cn c ((row h m t n).take i) = hom c h m t n i := by
  unfold row hom
  rw [List.take_append, List.take_append, cn_app, cn_app, List.length_append, cyc_len]
  congr 2
  · rw [← cyn_eq c hm]
    by_cases h1 : i - h.length ≤ n - h.length - t.length
    · rw [cyc_take m h1]
      congr 2
      omega
    · rw [List.take_of_length_le (by rw [cyc_len]; omega)]
      congr 2
      omega
  · congr 1
    omega
theorem cn_succ (c : Nat) {l : List Nat} {i x : Nat} (hx : l[i]? = some x) : cn c (l.take (i + 1)) = cn c (l.take i) + (if x = c then 1 else 0) := by
  rw [List.take_add_one, hx, cn_app]
  show _ + cn c [x] = _
  rw [cn_cons, cn_nil]
  omega
end

theorem cyc_end {m : List Nat} (hm : 0 < m.length) (k : Nat) : cyc m (k * m.length) ++ m = cyc m ((k + 1) * m.length) := by
  apply List.ext_getElem?
  intro j
  by_cases h : j < k * m.length
  · rw [List.getElem?_append_left (by rw [cyc_len]; exact h), cyc_get' hm h, cyc_get' hm (by rw [Nat.succ_mul]; omega)]
  · rw [List.getElem?_append_right (by rw [cyc_len]; omega), cyc_len]
    by_cases h2 : j < (k + 1) * m.length
    · rw [cyc_get' hm h2]
      rw [Nat.succ_mul] at h2
      obtain ⟨i, rfl⟩ : ∃ i, j = i + k * m.length := ⟨j - k * m.length, by omega⟩
      rw [Nat.add_mul_mod_self_right, Nat.mod_eq_of_lt (by omega)]
      congr 1
      omega
    · rw [List.getElem?_eq_none (by rw [Nat.succ_mul] at h2; omega), List.getElem?_eq_none (by rw [cyc_len]; omega)]

/-! ### loops of mirrors -/
section
open Rx
variable {α β S : Type}
theorem mapC_ok {body : α → (β → Prop) → Prop} {k : List β → Prop} (g : α → β) : ∀ {xs : List α} {acc : List β}, (∀ x ∈ xs, ∀ k' : β → Prop, k' (g x) → body x k') → k (acc ++ xs.map g) → mapC body xs acc k
  | [], acc, _, q => by
    rw [List.map_nil, List.append_nil] at q
    exact q
  | x :: xs, acc, h, q => h x List.mem_cons_self _ (mapC_ok g (fun y hy => h y (List.mem_cons_of_mem _ hy)) (by rw [List.append_assoc]; exact q))
theorem mapC_any {body : α → (β → Prop) → Prop} {k : List β → Prop} (P : β → Prop) : ∀ {xs : List α} {acc : List β}, (∀ x ∈ xs, ∀ k' : β → Prop, (∀ y, P y → k' y) → body x k') → (∀ ys : List β, ys.length = xs.length → (∀ y ∈ ys, P y) → k (acc ++ ys)) → mapC body xs acc k
  | [], acc, _, q => by
    have := q [] rfl (fun _ h => absurd h List.not_mem_nil)
    rw [List.append_nil] at this
    exact this
  | x :: xs, acc, h, q => h x List.mem_cons_self _ fun y hy => mapC_any P (fun z hz => h z (List.mem_cons_of_mem _ hz)) fun ys hl hp => by
    rw [List.append_assoc]
    exact q (y :: ys) (congrArg Nat.succ hl) fun z hz => by
      rcases List.mem_cons.mp hz with e | hz
      · rw [e]
        exact hy
      · exact hp z hz
theorem filC_ok {body : α → (Option β → Prop) → Prop} {k : List β → Prop} (g : α → Option β) : ∀ {xs : List α} {acc : List β}, (∀ x ∈ xs, ∀ k' : Option β → Prop, k' (g x) → body x k') → k (acc ++ xs.filterMap g) → filC body xs acc k
  | [], acc, _, q => by
    rw [List.filterMap_nil, List.append_nil] at q
    exact q
  | x :: xs, acc, h, q => h x List.mem_cons_self _ (by
    show match g x with | some y => filC body xs (acc ++ [y]) k | none => filC body xs acc k
    cases e : g x with
    | none => exact filC_ok g (fun y hy => h y (List.mem_cons_of_mem _ hy)) (by rw [List.filterMap_cons_none e] at q; exact q)
    | some y => exact filC_ok g (fun y hy => h y (List.mem_cons_of_mem _ hy)) (by rw [List.filterMap_cons_some e] at q; rw [List.append_assoc]; exact q))
theorem forC_ok {body : α → S → (S → Prop) → Prop} {k : S → Prop} (I : S → Prop) : ∀ {xs : List α} {s0 : S}, (∀ x ∈ xs, ∀ (s : S) (k' : S → Prop), I s → (∀ s', I s' → k' s') → body x s k') → I s0 → (∀ s, I s → k s) → forC body xs s0 k
  | [], s0, _, i, q => q s0 i
  | x :: xs, s0, h, i, q => h x List.mem_cons_self s0 _ i fun s' i' => forC_ok I (fun y hy => h y (List.mem_cons_of_mem _ hy)) i' q
theorem whileC_ok {body : S → (S → Prop) → (S → Prop) → Prop} {k : S → Prop} (I : S → Prop) (μ : S → Nat) (h : ∀ (s : S) (k1 : S → Prop), I s → (∀ s', I s' → μ s' < μ s → k1 s') → body s k1 k) {s0 : S} (i : I s0) : ∃ n, whileC body n s0 k := by
  have go : ∀ (n : Nat) (s : S), μ s < n → I s → whileC body n s k := by
    intro n
    induction n with
    | zero => intro s hs; omega
    | succ n ih => intro s hs is; exact h s _ is fun s' is' hl => ih s' (by omega) is'
  exact ⟨_, go _ s0 (Nat.lt_succ_self _) i⟩
theorem rangeI_mem {lo hi x : Int} (h : x ∈ rangeI lo hi) : lo ≤ x ∧ x < hi := by
  unfold rangeI at h
  obtain ⟨i, hi', e⟩ := List.mem_map.mp h
  have := List.mem_range.mp hi'
  omega
end
end Wm
namespace Lw
open PySem PySem.Spec PyProof.Rows L2 Rx
abbrev St := L2.St
def topS (i : Nat) : Stmt := PySem.Challenge.pw_ringrows_k51_pictures_told.main.body.getD i (.Pass ⟨0, 0, 0, 0⟩)
abbrev s_draw : Stmt := (topS 21)
abbrev s_some_cells : Stmt := (topS 24)
abbrev s_is_list : Stmt := (topS 9)
abbrev s_is_integer : Stmt := (topS 7)
abbrev s_is_count : Stmt := (topS 8)
abbrev s_is_mark : Stmt := (topS 10)
abbrev s_is_cell : Stmt := (topS 18)
abbrev s_check_cells : Stmt := (topS 17)
abbrev s_Picture_init : Stmt := (inClass (topS 16) 0)
abbrev s_other : Stmt := (topS 23)
abbrev s_bent : Stmt := (topS 27)
abbrev s_order : Stmt := (topS 25)
abbrev s_Picture_cells : Stmt := (inClass (topS 16) 1)
abbrev s_Picture_span : Stmt := (inClass (topS 16) 2)
abbrev s_Picture_str : Stmt := (inClass (topS 16) 5)
abbrev s_Picture_repr : Stmt := (inClass (topS 16) 6)
abbrev s_told_right : Stmt := (topS 26)
abbrev s_contrary_marks : Stmt := (topS 11)
abbrev s_Picture_contrary : Stmt := (inClass (topS 16) 3)
abbrev s_Picture_eq : Stmt := (inClass (topS 16) 4)
abbrev s_right : Stmt := (topS 28)
abbrev s_pot : Stmt := (topS 20)
abbrev s_law : Stmt := (topS 29)
theorem sc_draw : FnScope ["_law_pot_here", "_law_many", "_law_digit"] ["_law_pot_here", "_law_many"] (defScope s_draw) := ⟨rfl, rfl, rfl, by decide +kernel, rfl, by decide +kernel, by decide +kernel⟩
theorem sc_some_cells : FnScope ["_law_pot_here", "_law_found", "_law_turn", "_law_cell", "_law_near"] ["_law_pot_here"] (defScope s_some_cells) := ⟨rfl, rfl, rfl, by decide +kernel, rfl, by decide +kernel, by decide +kernel⟩
theorem sc_is_list : FnScope ["value"] ["value"] (defScope s_is_list) := ⟨rfl, rfl, rfl, by decide +kernel, rfl, by decide +kernel, by decide +kernel⟩
theorem sc_is_integer : FnScope ["value"] ["value"] (defScope s_is_integer) := ⟨rfl, rfl, rfl, by decide +kernel, rfl, by decide +kernel, by decide +kernel⟩
theorem sc_is_count : FnScope ["value"] ["value"] (defScope s_is_count) := ⟨rfl, rfl, rfl, by decide +kernel, rfl, by decide +kernel, by decide +kernel⟩
theorem sc_is_mark : FnScope ["value"] ["value"] (defScope s_is_mark) := ⟨rfl, rfl, rfl, by decide +kernel, rfl, by decide +kernel, by decide +kernel⟩
theorem sc_is_cell : FnScope ["value", "team", "later", "mark"] ["value"] (defScope s_is_cell) := ⟨rfl, rfl, rfl, by decide +kernel, rfl, by decide +kernel, by decide +kernel⟩
theorem sc_check_cells : FnScope ["cells", "told", "position", "cell"] ["cells"] (defScope s_check_cells) := ⟨rfl, rfl, rfl, by decide +kernel, rfl, by decide +kernel, by decide +kernel⟩
theorem sc_Picture_init : FnScope ["self", "cells", "team", "later", "mark"] ["self", "cells"] (defScope s_Picture_init) := ⟨rfl, rfl, rfl, by decide +kernel, rfl, by decide +kernel, by decide +kernel⟩
theorem sc_other : FnScope ["_law_mark"] ["_law_mark"] (defScope s_other) := ⟨rfl, rfl, rfl, by decide +kernel, rfl, by decide +kernel, by decide +kernel⟩
theorem sc_bent : FnScope ["_law_pot_here", "_law_some", "_law_at", "_law_way", "_law_who", "_law_later", "_law_mark", "_law_left", "_law_cell", "_law_near"] ["_law_pot_here", "_law_some"] (defScope s_bent) := ⟨rfl, rfl, rfl, by decide +kernel, rfl, by decide +kernel, by decide +kernel⟩
theorem sc_order : FnScope ["_law_some", "_law_found", "_law_who", "_law_later", "_law_cell"] ["_law_some"] (defScope s_order) := ⟨rfl, rfl, rfl, by decide +kernel, rfl, by decide +kernel, by decide +kernel⟩
theorem sc_Picture_cells : FnScope ["self"] ["self"] (defScope s_Picture_cells) := ⟨rfl, rfl, rfl, by decide +kernel, rfl, by decide +kernel, by decide +kernel⟩
theorem sc_Picture_span : FnScope ["self", "cell"] ["self"] (defScope s_Picture_span) := ⟨rfl, rfl, rfl, by decide +kernel, rfl, by decide +kernel, by decide +kernel⟩
theorem sc_Picture_str : FnScope ["self", "team", "later", "mark"] ["self"] (defScope s_Picture_str) := ⟨rfl, rfl, rfl, by decide +kernel, rfl, by decide +kernel, by decide +kernel⟩
theorem sc_Picture_repr : FnScope ["self"] ["self"] (defScope s_Picture_repr) := ⟨rfl, rfl, rfl, by decide +kernel, rfl, by decide +kernel, by decide +kernel⟩
theorem sc_told_right : FnScope ["_law_shape", "_law_some", "_law_due", "_law_text_now", "_law_who", "_law_later", "_law_mark"] ["_law_shape", "_law_some"] (defScope s_told_right) := ⟨rfl, rfl, rfl, by decide +kernel, rfl, by decide +kernel, by decide +kernel⟩
theorem sc_contrary_marks : FnScope ["marks", "mark"] ["marks"] (defScope s_contrary_marks) := ⟨rfl, rfl, rfl, by decide +kernel, rfl, by decide +kernel, by decide +kernel⟩
theorem sc_Picture_contrary : FnScope ["self", "team", "later", "mark"] ["self"] (defScope s_Picture_contrary) := ⟨rfl, rfl, rfl, by decide +kernel, rfl, by decide +kernel, by decide +kernel⟩
theorem sc_Picture_eq : FnScope ["self", "other"] ["self", "other"] (defScope s_Picture_eq) := ⟨rfl, rfl, rfl, by decide +kernel, rfl, by decide +kernel, by decide +kernel⟩
theorem sc_right : FnScope ["_law_pot_here", "_law_some", "_law_given", "_law_shape", "_law_bent_here", "_law_turned_now", "_law_mate", "_law_who", "_law_later", "_law_mark", "_law_thing"] ["_law_pot_here"] (defScope s_right) := ⟨rfl, rfl, rfl, by decide +kernel, rfl, by decide +kernel, by decide +kernel⟩
theorem sc_pot : FnScope ["_law_script", "_law_k", "_law_cell_now"] ["_law_script", "_law_k"] (defScope s_pot) := ⟨rfl, rfl, rfl, by decide +kernel, rfl, by decide +kernel, by decide +kernel⟩
theorem sc_law : FnScope ["_law_script", "_law_k"] ["_law_script"] (defScope s_law) := ⟨rfl, rfl, rfl, by decide +kernel, rfl, by decide +kernel, by decide +kernel⟩
def wd_CONTRARIES : List (Str × Str) := [("h", "a"), ("a", "h")]
structure Ad where
  a_draw : Addr
  d_draw : FuncData
  a_some_cells : Addr
  d_some_cells : FuncData
  a_is_list : Addr
  d_is_list : FuncData
  a_is_integer : Addr
  d_is_integer : FuncData
  a_is_count : Addr
  d_is_count : FuncData
  a_is_mark : Addr
  d_is_mark : FuncData
  a_is_cell : Addr
  d_is_cell : FuncData
  a_check_cells : Addr
  d_check_cells : FuncData
  a_Picture_init : Addr
  d_Picture_init : FuncData
  a_other : Addr
  d_other : FuncData
  a_bent : Addr
  d_bent : FuncData
  a_order : Addr
  d_order : FuncData
  a_Picture_cells : Addr
  d_Picture_cells : FuncData
  a_Picture_span : Addr
  d_Picture_span : FuncData
  a_Picture_str : Addr
  d_Picture_str : FuncData
  a_Picture_repr : Addr
  d_Picture_repr : FuncData
  a_told_right : Addr
  d_told_right : FuncData
  a_contrary_marks : Addr
  d_contrary_marks : FuncData
  a_Picture_contrary : Addr
  d_Picture_contrary : FuncData
  a_Picture_eq : Addr
  d_Picture_eq : FuncData
  a_right : Addr
  d_right : FuncData
  a_pot : Addr
  d_pot : FuncData
  a_law : Addr
  d_law : FuncData
  c_Picture : Addr
  pa_Picture_cells : Addr
  pa_Picture_span : Addr
  wd_CONTRARIES : Addr
structure Txt (w : World) (K : PySem.W.Frag) (mg : Str → Option Value) (A : Ad) : Prop where
  F_draw : Fun K "_law_draw" "_law_draw" s_draw A.a_draw A.d_draw
  b_draw : Binds K A.d_draw ["_law_pot_here", "_law_many"] []
  g_draw : mg "_law_draw" = some (.ref A.a_draw)
  F_some_cells : Fun K "_law_some_cells" "_law_some_cells" s_some_cells A.a_some_cells A.d_some_cells
  b_some_cells : Binds K A.d_some_cells ["_law_pot_here"] []
  g_some_cells : mg "_law_some_cells" = some (.ref A.a_some_cells)
  F_is_list : Fun K "is_list" "is_list" s_is_list A.a_is_list A.d_is_list
  b_is_list : Binds K A.d_is_list ["value"] []
  g_is_list : mg "is_list" = some (.ref A.a_is_list)
  F_is_integer : Fun K "is_integer" "is_integer" s_is_integer A.a_is_integer A.d_is_integer
  b_is_integer : Binds K A.d_is_integer ["value"] []
  g_is_integer : mg "is_integer" = some (.ref A.a_is_integer)
  F_is_count : Fun K "is_count" "is_count" s_is_count A.a_is_count A.d_is_count
  b_is_count : Binds K A.d_is_count ["value"] []
  g_is_count : mg "is_count" = some (.ref A.a_is_count)
  F_is_mark : Fun K "is_mark" "is_mark" s_is_mark A.a_is_mark A.d_is_mark
  b_is_mark : Binds K A.d_is_mark ["value"] []
  g_is_mark : mg "is_mark" = some (.ref A.a_is_mark)
  F_is_cell : Fun K "_is_cell" "_is_cell" s_is_cell A.a_is_cell A.d_is_cell
  b_is_cell : Binds K A.d_is_cell ["value"] []
  g_is_cell : mg "_is_cell" = some (.ref A.a_is_cell)
  F_check_cells : Fun K "_check_cells" "_check_cells" s_check_cells A.a_check_cells A.d_check_cells
  b_check_cells : Binds K A.d_check_cells ["cells"] []
  g_check_cells : mg "_check_cells" = some (.ref A.a_check_cells)
  F_Picture_init : Fun K "__init__" "Picture.__init__" s_Picture_init A.a_Picture_init A.d_Picture_init
  b_Picture_init : Binds K A.d_Picture_init ["self", "cells"] []
  F_other : Fun K "_law_other" "_law_other" s_other A.a_other A.d_other
  b_other : Binds K A.d_other ["_law_mark"] []
  g_other : mg "_law_other" = some (.ref A.a_other)
  F_bent : Fun K "_law_bent" "_law_bent" s_bent A.a_bent A.d_bent
  b_bent : Binds K A.d_bent ["_law_pot_here", "_law_some"] []
  g_bent : mg "_law_bent" = some (.ref A.a_bent)
  F_order : Fun K "_law_order" "_law_order" s_order A.a_order A.d_order
  b_order : Binds K A.d_order ["_law_some"] []
  g_order : mg "_law_order" = some (.ref A.a_order)
  F_Picture_cells : Fun K "cells" "Picture.cells" s_Picture_cells A.a_Picture_cells A.d_Picture_cells
  b_Picture_cells : Binds K A.d_Picture_cells ["self"] []
  p_Picture_cells : PropOf K A.c_Picture "cells" A.pa_Picture_cells A.a_Picture_cells
  F_Picture_span : Fun K "span" "Picture.span" s_Picture_span A.a_Picture_span A.d_Picture_span
  b_Picture_span : Binds K A.d_Picture_span ["self"] []
  p_Picture_span : PropOf K A.c_Picture "span" A.pa_Picture_span A.a_Picture_span
  F_Picture_str : Fun K "__str__" "Picture.__str__" s_Picture_str A.a_Picture_str A.d_Picture_str
  b_Picture_str : Binds K A.d_Picture_str ["self"] []
  m_Picture_str : Meth K A.c_Picture "__str__" A.a_Picture_str
  F_Picture_repr : Fun K "__repr__" "Picture.__repr__" s_Picture_repr A.a_Picture_repr A.d_Picture_repr
  b_Picture_repr : Binds K A.d_Picture_repr ["self"] []
  m_Picture_repr : Meth K A.c_Picture "__repr__" A.a_Picture_repr
  F_told_right : Fun K "_law_told_right" "_law_told_right" s_told_right A.a_told_right A.d_told_right
  b_told_right : Binds K A.d_told_right ["_law_shape", "_law_some"] []
  g_told_right : mg "_law_told_right" = some (.ref A.a_told_right)
  F_contrary_marks : Fun K "contrary_marks" "contrary_marks" s_contrary_marks A.a_contrary_marks A.d_contrary_marks
  b_contrary_marks : Binds K A.d_contrary_marks ["marks"] []
  g_contrary_marks : mg "contrary_marks" = some (.ref A.a_contrary_marks)
  F_Picture_contrary : Fun K "contrary" "Picture.contrary" s_Picture_contrary A.a_Picture_contrary A.d_Picture_contrary
  b_Picture_contrary : Binds K A.d_Picture_contrary ["self"] []
  m_Picture_contrary : Meth K A.c_Picture "contrary" A.a_Picture_contrary
  F_Picture_eq : Fun K "__eq__" "Picture.__eq__" s_Picture_eq A.a_Picture_eq A.d_Picture_eq
  b_Picture_eq : Binds K A.d_Picture_eq ["self", "other"] []
  m_Picture_eq : Meth K A.c_Picture "__eq__" A.a_Picture_eq
  F_right : Fun K "_law_right" "_law_right" s_right A.a_right A.d_right
  b_right : Binds K A.d_right ["_law_pot_here"] []
  g_right : mg "_law_right" = some (.ref A.a_right)
  F_pot : Fun K "_law_pot" "_law_pot" s_pot A.a_pot A.d_pot
  b_pot : Binds K A.d_pot ["_law_script", "_law_k"] []
  g_pot : mg "_law_pot" = some (.ref A.a_pot)
  F_law : Fun K "law" "law" s_law A.a_law A.d_law
  b_law : Binds K A.d_law ["_law_script"] []
  g_law : mg "law" = some (.ref A.a_law)
  cl_Picture : Cls K A.c_Picture
  g_Picture : mg "Picture" = some (.ref A.c_Picture)
  mk_Picture : Mk K A.c_Picture A.a_Picture_init
  na_Picture__cells : NoAttr K A.c_Picture "_cells"
  g_CONTRARIES : mg "CONTRARIES" = some (.ref A.wd_CONTRARIES)
  kd_CONTRARIES : ∀ z c : Str, wd_CONTRARIES.lookup z = some c → KDct K w A.wd_CONTRARIES z (.str c)
  lo_CONTRARIES : (A.wd_CONTRARIES == sysModules) = false
  ic_Picture : IsC K A.c_Picture
  in_Picture : IsN K A.c_Picture
  ow_Picture_repr : OwnText K A.c_Picture "__repr__" A.a_Picture_repr
  ow_Picture_str : OwnText K A.c_Picture "__str__" A.a_Picture_str
  on_Picture : OwnNe K A.c_Picture
  oe_Picture : OwnEq K A.c_Picture A.a_Picture_eq
  z_abs : mg "abs" = none
  z_all : mg "all" = none
  z_any : mg "any" = none
  z_bool : mg "bool" = none
  z_divmod : mg "divmod" = none
  z_enumerate : mg "enumerate" = none
  z_int : mg "int" = none
  z_isinstance : mg "isinstance" = none
  z_len : mg "len" = none
  z_list : mg "list" = none
  z_max : mg "max" = none
  z_min : mg "min" = none
  z_range : mg "range" = none
  z_repr : mg "repr" = none
  z_sorted : mg "sorted" = none
  z_str : mg "str" = none
  z_tuple : mg "tuple" = none
  c_MOST_AHEAD : ∃ u, mg "MOST_AHEAD" = some u ∧ RelV (.int 5) u
  c_MOST_CELLS : ∃ u, mg "MOST_CELLS" = some u ∧ RelV (.int 5) u
  c_MOST_LATER : ∃ u, mg "MOST_LATER" = some u ∧ RelV (.int 3) u
  k_Picture_init_cells : KBn K A.d_Picture_init ["self", "cells"] 1 ["cells"] (fun us ws => us ++ [ws.getD 0 .none]) (fun us ws => us ++ [ws.getD 0 .non])
abbrev ns_Picture : List Str := ["_cells"]
theorem nd_Picture : ns_Picture.Nodup := by decide +kernel
abbrev ePicture (A : Ad) (x : (List (Int × Int × Str))) : D := .ins A.c_Picture ns_Picture [(D.tup (x.map (fun y_ : (Int × Int × Str) => (D.tup [(D.v (V.int y_.1)), (D.v (V.int y_.2.1)), (D.v (V.str y_.2.2))]))))]
/-! ### draws: any number below the size -/
def M_draw (x_size : Int) (KM : Int → Prop) : Prop := (0 < x_size ∧ x_size < 1073741824) ∧ ∀ d : Int, 0 ≤ d → d < x_size → KM d
def sp_draw (A : Ad) : Sp := fun vs H Q _ => ∃ (ms : List Addr) (ap : Addr) (x_size : Int) (KM : Int → Prop), vs = [.ref ap, V.int x_size] ∧ Wd ms [ap] [] H H ∧ M_draw x_size KM ∧ ∀ (r : Int) (u : V) (H1 : Hp), KM r → Ret [ap] H H1 → rep ms H1 (D.v (V.int r)) u → Q u H1
theorem ret_pot1 {H : Hp} {ap : Addr} {o : HO} {i j : Int} (ha : H ap = some o) (hj : j.natAbs < 4294967296) : Ret [ap] H (upd H ap (.lst [.int i, .int j])) := by
  refine ⟨fun a u n h => ?_, fun a h => ?_, fun a h => ?_⟩
  · rw [upd_ne (fun z => n (by rw [z]; exact List.mem_singleton.mpr rfl))]
    exact h
  · rw [List.mem_singleton.mp h]
    exact ⟨i, j, upd_same, hj⟩
  · by_cases e : a = ap
    · rw [e, upd_same]
      exact fun z => nomatch z
    · rw [upd_ne e]
      exact h
theorem ret_pot2 {H : Hp} {ap p : Addr} {o u : HO} {i j : Int} (ha : H ap = some o) (np : H p = none) (hj : j.natAbs < 4294967296) : Ret [ap] H (upd (upd H p u) ap (.lst [.int i, .int j])) := by
  have e := Rx.Ext.new (o := u) np
  have h2 := ret_pot1 (i := i) (j := j) (e.keep ha) hj
  exact ⟨fun a w n h => h2.kp a w n (e.keep h), h2.pot, fun a h => h2.grow a (e.grow a h)⟩
theorem ok_draw {P : Program} {w : World} {K : PySem.W.Frag} {mg : Str → Option Value} {base : Heap} {A : Ad} (T : Txt w K mg A) : FnOk P w K mg base CX0 1 A.a_draw A.d_draw ["_law_pot_here", "_law_many"] (sp_draw A) := by
  refine T.F_draw.ok sc_draw (fun vs H Q E h => ?_) (fun cdv A_ outer s_ H_0 vs Q E hr h => ?_)
  · obtain ⟨ms, ap, x_size, KM, rfl, _⟩ := h
    rfl
  · obtain ⟨ms, ap, n, KM, rfl, hW, ⟨⟨n0, n1⟩, hM⟩, hQ⟩ := h
    obtain ⟨i, j, hp, hj⟩ := hW.pot ap (List.mem_singleton.mpr rfl)
    refine ⟨_, pss_cons (ps_if (pt_cmpR op_gt (pe_ix ix_list (pv 0) pe_int (fun _ _ => rfl)) pe_int (nomark _))
        (pss_cons (ps_asg (pe_callB call_divmod (by rfl) T.z_divmod (by decide +kernel) (pa_cons (pe_ix ix_list (pv 0) pe_int (fun _ _ => rfl)) (pa_cons (pv 1) pa_nil)))
            (pg_tup rfl (pgs_cons (pg_sub (pv 0) pe_int set_list) (pgs_cons (pg_name (i := 2) sc_draw.nd rfl (.inl rfl)) pgs_nil)))) (pss_one (ps_ret (pv 2)))) pss_nil)
      (pss_cons (ps_asg (pe_op op_mod (pe_callTy call_int1 (by rfl) T.z_int (by decide +kernel) (pa_cons (pe_op op_add (pe_op op_mul (pe_ix ix_list (pv 0) pe_int (fun _ _ => rfl)) pe_int) pe_int) pa_nil)) pe_int) (pg_sub (pv 0) pe_int set_list))
      (pss_one (ps_ret (pe_op op_mod (pe_callTy call_int1 (by rfl) T.z_int (by decide +kernel) (pa_cons (pe_op op_fdiv (pe_op op_mod (pe_callTy call_int1 (by rfl) T.z_int (by decide +kernel)
          (pa_cons (pe_op op_mul (pe_ix ix_list (pv 0) pe_int (fun _ _ => rfl)) (pe_ix ix_list (pv 0) pe_int (fun _ _ => rfl))) pa_nil)) pe_int) pe_int) pa_nil)) (pv 1))))), ?_⟩
    refine ⟨_, rfl, ap, _, 0, .int i, rfl, rfl, .inl (.inl hp), rfl, _, _, rfl, rfl, _, rfl, ?_⟩
    refine ite2 (fun c => ?_) (fun c => ?_)
    · refine ⟨_, rfl, ap, _, 0, .int i, rfl, rfl, .inl (.inl hp), rfl, _, rfl, _, _, rfl, ⟨n0, n1⟩, fun p np => ?_⟩
      have npa : ap ≠ p := ne_of_none hp np
      refine ⟨p, _, rfl, .inl (.inl upd_same), rfl, _, _, rfl, _, rfl, ap, _, 0, 0, rfl, rfl, (by rw [upd_ne npa]; exact hp), rfl, _, _, rfl, rfl, _, rfl, ?_⟩
      exact hQ (i % n) _ _ (hM _ (Int.emod_nonneg _ (by omega)) (Int.emod_lt_of_pos _ n0)) (ret_pot2 hp np hj) rep_v
    · refine ⟨_, rfl, ap, _, 1, .int j, rfl, rfl, .inl (.inl hp), rfl, _, _, rfl, rfl, .inr ⟨by decide, by decide⟩, _, _, rfl, rfl, .inl ⟨_, rfl, _, _, rfl, rfl, (by show (0 : Int) < 2147483587; decide), ?_⟩⟩
      refine ⟨_, rfl, ap, _, 1, 1, rfl, rfl, hp, rfl, ?_⟩
      refine ⟨_, rfl, ap, _, 1, _, rfl, rfl, .inl (.inl upd_same), rfl, _, rfl, ap, _, 1, _, rfl, rfl, .inl (.inl upd_same), rfl, _, _, rfl, rfl, .inl ⟨?_, ?_⟩, .inl ⟨_, rfl, _, _, rfl, rfl, (by show (0 : Int) < 2147483549; decide), _, _, rfl, rfl, ⟨by decide, by decide⟩, .inl ⟨_, rfl, _, rfl, _, _, rfl, rfl, n0, ?_⟩⟩⟩
      · omega
      · omega
      · refine hQ _ _ _ (hM _ (Int.emod_nonneg _ (by omega)) (Int.emod_lt_of_pos _ n0)) (ret_pot1 (i := i) hp ?_) rep_v
        omega

def M_some_cells (KM : (List (Int × Int × Str)) → Prop) : Prop :=
  (M_draw (11 : Int) fun r1 => (M_draw (2 : Int) fun r6 => (("ha" : Str).length ≤ sizeLine ∧ ∃ c12, atI ("ha" : Str).cps.toList r6 = some c12 ∧ (M_draw (5 : Int) fun r24 => (forC (fun (x29 : Int) (s31 : (List (Int × Int × Str))) (k32 : ((List (Int × Int × Str))) → Prop) => (M_draw (11 : Int) fun r41 => (M_draw (4 : Int) fun r46 => (M_draw (2 : Int) fun r51 => (("ha" : Str).length ≤ sizeLine ∧ ∃ c57, atI ("ha" : Str).cps.toList r51 = some c57 ∧ (s31.length < 100000 ∧ mapC (fun (x83 : (Int × Int × Str)) (k76 : (Int × Int) → Prop) => (k76 (x83.1, x83.2.1))) s31 [] fun ys105 => ((plainD (D.tup [(D.v (V.int ((r41 - (5 : Int)), r46).1)), (D.v (V.int ((r41 - (5 : Int)), r46).2))]) = true ∧ plainD (D.lst (ys105.map (fun y_ : (Int × Int) => (D.tup [(D.v (V.int y_.1)), (D.v (V.int y_.2))])))) = true ∧ SeqAt.shaped (pyOf (D.tup [(D.v (V.int ((r41 - (5 : Int)), r46).1)), (D.v (V.int ((r41 - (5 : Int)), r46).2))])) = true ∧ SeqAt.shaped (pyOf (D.lst (ys105.map (fun y_ : (Int × Int) => (D.tup [(D.v (V.int y_.1)), (D.v (V.int y_.2))]))))) = true) ∧ (if (!(inDv (D.tup [(D.v (V.int ((r41 - (5 : Int)), r46).1)), (D.v (V.int ((r41 - (5 : Int)), r46).2))]) (ys105.map (fun y_ : (Int × Int) => (D.tup [(D.v (V.int y_.1)), (D.v (V.int y_.2))]))))) = true then (M_draw ((s31.length : Int) + (1 : Int)) fun r110 => ((s31.length < 16777216 ∧ 0 ≤ r110 ∧ r110 < 2 ^ 63) ∧ (k32 ((s31.take (Int.toNat r110) ++ [((r41 - (5 : Int)), r46, (Str.mk #[c57]))] ++ s31.drop (Int.toNat r110)))))) else (k32 (s31)))))))))) (rangeI (0 : Int) r24) (([((r1 - (5 : Int)), (0 : Int), (Str.mk #[c12]))] : List (Int × Int × Str))) fun s120 => (KM s120))))))
def sp_some_cells (A : Ad) : Sp := fun vs H Q _ => ∃ (ms : List Addr) (ap : Addr) (KM : (List (Int × Int × Str)) → Prop), vs = [.ref ap] ∧ Wd ms [ap] [] H H ∧ M_some_cells  KM ∧ ∀ (r : (List (Int × Int × Str))) (u : V) (H1 : Hp), KM r → Ret [ap] H H1 → rep ms H1 (D.lst (r.map (fun y_ : (Int × Int × Str) => (D.tup [(D.v (V.int y_.1)), (D.v (V.int y_.2.1)), (D.v (V.str y_.2.2))])))) u → Q u H1
set_option maxHeartbeats 16000000 in
theorem ok_some_cells {P : Program} {w : World} {K : PySem.W.Frag} {mg : Str → Option Value} {base : Heap} {A : Ad} (T : Txt w K mg A) : FnOk P w K mg base CX0 2 A.a_some_cells A.d_some_cells ["_law_pot_here"] (sp_some_cells A) := by
  refine T.F_some_cells.ok sc_some_cells (fun vs H Q E h => ?_) (fun cdv A_ outer s_ H_0 vs Q E hr h => ?_)
  · obtain ⟨ms, ap, KM, rfl, _⟩ := h
    rfl
  · obtain ⟨ms, ap, KM, rfl, hW, hM, hQ⟩ := h
    unfold M_some_cells at hM
    refine ⟨_, (pss_cons (ps_set (i := 1) sc_some_cells.nd rfl (by first | exact Or.inl rfl | exact Or.inr rfl) (pe_lst (pa_cons (pe_tup (pa_cons (pe_op op_sub (pe_call (ok_draw T) (hr.mono (by decide)) (by rfl) T.g_draw T.F_draw.kp T.b_draw .nil pass0 (pa_cons (pv 0) (pa_cons pe_int pa_nil))) pe_int) (pa_cons pe_int (pa_cons (pe_ix ix_str pe_str (pe_call (ok_draw T) (hr.mono (by decide)) (by rfl) T.g_draw T.F_draw.kp T.b_draw .nil pass0 (pa_cons (pv 0) (pa_cons pe_int pa_nil))) (fun _ _ => rfl)) pa_nil)))) pa_nil))) (pss_cons (ps_for PassesOwn.never rfl (pi_rangeW1 (by rfl) T.z_range (pa_cons (pe_call (ok_draw T) (hr.mono (by decide)) (by rfl) T.g_draw T.F_draw.kp T.b_draw .nil pass0 (pa_cons (pv 0) (pa_cons pe_int pa_nil))) pa_nil)) (pg_name (i := 2) sc_some_cells.nd rfl (by first | exact Or.inl rfl | exact Or.inr rfl)) (pss_cons (ps_set (i := 3) sc_some_cells.nd rfl (by first | exact Or.inl rfl | exact Or.inr rfl) (pe_tup (pa_cons (pe_op op_sub (pe_call (ok_draw T) (hr.mono (by decide)) (by rfl) T.g_draw T.F_draw.kp T.b_draw .nil pass0 (pa_cons (pv 0) (pa_cons pe_int pa_nil))) pe_int) (pa_cons (pe_call (ok_draw T) (hr.mono (by decide)) (by rfl) T.g_draw T.F_draw.kp T.b_draw .nil pass0 (pa_cons (pv 0) (pa_cons pe_int pa_nil))) (pa_cons (pe_ix ix_str pe_str (pe_call (ok_draw T) (hr.mono (by decide)) (by rfl) T.g_draw T.F_draw.kp T.b_draw .nil pass0 (pa_cons (pv 0) (pa_cons pe_int pa_nil))) (fun _ _ => rfl)) pa_nil))))) (pss_one (ps_if (pt_cmpR (op_ninDK (K := K) rfl (units65 hr)) (pe_slice (sl_tupK (K := K) rfl) (pv 3) po_none (po_some pe_int)) (pe_lc (own := [("_law_near", 4)]) (g := gName 4) rfl sc_some_cells.nd (pi_list (pv 1)) (blkOk_by (N := ["_law_pot_here", "_law_found", "_law_turn", "_law_cell", "_law_near"]) (sc := defScope s_some_cells) (by decide +kernel)) (fun _ _ _ _ _ => pg_name (i := 4) sc_some_cells.nd rfl (by first | exact Or.inl rfl | exact Or.inr rfl)) (fun _ _ _ _ _ => pts_nil) (fun _ _ _ _ _ => (pe_slice (sl_tupK (K := K) rfl) (pv 4) po_none (po_some pe_int)))) (by rfl)) (pss_one (ps_expr (pe_bmK (K := K) rfl PySem.F.plainAttrs_list PySem.F.slot_list_insert PySem.F.type_list_insert mt_insert (pv 1) (pa_cons (pe_call (ok_draw T) (hr.mono (by decide)) (by rfl) T.g_draw T.F_draw.kp T.b_draw .nil pass0 (pa_cons (pv 0) (pa_cons (pe_op op_add (pe_callB (call_lenK (K := K) rfl) (by rfl) T.z_len PySem.boot_len (pa_cons (pv 1) pa_nil)) pe_int) pa_nil))) (pa_cons (pv 3) pa_nil))))) pss_nil)))) (pss_one (ps_ret (pv 1))))), ?_⟩
    refine ⟨_, rfl, ?_⟩
    refine ⟨ms, ap, (11 : Int), _, rfl, hW.enterP, hM, fun r1 u4 H5 hM e3 h2 => ?_⟩
    replace hW := hW.retP e3
    obtain rfl := of_v h2
    refine ⟨_, _, rfl, rfl, ?_⟩
    refine ⟨_, rfl, ?_⟩
    refine ⟨ms, ap, (2 : Int), _, rfl, hW.enterP, hM, fun r6 u9 H10 hM e8 h7 => ?_⟩
    replace hW := hW.retP e8
    obtain rfl := of_v h7
    obtain ⟨g11, hM⟩ := hM
    obtain ⟨c12, c12h, hM⟩ := hM
    refine ⟨_, _, _, rfl, rfl, g11, c12h, ?_⟩
    refine ⟨(by show 3 ≤ sizeLine; decide), ?_⟩
    intro p13 n17
    have e14 := Rx.Ext.new (H := H10) (o := (HO.tup [V.int (r1 - (5 : Int)), V.int (0 : Int), V.str (Str.mk #[c12])])) n17
    have hp15 : upd H10 p13 (HO.tup [V.int (r1 - (5 : Int)), V.int (0 : Int), V.str (Str.mk #[c12])]) p13 = some (HO.tup [V.int (r1 - (5 : Int)), V.int (0 : Int), V.str (Str.mk #[c12])]) := upd_same
    generalize upd H10 p13 (HO.tup [V.int (r1 - (5 : Int)), V.int (0 : Int), V.str (Str.mk #[c12])]) = H18 at e14 hp15 ⊢
    have h16 : rep ms H18 (D.tup [(D.v (V.int (r1 - (5 : Int)))), (D.v (V.int (0 : Int))), (D.v (V.str (Str.mk #[c12])))]) (.ref p13) := rep_tup_mk hW n17 e14 hp15 (repL_cons rep_v (repL_cons rep_v (repL_cons rep_v repL_nil)))
    replace hW := hW.ret0 e14
    refine ⟨(by show 1 ≤ sizeLine; decide), ?_⟩
    intro L19 nl20
    have nm21 := nm_new hW nl20
    have mu22 := mo_newL (ds := ([((r1 - (5 : Int)), (0 : Int), (Str.mk #[c12]))] : List (Int × Int × Str)).map (fun y_ : (Int × Int × Str) => (D.tup [(D.v (V.int y_.1)), (D.v (V.int y_.2.1)), (D.v (V.str y_.2.2))]))) (vs := [(V.ref p13)]) hW nl20 (repL_cons h16 repL_nil)
    replace h16 := rep_cell (o := .lst [(V.ref p13)]) nl20 h16
    replace hW := wd_cell (o := .lst [(V.ref p13)]) hW nl20
    generalize upd H18 L19 (.lst [(V.ref p13)]) = H23 at *
    replace mu22 : MutO (L19 :: ms) [ap] H_0 H23 L19 (D.lst (([((r1 - (5 : Int)), (0 : Int), (Str.mk #[c12]))] : List (Int × Int × Str)).map (fun y_ : (Int × Int × Str) => (D.tup [(D.v (V.int y_.1)), (D.v (V.int y_.2.1)), (D.v (V.str y_.2.2))])))) := mu22
    refine ⟨_, rfl, ?_⟩
    refine ⟨(L19 :: ms), ap, (5 : Int), _, rfl, hW.enterP, hM, fun r24 u27 H28 hM e26 h25 => ?_⟩
    replace h16 := rep_ret hW e26 h16
    replace mu22 := mo_ret hW e26 mu22
    replace hW := hW.retP e26
    obtain rfl := of_v h25
    refine ⟨_, rfl, ?_⟩
    refine for_rangeG (S := (List (Int × Int × Str))) (lo := (0 : Int)) (hi := r24) (N := Int.toNat r24) (fun (s : (List (Int × Int × Str))) σ_ h_ => ∃ (w_0 : Option V), ∃ (w_1 : Option V), σ_ = [some (V.ref ap), some (V.ref L19), w_0, w_1, none] ∧ Wd (L19 :: ms) [ap] [] H_0 h_ ∧ Keep (L19 :: ms) H28 h_ ∧ MutO (L19 :: ms) [ap] H_0 h_ L19 (D.lst (s.map (fun y_ : (Int × Int × Str) => (D.tup [(D.v (V.int y_.1)), (D.v (V.int y_.2.1)), (D.v (V.str y_.2.2))]))))) (([((r1 - (5 : Int)), (0 : Int), (Str.mk #[c12]))] : List (Int × Int × Str))) (by simp) hM ⟨_, _, rfl, hW, Keep.refl, mu22⟩ ?_ ?_
    · skip
      clear mu22
      rintro x29 s31 k32 _ H40 ⟨w37, w38, rfl, hW, hk33, mu39⟩ hM Nx35 hN36
      replace h16 := rep_keep hk33 h16
      refine ⟨_, rfl, ?_⟩
      refine ⟨(L19 :: ms), ap, (11 : Int), _, rfl, hW.enterP, hM, fun r41 u44 H45 hM e43 h42 => ?_⟩
      replace h16 := rep_ret hW e43 h16
      replace hk33 := keep_ret hW e43 hk33
      replace mu39 := mo_ret hW e43 mu39
      replace hW := hW.retP e43
      obtain rfl := of_v h42
      refine ⟨_, _, rfl, rfl, ?_⟩
      refine ⟨_, rfl, ?_⟩
      refine ⟨(L19 :: ms), ap, (4 : Int), _, rfl, hW.enterP, hM, fun r46 u49 H50 hM e48 h47 => ?_⟩
      replace h16 := rep_ret hW e48 h16
      replace hk33 := keep_ret hW e48 hk33
      replace mu39 := mo_ret hW e48 mu39
      replace hW := hW.retP e48
      obtain rfl := of_v h47
      refine ⟨_, rfl, ?_⟩
      refine ⟨(L19 :: ms), ap, (2 : Int), _, rfl, hW.enterP, hM, fun r51 u54 H55 hM e53 h52 => ?_⟩
      replace h16 := rep_ret hW e53 h16
      replace hk33 := keep_ret hW e53 hk33
      replace mu39 := mo_ret hW e53 mu39
      replace hW := hW.retP e53
      obtain rfl := of_v h52
      obtain ⟨g56, hM⟩ := hM
      obtain ⟨c57, c57h, hM⟩ := hM
      refine ⟨_, _, _, rfl, rfl, g56, c57h, ?_⟩
      refine ⟨(by show 3 ≤ sizeLine; decide), ?_⟩
      intro p58 n62
      have e59 := Rx.Ext.new (H := H55) (o := (HO.tup [V.int (r41 - (5 : Int)), V.int r46, V.str (Str.mk #[c57])])) n62
      have hp60 : upd H55 p58 (HO.tup [V.int (r41 - (5 : Int)), V.int r46, V.str (Str.mk #[c57])]) p58 = some (HO.tup [V.int (r41 - (5 : Int)), V.int r46, V.str (Str.mk #[c57])]) := upd_same
      generalize upd H55 p58 (HO.tup [V.int (r41 - (5 : Int)), V.int r46, V.str (Str.mk #[c57])]) = H63 at e59 hp60 ⊢
      have h61 : rep (L19 :: ms) H63 (D.tup [(D.v (V.int (r41 - (5 : Int)))), (D.v (V.int r46)), (D.v (V.str (Str.mk #[c57])))]) (.ref p58) := rep_tup_mk hW n62 e59 hp60 (repL_cons rep_v (repL_cons rep_v (repL_cons rep_v repL_nil)))
      replace h16 := rep_ext e59 h16
      replace hk33 := keep_ext e59 hk33
      replace mu39 := mo_ext e59 mu39
      replace hW := hW.ret0 e59
      refine ⟨_, rfl, ?_⟩
      refine ⟨_, rfl, ?_⟩
      apply rep_slT 2 h61 (by show 2 < 3; decide)
      intro vs64 hr65
      intro p66 np67
      have e68 := Rx.Ext.new (H := H63) (o := (HO.tup vs64)) np67
      have hp69 : upd H63 p66 (HO.tup vs64) p66 = some (HO.tup vs64) := upd_same
      generalize upd H63 p66 (HO.tup vs64) = H71 at e68 hp69 ⊢
      have h70 : rep (L19 :: ms) H71 (D.tup [(D.v (V.int (r41 - (5 : Int)))), (D.v (V.int r46))]) (.ref p66) := rep_tup_mk (ds := [(D.v (V.int (r41 - (5 : Int)))), (D.v (V.int r46))]) hW np67 e68 hp69 hr65
      replace h16 := rep_ext e68 h16
      replace hk33 := keep_ext e68 hk33
      replace h61 := rep_ext e68 h61
      replace mu39 := mo_ext e68 mu39
      replace hW := hW.ret0 e68
      refine ⟨_, rfl, ?_⟩
      apply mo_iter mu39
      refine fun L72 nl73 => ?_
      have nm87 := nm_new hW nl73
      have kn88 := keep_none (w := hW) nl73 hk33
      have ne89 := mo_ne nl73 mu39
      refine lc_mutG (L := L72) (fun n_ ys_ h_ => Wd (L72 :: (L19 :: ms)) [ap] [] H_0 h_ ∧ Keep (L72 :: (L19 :: ms)) H71 h_ ∧ MutO (L72 :: (L19 :: ms)) [ap] H_0 h_ L72 (D.lst (ys_.map (fun y_ : (Int × Int) => (D.tup [(D.v (V.int y_.1)), (D.v (V.int y_.2))])))) ∧ ys_.length ≤ n_ ∧ MutO (L72 :: (L19 :: ms)) [ap] H_0 h_ L19 (D.lst (s31.map (fun y_ : (Int × Int × Str) => (D.tup [(D.v (V.int y_.1)), (D.v (V.int y_.2.1)), (D.v (V.str y_.2.2))]))))) (items := s31) (e := (fun y_ : (Int × Int × Str) => (D.tup [(D.v (V.int y_.1)), (D.v (V.int y_.2.1)), (D.v (V.str y_.2.2))]))) (a := L19) (fun _ _ _ q_ => by obtain ⟨_, _, _, _, m_⟩ := q_; exact m_) hM ⟨wd_cell hW nl73, keep_cell nl73 Keep.refl, mo_newL (ds := []) hW nl73 repL_nil, Nat.le_refl _, mo_cell nl73 mu39⟩ ?_ ?_
      · skip
        clear mu39
        rintro x83 u84 n74 ys75 k76 H90 hn ⟨hW, hk77, mu78, ln79, mu91⟩ h85 hM Nx82 hN80
        replace h16 := rep_keep hk77 (rep_new nl73 h16)
        replace hk33 := Keep.trans (Keep.new hk33) hk77
        replace h61 := rep_keep hk77 (rep_new nl73 h61)
        replace h70 := rep_keep hk77 (rep_new nl73 h70)
        refine ⟨rfl, ?_⟩
        refine tyes_of ?_
        refine ⟨_, rfl, ?_⟩
        refine ⟨_, rfl, ?_⟩
        apply rep_slT 2 h85 (by show 2 < 3; decide)
        intro vs92 hr93
        intro p94 np95
        have e96 := Rx.Ext.new (H := H90) (o := (HO.tup vs92)) np95
        have hp97 : upd H90 p94 (HO.tup vs92) p94 = some (HO.tup vs92) := upd_same
        generalize upd H90 p94 (HO.tup vs92) = H99 at e96 hp97 ⊢
        have h98 : rep (L72 :: (L19 :: ms)) H99 (D.tup [(D.v (V.int x83.1)), (D.v (V.int x83.2.1))]) (.ref p94) := rep_tup_mk (ds := [(D.v (V.int x83.1)), (D.v (V.int x83.2.1))]) hW np95 e96 hp97 hr93
        replace h16 := rep_ext e96 h16
        replace hk33 := keep_ext e96 hk33
        replace h61 := rep_ext e96 h61
        replace h70 := rep_ext e96 h70
        replace hk77 := keep_ext e96 hk77
        replace h85 := rep_ext e96 h85
        replace mu91 := mo_ext e96 mu91
        replace mu78 := mo_ext e96 mu78
        replace hW := hW.ret0 e96
        refine mo_end mu78 hn (by rw [List.length_map]; exact ln79) fun vs100 hr101 => ?_
        have mk103 := mo_setL mu78 (repL_snoc (e := (fun y_ : (Int × Int) => (D.tup [(D.v (V.int y_.1)), (D.v (V.int y_.2))]))) (xs := ys75) (y := (x83.1, x83.2.1)) hr101 h98)
        replace mu91 := mo_put (o := .lst (vs100 ++ [(V.ref p94)])) mu78.im ne89 mu91
        replace h16 := rep_put (o := .lst (vs100 ++ [(V.ref p94)])) mu78.im h16
        replace hk33 := keep_put (o := .lst (vs100 ++ [(V.ref p94)])) mu78.im hk33
        replace h61 := rep_put (o := .lst (vs100 ++ [(V.ref p94)])) mu78.im h61
        replace h70 := rep_put (o := .lst (vs100 ++ [(V.ref p94)])) mu78.im h70
        replace hk77 := keep_put (o := .lst (vs100 ++ [(V.ref p94)])) mu78.im hk77
        replace h85 := rep_put (o := .lst (vs100 ++ [(V.ref p94)])) mu78.im h85
        replace h98 := rep_put (o := .lst (vs100 ++ [(V.ref p94)])) mu78.im h98
        replace hW := wd_put (o := .lst (vs100 ++ [(V.ref p94)])) hW mu78
        replace mu78 := mk103
        generalize upd H99 L72 (.lst (vs100 ++ [(V.ref p94)])) = H104 at *
        replace mu78 : MutO (L72 :: (L19 :: ms)) [ap] H_0 H104 L72 (D.lst ((ys75 ++ [(x83.1, x83.2.1)]).map (fun y_ : (Int × Int) => (D.tup [(D.v (V.int y_.1)), (D.v (V.int y_.2))])))) := mu78
        clear mk103
        exact hN80 (x83.1, x83.2.1) _ hM ⟨hW, hk77, mu78, by rw [List.length_append]; exact Nat.add_le_add_right ln79 1, mu91⟩
      · skip
        clear mu39
        rintro n74 ys105 H106 hM ⟨hW, hk77, mu78, ln79, mu107⟩
        replace h16 := rep_keep hk77 (rep_new nl73 h16)
        replace hk33 := Keep.trans (Keep.new hk33) hk77
        replace h61 := rep_keep hk77 (rep_new nl73 h61)
        replace h70 := rep_keep hk77 (rep_new nl73 h70)
        clear hk77 ln79
        have h108 := mo_rep_dr dr_here nm87 mu78
        replace hW := wd_dr dr_here mu78.hp hW
        replace h16 := rep_dr dr_here h16
        replace hk33 := keep_dr dr_here kn88 hk33
        replace h61 := rep_dr dr_here h61
        replace h70 := rep_dr dr_here h70
        replace mu107 := mo_dr dr_here ne89 mu107
        clear mu78
        obtain ⟨g109, hM⟩ := hM
        apply rep_ninD (d := (D.tup [(D.v (V.int ((r41 - (5 : Int)), r46).1)), (D.v (V.int ((r41 - (5 : Int)), r46).2))])) (es := (ys105.map (fun y_ : (Int × Int) => (D.tup [(D.v (V.int y_.1)), (D.v (V.int y_.2))])))) h70 h108 g109.1 g109.2.1 g109.2.2.1 g109.2.2.2
        refine ⟨_, rfl, ?_⟩
        refine ite3 hM (fun hM => ?_) (fun hM => ?_)
        · skip
          refine ⟨_, rfl, ?_⟩
          refine ⟨mo_tyL mu107, ?_⟩
          refine ⟨_, rfl, ?_⟩
          refine ⟨_, rfl, ?_⟩
          apply mo_len (e := (fun y_ : (Int × Int × Str) => (D.tup [(D.v (V.int y_.1)), (D.v (V.int y_.2.1)), (D.v (V.str y_.2.2))]))) (xs := s31) mu107
          refine ⟨_, _, rfl, rfl, ?_⟩
          refine ⟨(L19 :: ms), ap, ((s31.length : Int) + (1 : Int)), _, rfl, hW.enterP, hM, fun r110 u113 H114 hM e112 h111 => ?_⟩
          replace h16 := rep_ret hW e112 h16
          replace hk33 := keep_ret hW e112 hk33
          replace h61 := rep_ret hW e112 h61
          replace h70 := rep_ret hW e112 h70
          replace h108 := rep_ret hW e112 h108
          replace mu107 := mo_ret hW e112 mu107
          replace hW := hW.retP e112
          obtain rfl := of_v h111
          refine ⟨_, rfl, ?_⟩
          obtain ⟨g115, hM⟩ := hM
          apply mo_insU (e := (fun y_ : (Int × Int × Str) => (D.tup [(D.v (V.int y_.1)), (D.v (V.int y_.2.1)), (D.v (V.str y_.2.2))]))) (xs := s31) (i := r110) mu107 g115
          intro vs116 hr117
          have mk118 := mo_setL mu107 (repL_ins (e := (fun y_ : (Int × Int × Str) => (D.tup [(D.v (V.int y_.1)), (D.v (V.int y_.2.1)), (D.v (V.str y_.2.2))]))) (xs := s31) (y := ((r41 - (5 : Int)), r46, (Str.mk #[c57]))) (Int.toNat r110) hr117 h61)
          replace h16 := rep_put (o := .lst (vs116.take (Int.toNat r110) ++ [(V.ref p58)] ++ vs116.drop (Int.toNat r110))) mu107.im h16
          replace hk33 := keep_put (o := .lst (vs116.take (Int.toNat r110) ++ [(V.ref p58)] ++ vs116.drop (Int.toNat r110))) mu107.im hk33
          replace h61 := rep_put (o := .lst (vs116.take (Int.toNat r110) ++ [(V.ref p58)] ++ vs116.drop (Int.toNat r110))) mu107.im h61
          replace h70 := rep_put (o := .lst (vs116.take (Int.toNat r110) ++ [(V.ref p58)] ++ vs116.drop (Int.toNat r110))) mu107.im h70
          replace h108 := rep_put (o := .lst (vs116.take (Int.toNat r110) ++ [(V.ref p58)] ++ vs116.drop (Int.toNat r110))) mu107.im h108
          replace hW := wd_put (o := .lst (vs116.take (Int.toNat r110) ++ [(V.ref p58)] ++ vs116.drop (Int.toNat r110))) hW mu107
          replace mu107 := mk118
          generalize upd H114 L19 (.lst (vs116.take (Int.toNat r110) ++ [(V.ref p58)] ++ vs116.drop (Int.toNat r110))) = H119 at *
          replace mu107 : MutO (L19 :: ms) [ap] H_0 H119 L19 (D.lst ((s31.take (Int.toNat r110) ++ [((r41 - (5 : Int)), r46, (Str.mk #[c57]))] ++ s31.drop (Int.toNat r110)).map (fun y_ : (Int × Int × Str) => (D.tup [(D.v (V.int y_.1)), (D.v (V.int y_.2.1)), (D.v (V.str y_.2.2))])))) := mu107
          clear mk118
          exact hN36 ((s31.take (Int.toNat r110) ++ [((r41 - (5 : Int)), r46, (Str.mk #[c57]))] ++ s31.drop (Int.toNat r110))) _ _ hM ⟨_, _, rfl, hW, hk33, mu107⟩
        · skip
          exact hN36 (s31) _ _ hM ⟨_, _, rfl, hW, hk33, mu107⟩
    · skip
      clear mu22
      rintro s120 _ H125 hM ⟨w122, w123, rfl, hW, hk121, mu124⟩
      replace h16 := rep_keep hk121 h16
      have h126 := mo_rep_dr dr_here nm21 mu124
      replace hW := wd_dr dr_here mu124.hp hW
      replace h16 := rep_dr dr_here h16
      clear mu124
      refine ⟨_, rfl, ?_⟩
      exact hQ s120 _ _ hM hW.out h126
def M_is_list (x_value : (List (Int × Int × Str))) (KM : Bool → Prop) : Prop :=
  (KM true)
def sp_is_list (A : Ad) : Sp := fun vs H Q _ => ∃ (ms : List Addr) (v_value : V) (x_value : (List (Int × Int × Str))) (KM : Bool → Prop), vs = [v_value] ∧ Wd ms [] [] H H ∧ rep ms H (D.lst (x_value.map (fun y_ : (Int × Int × Str) => (D.tup [(D.v (V.int y_.1)), (D.v (V.int y_.2.1)), (D.v (V.str y_.2.2))])))) v_value ∧ M_is_list x_value KM ∧ ∀ (r : Bool) (u : V) (H1 : Hp), KM r → Ret [] H H1 → rep ms H1 (D.v (V.bl r)) u → Q u H1
set_option maxHeartbeats 16000000 in
theorem ok_is_list {P : Program} {w : World} {K : PySem.W.Frag} {mg : Str → Option Value} {base : Heap} {A : Ad} (T : Txt w K mg A) : FnOk P w K mg base CX0 1 A.a_is_list A.d_is_list ["value"] (sp_is_list A) := by
  refine T.F_is_list.ok sc_is_list (fun vs H Q E h => ?_) (fun cdv A_ outer s_ H_0 vs Q E hr h => ?_)
  · obtain ⟨ms, v_value, x_value, KM, rfl, _⟩ := h
    rfl
  · obtain ⟨ms, v_value, x_value, KM, rfl, hW, h_value, hM, hQ⟩ := h
    unfold M_is_list at hM
    refine ⟨_, (pss_one (ps_ret (pe_callB (call_isiTK (K := K) rfl) (by rfl) T.z_isinstance (by decide +kernel) (pa_cons (pv 0) (pa_cons (pe_tup (pa_cons (pe_bltn (v := .ty "list") (by rfl) T.z_list (by decide +kernel) rfl) (pa_cons (pe_bltn (v := .ty "tuple") (by rfl) T.z_tuple (by decide +kernel) rfl) pa_nil))) pa_nil))))), ?_⟩
    refine ⟨_, rfl, ?_⟩
    refine ⟨(by show 2 ≤ sizeLine; decide), ?_⟩
    intro p1 n2
    have e3 := Rx.Ext.new (H := H_0) (o := (HO.tup [V.ty "list", V.ty "tuple"])) n2
    have hp4 : upd H_0 p1 (HO.tup [V.ty "list", V.ty "tuple"]) p1 = some (HO.tup [V.ty "list", V.ty "tuple"]) := upd_same
    generalize upd H_0 p1 (HO.tup [V.ty "list", V.ty "tuple"]) = H5 at e3 hp4 ⊢
    replace h_value := rep_ext e3 h_value
    replace hW := hW.ret0 e3
    apply rep_isi2 (d := (D.lst (x_value.map (fun y_ : (Int × Int × Str) => (D.tup [(D.v (V.int y_.1)), (D.v (V.int y_.2.1)), (D.v (V.str y_.2.2))]))))) (a := "list") (b := "list") (c := "tuple") (r1 := true) (r2 := false) h_value (by rfl) (by rfl) hp4 (by decide +kernel) (by decide +kernel)
    skip
    exact hQ true _ _ hM hW.out rep_v
def M_is_integer (x_value : Int) (KM : Bool → Prop) : Prop :=
  (KM (!false))
def sp_is_integer (A : Ad) : Sp := fun vs H Q _ => ∃ (ms : List Addr) (x_value : Int) (KM : Bool → Prop), vs = [V.int x_value] ∧ Wd ms [] [] H H ∧ M_is_integer x_value KM ∧ ∀ (r : Bool) (u : V) (H1 : Hp), KM r → Ret [] H H1 → rep ms H1 (D.v (V.bl r)) u → Q u H1
set_option maxHeartbeats 16000000 in
theorem ok_is_integer {P : Program} {w : World} {K : PySem.W.Frag} {mg : Str → Option Value} {base : Heap} {A : Ad} (T : Txt w K mg A) : FnOk P w K mg base CX0 1 A.a_is_integer A.d_is_integer ["value"] (sp_is_integer A) := by
  refine T.F_is_integer.ok sc_is_integer (fun vs H Q E h => ?_) (fun cdv A_ outer s_ H_0 vs Q E hr h => ?_)
  · obtain ⟨ms, x_value, KM, rfl, _⟩ := h
    rfl
  · obtain ⟨ms, x_value, KM, rfl, hW, hM, hQ⟩ := h
    unfold M_is_integer at hM
    refine ⟨_, (pss_one (ps_ret (pe_and (pe_callB (call_isiK (K := K) rfl) (by rfl) T.z_isinstance (by decide +kernel) (pa_cons (pv 0) (pa_cons (pe_bltn (v := .ty "int") (by rfl) T.z_int (by decide +kernel) rfl) pa_nil))) (pe_one (pe_not (pe_callB (call_isiK (K := K) rfl) (by rfl) T.z_isinstance (by decide +kernel) (pa_cons (pv 0) (pa_cons (pe_bltn (v := .ty "bool") (by rfl) T.z_bool (by decide +kernel) rfl) pa_nil)))))))), ?_⟩
    refine ⟨_, rfl, ?_⟩
    refine ⟨_, _, _, _, true, rfl, .ty _, .base (.int _), kit_ty (by decide +kernel), ?_⟩
    refine ⟨_, rfl, ?_⟩
    refine iteT ?_
    refine ⟨_, rfl, ?_⟩
    refine ⟨_, _, _, _, false, rfl, .ty _, .base (.int _), kit_ty (by decide +kernel), ?_⟩
    refine ⟨_, rfl, ?_⟩
    exact hQ (!false) _ _ hM hW.out rep_v
def M_is_count (x_value : Int) (KM : Bool → Prop) : Prop :=
  (M_is_integer x_value fun r1 => (if r1 = true then (KM (decide ((0 : Int) ≤ x_value))) else (KM false)))
def sp_is_count (A : Ad) : Sp := fun vs H Q _ => ∃ (ms : List Addr) (x_value : Int) (KM : Bool → Prop), vs = [V.int x_value] ∧ Wd ms [] [] H H ∧ M_is_count x_value KM ∧ ∀ (r : Bool) (u : V) (H1 : Hp), KM r → Ret [] H H1 → rep ms H1 (D.v (V.bl r)) u → Q u H1
set_option maxHeartbeats 16000000 in
theorem ok_is_count {P : Program} {w : World} {K : PySem.W.Frag} {mg : Str → Option Value} {base : Heap} {A : Ad} (T : Txt w K mg A) : FnOk P w K mg base CX0 2 A.a_is_count A.d_is_count ["value"] (sp_is_count A) := by
  refine T.F_is_count.ok sc_is_count (fun vs H Q E h => ?_) (fun cdv A_ outer s_ H_0 vs Q E hr h => ?_)
  · obtain ⟨ms, x_value, KM, rfl, _⟩ := h
    rfl
  · obtain ⟨ms, x_value, KM, rfl, hW, hM, hQ⟩ := h
    unfold M_is_count at hM
    refine ⟨_, (pss_one (ps_ret (pe_and (pe_call (ok_is_integer T) (hr.mono (by decide)) (by rfl) T.g_is_integer T.F_is_integer.kp T.b_is_integer .nil pass0 (pa_cons (pv 0) pa_nil)) (pe_one (pe_cmpR op_ge (pv 0) pe_int (nomark _)))))), ?_⟩
    refine ⟨_, rfl, ?_⟩
    refine ⟨ms, x_value, _, rfl, hW.enter0, hM, fun r1 u4 H5 hM e3 h2 => ?_⟩
    replace hW := hW.ret0 e3
    obtain rfl := of_v h2
    refine ⟨_, rfl, ?_⟩
    refine ite3 hM (fun hM => ?_) (fun hM => ?_)
    · skip
      refine ⟨_, rfl, ?_⟩
      refine ⟨_, _, rfl, rfl, ?_⟩
      exact hQ (decide ((0 : Int) ≤ x_value)) _ _ hM hW.out rep_v
    · skip
      exact hQ false _ _ hM hW.out rep_v
def M_is_mark (x_value : Str) (KM : Bool → Prop) : Prop :=
  (∃ c1 : Str, wd_CONTRARIES.lookup x_value = some c1 ∧ (KM true))
def sp_is_mark (A : Ad) : Sp := fun vs H Q _ => ∃ (ms : List Addr) (x_value : Str) (KM : Bool → Prop), vs = [V.str x_value] ∧ Wd ms [] [] H H ∧ M_is_mark x_value KM ∧ ∀ (r : Bool) (u : V) (H1 : Hp), KM r → Ret [] H H1 → rep ms H1 (D.v (V.bl r)) u → Q u H1
set_option maxHeartbeats 16000000 in
theorem ok_is_mark {P : Program} {w : World} {K : PySem.W.Frag} {mg : Str → Option Value} {base : Heap} {A : Ad} (T : Txt w K mg A) : FnOk P w K mg base CX0 1 A.a_is_mark A.d_is_mark ["value"] (sp_is_mark A) := by
  refine T.F_is_mark.ok sc_is_mark (fun vs H Q E h => ?_) (fun cdv A_ outer s_ H_0 vs Q E hr h => ?_)
  · obtain ⟨ms, x_value, KM, rfl, _⟩ := h
    rfl
  · obtain ⟨ms, x_value, KM, rfl, hW, hM, hQ⟩ := h
    unfold M_is_mark at hM
    refine ⟨_, (pss_one (ps_ret (pe_and (pe_callB (call_isiK (K := K) rfl) (by rfl) T.z_isinstance (by decide +kernel) (pa_cons (pv 0) (pa_cons (pe_bltn (v := .ty "str") (by rfl) T.z_str (by decide +kernel) rfl) pa_nil))) (pe_one (pe_cmpR (op_inW (K := K) (w := w) rfl rfl T.lo_CONTRARIES) (pv 0) (pe_glob (v := .ref A.wd_CONTRARIES) (by rfl) T.g_CONTRARIES rfl) (by rfl)))))), ?_⟩
    refine ⟨_, rfl, ?_⟩
    refine ⟨_, _, _, _, true, rfl, .ty _, .base (.str _), kit_ty (by decide +kernel), ?_⟩
    refine ⟨_, rfl, ?_⟩
    refine iteT ?_
    refine ⟨_, rfl, ?_⟩
    obtain ⟨c1, h2, hM⟩ := hM
    apply rep_inW T.kd_CONTRARIES h2
    exact hQ true _ _ hM hW.out rep_v
def M_is_cell (x_value : (Int × Int × Str)) (KM : Bool → Prop) : Prop :=
  (if (!(decide (V.int (3 : Int) = V.int (3 : Int)))) = true then (KM false) else (M_is_integer x_value.1 fun r15 => (if (!r15) = true then (KM false) else (if (decide ((5 : Int) < (if x_value.1 < 0 then -x_value.1 else x_value.1))) = true then (KM false) else (M_is_count x_value.2.1 fun r20 => (if r20 = true then (if (decide (x_value.2.1 ≤ (3 : Int))) = true then (M_is_mark x_value.2.2 fun r25 => (KM r25)) else (KM false)) else (KM false)))))))
def sp_is_cell (A : Ad) : Sp := fun vs H Q _ => ∃ (ms : List Addr) (v_value : V) (x_value : (Int × Int × Str)) (KM : Bool → Prop), vs = [v_value] ∧ Wd ms [] [] H H ∧ rep ms H (D.tup [(D.v (V.int x_value.1)), (D.v (V.int x_value.2.1)), (D.v (V.str x_value.2.2))]) v_value ∧ M_is_cell x_value KM ∧ ∀ (r : Bool) (u : V) (H1 : Hp), KM r → Ret [] H H1 → rep ms H1 (D.v (V.bl r)) u → Q u H1
set_option maxHeartbeats 16000000 in
theorem ok_is_cell {P : Program} {w : World} {K : PySem.W.Frag} {mg : Str → Option Value} {base : Heap} {A : Ad} (T : Txt w K mg A) : FnOk P w K mg base CX0 3 A.a_is_cell A.d_is_cell ["value"] (sp_is_cell A) := by
  refine T.F_is_cell.ok sc_is_cell (fun vs H Q E h => ?_) (fun cdv A_ outer s_ H_0 vs Q E hr h => ?_)
  · obtain ⟨ms, v_value, x_value, KM, rfl, _⟩ := h
    rfl
  · obtain ⟨ms, v_value, x_value, KM, rfl, hW, h_value, hM, hQ⟩ := h
    unfold M_is_cell at hM
    refine ⟨_, (pss_cons (ps_if (PW.pt (pw_or (pt_not (pt_val (pe_callB (call_isiK (K := K) rfl) (by rfl) T.z_isinstance (by decide +kernel) (pa_cons (pv 0) (pa_cons (pe_bltn (v := .ty "tuple") (by rfl) T.z_tuple (by decide +kernel) rfl) pa_nil))))) (pw_or1 (pt_cmpR op_ne (pe_callB (call_lenK (K := K) rfl) (by rfl) T.z_len PySem.boot_len (pa_cons (pv 0) pa_nil)) pe_int (nomark _))))) (pss_one (ps_ret pe_bl)) pss_nil) (pss_cons (ps_asg (pv 0) (pg_tup rfl (pgs_cons (pg_name (i := 1) sc_is_cell.nd rfl (by first | exact Or.inl rfl | exact Or.inr rfl)) (pgs_cons (pg_name (i := 2) sc_is_cell.nd rfl (by first | exact Or.inl rfl | exact Or.inr rfl)) (pgs_cons (pg_name (i := 3) sc_is_cell.nd rfl (by first | exact Or.inl rfl | exact Or.inr rfl)) pgs_nil))))) (pss_cons (ps_if (PW.pt (pw_or (pt_not (pt_val (pe_call (ok_is_integer T) (hr.mono (by decide)) (by rfl) T.g_is_integer T.F_is_integer.kp T.b_is_integer .nil pass0 (pa_cons (pv 1) pa_nil)))) (pw_or1 (pt_cmpR op_gt (pe_callB call_abs (by rfl) T.z_abs (by decide +kernel) (pa_cons (pv 1) pa_nil)) (C8.pe_gc (by rfl) T.c_MOST_AHEAD) (nomark _))))) (pss_one (ps_ret pe_bl)) pss_nil) (pss_one (ps_ret (pe_and (pe_call (ok_is_count T) (hr.mono (by decide)) (by rfl) T.g_is_count T.F_is_count.kp T.b_is_count .nil pass0 (pa_cons (pv 2) pa_nil)) (pe_and (pe_cmpR op_le (pv 2) (C8.pe_gc (by rfl) T.c_MOST_LATER) (nomark _)) (pe_one (pe_call (ok_is_mark T) (hr.mono (by decide)) (by rfl) T.g_is_mark T.F_is_mark.kp T.b_is_mark .nil pass0 (pa_cons (pv 3) pa_nil)))))))))), ?_⟩
    refine ⟨_, rfl, ?_⟩
    apply rep_isi1 (d := (D.tup [(D.v (V.int x_value.1)), (D.v (V.int x_value.2.1)), (D.v (V.str x_value.2.2))])) (a := "tuple") (b := "tuple") (r := true) h_value (by rfl) (by rfl) (by decide +kernel)
    refine ⟨_, rfl, ?_⟩
    refine iteF ?_
    refine ⟨_, rfl, ?_⟩
    apply rep_lenT (n := 3) h_value rfl
    refine ⟨rfl, ?_⟩
    refine ⟨_, rfl, ?_⟩
    refine ite3 hM (fun hM => ?_) (fun hM => ?_)
    · skip
      exact hQ false _ _ hM hW.out rep_v
    · skip
      refine ⟨_, rfl, ?_⟩
      apply rep_gtup h_value rfl
      intro vs1 hv2
      obtain ⟨u3, us4, rfl, h5, hv6⟩ := repL_uncons hv2
      obtain rfl := of_v h5
      obtain ⟨u7, us8, rfl, h9, hv10⟩ := repL_uncons hv6
      obtain rfl := of_v h9
      obtain ⟨u11, us12, rfl, h13, hv14⟩ := repL_uncons hv10
      obtain rfl := of_v h13
      obtain rfl := repL_empty hv14
      refine ⟨_, _, rfl, ?_⟩
      refine ⟨_, _, rfl, ?_⟩
      refine ⟨_, _, rfl, ?_⟩
      refine ⟨rfl, ?_⟩
      refine ⟨_, rfl, ?_⟩
      refine ⟨ms, x_value.1, _, rfl, hW.enter0, hM, fun r15 u18 H19 hM e17 h16 => ?_⟩
      replace h_value := rep_ext e17 h_value
      replace hW := hW.ret0 e17
      obtain rfl := of_v h16
      refine ⟨_, rfl, ?_⟩
      refine ite3 hM (fun hM => ?_) (fun hM => ?_)
      · skip
        refine iteT ?_
        exact hQ false _ _ hM hW.out rep_v
      · skip
        refine ⟨_, rfl, ?_⟩
        refine ⟨_, rfl, ?_⟩
        refine ⟨_, _, rfl, rfl, ?_⟩
        refine ⟨_, rfl, ?_⟩
        refine ite3 hM (fun hM => ?_) (fun hM => ?_)
        · skip
          exact hQ false _ _ hM hW.out rep_v
        · skip
          refine ⟨_, rfl, ?_⟩
          refine ⟨ms, x_value.2.1, _, rfl, hW.enter0, hM, fun r20 u23 H24 hM e22 h21 => ?_⟩
          replace h_value := rep_ext e22 h_value
          replace hW := hW.ret0 e22
          obtain rfl := of_v h21
          refine ⟨_, rfl, ?_⟩
          refine ite3 hM (fun hM => ?_) (fun hM => ?_)
          · skip
            refine ⟨_, rfl, ?_⟩
            refine ⟨_, _, rfl, rfl, ?_⟩
            refine ⟨_, rfl, ?_⟩
            refine ite3 hM (fun hM => ?_) (fun hM => ?_)
            · skip
              refine ⟨_, rfl, ?_⟩
              refine ⟨ms, x_value.2.2, _, rfl, hW.enter0, hM, fun r25 u28 H29 hM e27 h26 => ?_⟩
              replace h_value := rep_ext e27 h_value
              replace hW := hW.ret0 e27
              obtain rfl := of_v h26
              exact hQ r25 _ _ hM hW.out rep_v
            · skip
              exact hQ false _ _ hM hW.out rep_v
          · skip
            exact hQ false _ _ hM hW.out rep_v
def M_check_cells (x_cells : (List (Int × Int × Str))) (KM : Unit → Prop) : Prop :=
  (M_is_list x_cells fun r1 => (if (!r1) = true then False else (if (decide (V.int (x_cells.length : Int) = V.int (0 : Int))) = true then False else (forC (fun (x16 : (Int × (Int × Int × Str))) (s18 : (List (List Key × Bool))) (k19 : ((List (List Key × Bool))) → Prop) => (M_is_cell x16.2 fun r40 => (if (!r40) = true then False else (if (hasD s18 ([Sum.inl x16.2.1, Sum.inl x16.2.2.1] : List Key)) = true then False else (s18.length < 16777216 ∧ (k19 ((putD s18 ([Sum.inl x16.2.1, Sum.inl x16.2.2.1] : List Key) true)))))))) ((rangeI 0 (x_cells.length : Int)).zip x_cells) (([] : (List (List Key × Bool)))) fun s69 => (x_cells.length < 100000 ∧ mapC (fun (x92 : (Int × Int × Str)) (k85 : Int → Prop) => (k85 x92.2.1)) x_cells [] fun ys105 => (if (!(inV (V.int (0 : Int)) (ys105.map V.int))) = true then False else (if (decide ((5 : Int) < (x_cells.length : Int))) = true then False else (KM ()))))))))
def sp_check_cells (A : Ad) : Sp := fun vs H Q _ => ∃ (ms : List Addr) (v_cells : V) (x_cells : (List (Int × Int × Str))) (KM : Unit → Prop), vs = [v_cells] ∧ Wd ms [] [] H H ∧ rep ms H (D.lst (x_cells.map (fun y_ : (Int × Int × Str) => (D.tup [(D.v (V.int y_.1)), (D.v (V.int y_.2.1)), (D.v (V.str y_.2.2))])))) v_cells ∧ M_check_cells x_cells KM ∧ ∀ (r : Unit) (u : V) (H1 : Hp), KM r → Ret [] H H1 → rep ms H1 (D.v V.non) u → Q u H1
set_option maxHeartbeats 16000000 in
theorem ok_check_cells {P : Program} {w : World} {K : PySem.W.Frag} {mg : Str → Option Value} {base : Heap} {A : Ad} (T : Txt w K mg A) : FnOk P w K mg base CX0 4 A.a_check_cells A.d_check_cells ["cells"] (sp_check_cells A) := by
  refine T.F_check_cells.ok sc_check_cells (fun vs H Q E h => ?_) (fun cdv A_ outer s_ H_0 vs Q E hr h => ?_)
  · obtain ⟨ms, v_cells, x_cells, KM, rfl, _⟩ := h
    rfl
  · obtain ⟨ms, v_cells, x_cells, KM, rfl, hW, h_cells, hM, hQ⟩ := h
    unfold M_check_cells at hM
    refine ⟨_, (pss_cons (ps_if (PW.pt (pw_or (pt_not (pt_val (pe_call (ok_is_list T) (hr.mono (by decide)) (by rfl) T.g_is_list T.F_is_list.kp T.b_is_list .nil pass0 (pa_cons (pv 0) pa_nil)))) (pw_or1 (pt_cmpR op_eq (pe_callB (call_lenK (K := K) rfl) (by rfl) T.z_len PySem.boot_len (pa_cons (pv 0) pa_nil)) pe_int (nomark _))))) (pss_one ps_never) pss_nil) (pss_cons (ps_set (i := 1) sc_check_cells.nd rfl (by first | exact Or.inl rfl | exact Or.inr rfl) pe_dnewT) (pss_cons (ps_for PassesOwn.never rfl (pi_enum (by rfl) T.z_enumerate (pa_cons (pv 0) pa_nil)) (pg_tup rfl (pgs_cons (pg_name (i := 2) sc_check_cells.nd rfl (by first | exact Or.inl rfl | exact Or.inr rfl)) (pgs_cons (pg_name (i := 3) sc_check_cells.nd rfl (by first | exact Or.inl rfl | exact Or.inr rfl)) pgs_nil))) (pss_cons (ps_if (PW.pt (pw_or (pt_not (pt_val (pe_call (ok_is_cell T) (hr.mono (by decide)) (by rfl) T.g_is_cell T.F_is_cell.kp T.b_is_cell .nil pass0 (pa_cons (pv 3) pa_nil)))) (pw_or1 (pt_cmp (pc_din (hu_of hr) (pe_slice (sl_tupK (K := K) rfl) (pv 3) po_none (po_some pe_int)) (pv 1)) rfl)))) (pss_one ps_never) pss_nil) (pss_one (ps_asg pe_bl (pg_sub (pv 1) (pe_slice (sl_tupK (K := K) rfl) (pv 3) po_none (po_some pe_int)) (set_dict (hu_of hr))))))) (pss_cons (ps_if (pt_cmpR (op_ninSK (K := K) rfl) pe_int (pe_lc (own := [("cell", 3)]) (g := gName 3) rfl sc_check_cells.nd (pi_list (pv 0)) (blkOk_by (N := ["cells", "told", "position", "cell"]) (sc := defScope s_check_cells) (by decide +kernel)) (fun _ _ _ _ _ => pg_name (i := 3) sc_check_cells.nd rfl (by first | exact Or.inl rfl | exact Or.inr rfl)) (fun _ _ _ _ _ => pts_nil) (fun _ _ _ _ _ => (pe_ix (ix_tupK (K := K) rfl) (pv 3) pe_int (fun _ _ => rfl)))) (by rfl)) (pss_one ps_never) pss_nil) (pss_one (ps_if (pt_cmpR op_gt (pe_callB (call_lenK (K := K) rfl) (by rfl) T.z_len PySem.boot_len (pa_cons (pv 0) pa_nil)) (C8.pe_gc (by rfl) T.c_MOST_CELLS) (nomark _)) (pss_one ps_never) pss_nil)))))), ?_⟩
    refine ⟨_, rfl, ?_⟩
    refine ⟨ms, _, x_cells, _, rfl, hW.enter0, h_cells, hM, fun r1 u4 H5 hM e3 h2 => ?_⟩
    replace h_cells := rep_ext e3 h_cells
    replace hW := hW.ret0 e3
    obtain rfl := of_v h2
    refine ⟨_, rfl, ?_⟩
    refine ite3 hM (fun hM => ?_) (fun hM => ?_)
    · skip
      refine iteT ?_
      exact hM
    · skip
      refine ⟨_, rfl, ?_⟩
      apply rep_lenL (e := (fun y_ : (Int × Int × Str) => (D.tup [(D.v (V.int y_.1)), (D.v (V.int y_.2.1)), (D.v (V.str y_.2.2))]))) (xs := x_cells) h_cells
      refine ⟨rfl, ?_⟩
      refine ⟨_, rfl, ?_⟩
      refine ite3 hM (fun hM => ?_) (fun hM => ?_)
      · skip
        exact hM
      · skip
        intro L6 nl7
        have nm8 := nm_new hW nl7
        have mu9 := mo_nilT (e := (fun y_ : Bool => (D.v (V.bl y_)))) hW nl7
        replace h_cells := rep_cell (o := .dT []) nl7 h_cells
        replace hW := wd_cell (o := .dT []) hW nl7
        generalize upd H5 L6 (.dT []) = H10 at *
        replace mu9 : MutO (L6 :: ms) [] H_0 H10 L6 (D.dcT (([] : (List (List Key × Bool))).map (·.1)) (([] : (List (List Key × Bool))).map fun y_ : List Key × Bool => (D.v (V.bl y_.2)))) := mu9
        refine ⟨_, rfl, ?_⟩
        apply rep_iterE h_cells
        intro a11 xs12 _ an13 hp14 hl15
        refine for_enumG (S := (List (List Key × Bool))) (items := x_cells) (e := (fun y_ : (Int × Int × Str) => (D.tup [(D.v (V.int y_.1)), (D.v (V.int y_.2.1)), (D.v (V.str y_.2.2))]))) (ms := (L6 :: ms)) (fun (s : (List (List Key × Bool))) σ_ h_ => ∃ (w_0 : Option V), ∃ (w_1 : Option V), σ_ = [some v_cells, some (V.ref L6), w_0, w_1] ∧ Wd (L6 :: ms) [] [] H_0 h_ ∧ Keep (L6 :: ms) H10 h_ ∧ MutO (L6 :: ms) [] H_0 h_ L6 (D.dcT (s.map (·.1)) (s.map fun y_ : List Key × Bool => (D.v (V.bl y_.2))))) (([] : (List (List Key × Bool)))) an13 hp14 hl15 (fun _ _ _ z_ => by obtain ⟨_, _, _, _, q_, _⟩ := z_; exact q_) (fun _ _ _ z_ => by obtain ⟨_, _, _, w_, _, _⟩ := z_; exact w_.tr) hM ⟨_, _, rfl, hW, Keep.refl, mu9⟩ ?_ ?_
        · skip
          clear mu9
          rintro x16 u17 s18 k19 _ H29 H28 ⟨w24, w25, rfl, hW, hk20, mu26⟩ ex27 h21 hM Nx22 hN23
          replace h_cells := rep_keep hk20 h_cells
          replace h_cells := rep_ext ex27 h_cells
          replace hk20 := keep_ext ex27 hk20
          replace mu26 := mo_ext ex27 mu26
          replace hW := hW.ret0 ex27
          apply rep_gtup h21 rfl
          intro vs30 hv31
          obtain ⟨u32, us33, rfl, h34, hv35⟩ := repL_uncons hv31
          obtain rfl := of_v h34
          obtain ⟨u36, us37, rfl, h38, hv39⟩ := repL_uncons hv35
          obtain rfl := repL_empty hv39
          refine ⟨_, _, rfl, ?_⟩
          refine ⟨_, _, rfl, ?_⟩
          refine ⟨rfl, ?_⟩
          refine ⟨_, rfl, ?_⟩
          refine ⟨(L6 :: ms), _, x16.2, _, rfl, hW.enter0, h38, hM, fun r40 u43 H44 hM e42 h41 => ?_⟩
          replace h_cells := rep_ext e42 h_cells
          replace hk20 := keep_ext e42 hk20
          replace h21 := rep_ext e42 h21
          replace h38 := rep_ext e42 h38
          replace mu26 := mo_ext e42 mu26
          replace hW := hW.ret0 e42
          obtain rfl := of_v h41
          refine ⟨_, rfl, ?_⟩
          refine ite3 hM (fun hM => ?_) (fun hM => ?_)
          · skip
            refine iteT ?_
            exact hM
          · skip
            refine ⟨_, rfl, ?_⟩
            refine ⟨_, rfl, ?_⟩
            apply rep_slT 2 h38 (by show 2 < 3; decide)
            intro vs45 hr46
            intro p47 np48
            have e49 := Rx.Ext.new (H := H44) (o := (HO.tup vs45)) np48
            have hp50 : upd H44 p47 (HO.tup vs45) p47 = some (HO.tup vs45) := upd_same
            generalize upd H44 p47 (HO.tup vs45) = H52 at e49 hp50 ⊢
            have h51 : rep (L6 :: ms) H52 (D.tup [(D.v (V.int x16.2.1)), (D.v (V.int x16.2.2.1))]) (.ref p47) := rep_tup_mk (ds := [(D.v (V.int x16.2.1)), (D.v (V.int x16.2.2.1))]) hW np48 e49 hp50 hr46
            replace h_cells := rep_ext e49 h_cells
            replace hk20 := keep_ext e49 hk20
            replace h21 := rep_ext e49 h21
            replace h38 := rep_ext e49 h38
            replace mu26 := mo_ext e49 mu26
            replace hW := hW.ret0 e49
            refine ⟨_, rfl, ?_⟩
            apply mo_hasT (e := (fun y_ : Bool => (D.v (V.bl y_)))) (m := s18) (ks := ([Sum.inl x16.2.1, Sum.inl x16.2.2.1] : List Key)) mu26 h51 rfl
            intro o53 ho54
            rw [ho54]
            refine ⟨_, rfl, ?_⟩
            refine ite3 hM (fun hM => ?_) (fun hM => ?_)
            · skip
              exact hM
            · skip
              refine ⟨_, rfl, ?_⟩
              refine ⟨_, rfl, ?_⟩
              refine ⟨_, rfl, ?_⟩
              apply rep_slT 2 h38 (by show 2 < 3; decide)
              intro vs55 hr56
              intro p57 np58
              have e59 := Rx.Ext.new (H := H52) (o := (HO.tup vs55)) np58
              have hp60 : upd H52 p57 (HO.tup vs55) p57 = some (HO.tup vs55) := upd_same
              generalize upd H52 p57 (HO.tup vs55) = H62 at e59 hp60 ⊢
              have h61 : rep (L6 :: ms) H62 (D.tup [(D.v (V.int x16.2.1)), (D.v (V.int x16.2.2.1))]) (.ref p57) := rep_tup_mk (ds := [(D.v (V.int x16.2.1)), (D.v (V.int x16.2.2.1))]) hW np58 e59 hp60 hr56
              replace h_cells := rep_ext e59 h_cells
              replace hk20 := keep_ext e59 hk20
              replace h21 := rep_ext e59 h21
              replace h38 := rep_ext e59 h38
              replace h51 := rep_ext e59 h51
              replace mu26 := mo_ext e59 mu26
              replace hW := hW.ret0 e59
              obtain ⟨g66, hM⟩ := hM
              apply mo_putT (ks := ([Sum.inl x16.2.1, Sum.inl x16.2.2.1] : List Key)) (e := (fun y_ : Bool => (D.v (V.bl y_)))) (m := s18) (y := true) mu26 h61 rfl rep_v g66
              intro vs63 hl64 hr65
              have mk67 := mo_setT (ks := (putD s18 ([Sum.inl x16.2.1, Sum.inl x16.2.2.1] : List Key) true).map (·.1)) (ds := (putD s18 ([Sum.inl x16.2.1, Sum.inl x16.2.2.1] : List Key) true).map fun q_ => (fun y_ : Bool => (D.v (V.bl y_))) q_.2) mu26 hl64 hr65
              replace h_cells := rep_put (o := .dT (List.zip ((putD s18 ([Sum.inl x16.2.1, Sum.inl x16.2.2.1] : List Key) true).map (·.1)) vs63)) mu26.im h_cells
              replace hk20 := keep_put (o := .dT (List.zip ((putD s18 ([Sum.inl x16.2.1, Sum.inl x16.2.2.1] : List Key) true).map (·.1)) vs63)) mu26.im hk20
              replace h21 := rep_put (o := .dT (List.zip ((putD s18 ([Sum.inl x16.2.1, Sum.inl x16.2.2.1] : List Key) true).map (·.1)) vs63)) mu26.im h21
              replace h38 := rep_put (o := .dT (List.zip ((putD s18 ([Sum.inl x16.2.1, Sum.inl x16.2.2.1] : List Key) true).map (·.1)) vs63)) mu26.im h38
              replace h51 := rep_put (o := .dT (List.zip ((putD s18 ([Sum.inl x16.2.1, Sum.inl x16.2.2.1] : List Key) true).map (·.1)) vs63)) mu26.im h51
              replace h61 := rep_put (o := .dT (List.zip ((putD s18 ([Sum.inl x16.2.1, Sum.inl x16.2.2.1] : List Key) true).map (·.1)) vs63)) mu26.im h61
              replace hW := wd_put (o := .dT (List.zip ((putD s18 ([Sum.inl x16.2.1, Sum.inl x16.2.2.1] : List Key) true).map (·.1)) vs63)) hW mu26
              replace mu26 := mk67
              generalize upd H62 L6 (.dT (List.zip ((putD s18 ([Sum.inl x16.2.1, Sum.inl x16.2.2.1] : List Key) true).map (·.1)) vs63)) = H68 at *
              replace mu26 : MutO (L6 :: ms) [] H_0 H68 L6 (D.dcT ((putD s18 ([Sum.inl x16.2.1, Sum.inl x16.2.2.1] : List Key) true).map (·.1)) ((putD s18 ([Sum.inl x16.2.1, Sum.inl x16.2.2.1] : List Key) true).map fun y_ : List Key × Bool => (D.v (V.bl y_.2)))) := mu26
              clear mk67
              exact hN23 ((putD s18 ([Sum.inl x16.2.1, Sum.inl x16.2.2.1] : List Key) true)) _ _ hM ⟨_, _, rfl, hW, hk20, mu26⟩
        · skip
          clear mu9
          rintro s69 _ H74 hM ⟨w71, w72, rfl, hW, hk70, mu73⟩
          replace h_cells := rep_keep hk70 h_cells
          have h75 := mo_rep_dr dr_here nm8 mu73
          replace hW := wd_dr dr_here mu73.hp hW
          replace h_cells := rep_dr dr_here h_cells
          clear mu73
          refine ⟨_, rfl, ?_⟩
          apply rep_iter h_cells
          intro a76 xs77 _ an78 hp79 hl80
          refine fun L81 nl82 => ?_
          have nm96 := nm_new hW nl82
          refine lc_listG (L := L81) (fun n_ ys_ h_ => Wd (L81 :: ms) [] [] H_0 h_ ∧ Keep (L81 :: ms) H74 h_ ∧ MutO (L81 :: ms) [] H_0 h_ L81 (D.lst (ys_.map (fun y_ : Int => (D.v (V.int y_))))) ∧ ys_.length ≤ n_) (items := x_cells) (e := (fun y_ : (Int × Int × Str) => (D.tup [(D.v (V.int y_.1)), (D.v (V.int y_.2.1)), (D.v (V.str y_.2.2))]))) an78 hp79 hl80 nl82 (fun _ _ _ q_ => q_.2.1) hM ⟨wd_cell hW nl82, keep_cell nl82 Keep.refl, mo_newL (ds := []) hW nl82 repL_nil, Nat.le_refl _⟩ ?_ ?_
          · skip
            rintro x92 u93 n83 ys84 k85 H97 hn ⟨hW, hk86, mu87, ln88⟩ h94 hM Nx91 hN89
            replace h_cells := rep_keep hk86 (rep_new nl82 h_cells)
            replace h75 := rep_keep hk86 (rep_new nl82 h75)
            refine ⟨rfl, ?_⟩
            refine tyes_of ?_
            refine ⟨_, rfl, ?_⟩
            apply rep_ixT 1 h94 rfl rfl
            intro u99 h98
            obtain rfl := of_v h98
            refine mo_end mu87 hn (by rw [List.length_map]; exact ln88) fun vs100 hr101 => ?_
            have mk103 := mo_setL mu87 (repL_snoc (e := (fun y_ : Int => (D.v (V.int y_)))) (xs := ys84) (y := x92.2.1) hr101 rep_v)
            replace h_cells := rep_put (o := .lst (vs100 ++ [V.int x92.2.1])) mu87.im h_cells
            replace h75 := rep_put (o := .lst (vs100 ++ [V.int x92.2.1])) mu87.im h75
            replace hk86 := keep_put (o := .lst (vs100 ++ [V.int x92.2.1])) mu87.im hk86
            replace h94 := rep_put (o := .lst (vs100 ++ [V.int x92.2.1])) mu87.im h94
            replace hW := wd_put (o := .lst (vs100 ++ [V.int x92.2.1])) hW mu87
            replace mu87 := mk103
            generalize upd H97 L81 (.lst (vs100 ++ [V.int x92.2.1])) = H104 at *
            replace mu87 : MutO (L81 :: ms) [] H_0 H104 L81 (D.lst ((ys84 ++ [x92.2.1]).map (fun y_ : Int => (D.v (V.int y_))))) := mu87
            clear mk103
            exact hN89 x92.2.1 _ hM ⟨hW, hk86, mu87, by rw [List.length_append]; exact Nat.add_le_add_right ln88 1⟩
          · skip
            rintro n83 ys105 H106 hM ⟨hW, hk86, mu87, ln88⟩
            replace h_cells := rep_keep hk86 (rep_new nl82 h_cells)
            replace h75 := rep_keep hk86 (rep_new nl82 h75)
            clear hk86 ln88
            have h107 := mo_rep_dr dr_here nm96 mu87
            replace hW := wd_dr dr_here mu87.hp hW
            replace h_cells := rep_dr dr_here h_cells
            replace h75 := rep_dr dr_here h75
            clear mu87
            apply rep_ninL (f := V.int) (xs := ys105) h107 rfl (fun _ => rfl)
            refine ⟨_, rfl, ?_⟩
            refine ite3 hM (fun hM => ?_) (fun hM => ?_)
            · skip
              exact hM
            · skip
              refine ⟨_, rfl, ?_⟩
              apply rep_lenL (e := (fun y_ : (Int × Int × Str) => (D.tup [(D.v (V.int y_.1)), (D.v (V.int y_.2.1)), (D.v (V.str y_.2.2))]))) (xs := x_cells) h_cells
              refine ⟨_, _, rfl, rfl, ?_⟩
              refine ⟨_, rfl, ?_⟩
              refine ite3 hM (fun hM => ?_) (fun hM => ?_)
              · skip
                exact hM
              · skip
                exact hQ () _ _ hM hW.out rep_v
def M_Picture_init (x_cells : (List (Int × Int × Str))) (KM : (List (Int × Int × Str)) → Prop) : Prop :=
  (M_check_cells x_cells fun r1 => (x_cells.length < 100000 ∧ mapC (fun (x22 : (Int × Int × Str)) (k15 : (Int × Int × Str) → Prop) => (k15 (x22.1, x22.2.1, x22.2.2))) x_cells [] fun ys53 => ((∀ a_ ∈ ys53, ∀ b_ ∈ ys53, a_.1 = b_.1 → a_.2.1 = b_.2.1 → a_.2.2 = b_.2.2) ∧ ∀ ys56 : List (Int × Int × Str), ys56.Perm ys53 → ys56.Pairwise (fun a_ b_ => lxT b_ a_ = false) → (KM ys56))))
def sp_Picture_init (A : Ad) : Sp := fun vs H Q _ => ∃ (ms : List Addr) (p_ dx_ : Addr) (v_cells : V) (x_cells : (List (Int × Int × Str))) (KM : (List (Int × Int × Str)) → Prop), vs = [.ref p_, v_cells] ∧ Wd ms [] [] H H ∧ p_ ∈ ms ∧ H p_ = some (.ins A.c_Picture dx_ []) ∧ rep ms H (D.lst (x_cells.map (fun y_ : (Int × Int × Str) => (D.tup [(D.v (V.int y_.1)), (D.v (V.int y_.2.1)), (D.v (V.str y_.2.2))])))) v_cells ∧ M_Picture_init x_cells KM ∧ ∀ (r : (List (Int × Int × Str))) (us : List V) (H1 : Hp), KM r → KpI p_ H H1 → H1 p_ = some (.ins A.c_Picture dx_ (List.zip ns_Picture us)) → ns_Picture.length = us.length → repL ms H1 [(D.tup (r.map (fun y_ : (Int × Int × Str) => (D.tup [(D.v (V.int y_.1)), (D.v (V.int y_.2.1)), (D.v (V.str y_.2.2))]))))] us → Q .non H1
set_option maxHeartbeats 16000000 in
theorem ok_Picture_init {P : Program} {w : World} {K : PySem.W.Frag} {mg : Str → Option Value} {base : Heap} {A : Ad} (T : Txt w K mg A) : FnOk P w K mg base CX0 5 A.a_Picture_init A.d_Picture_init ["self", "cells"] (sp_Picture_init A) := by
  refine T.F_Picture_init.ok sc_Picture_init (fun vs H Q E h => ?_) (fun cdv A_ outer s_ H_0 vs Q E hr h => ?_)
  · obtain ⟨ms, p_, dx_, v_cells, x_cells, KM, rfl, _⟩ := h
    rfl
  · obtain ⟨ms, p_, dx_, v_cells, x_cells, KM, rfl, hW, pm_, hp, h_cells, hM, hQ⟩ := h
    unfold M_Picture_init at hM
    have hK := ki_refl (p := p_) (H := H_0)
    replace hp : H_0 p_ = some (.ins A.c_Picture dx_ (List.zip ([] : List Str) ([] : List V))) := hp
    refine ⟨_, (pss_cons (ps_expr (pe_call (ok_check_cells T) (hr.mono (by decide)) (by rfl) T.g_check_cells T.F_check_cells.kp T.b_check_cells .nil pass0 (pa_cons (pv 1) pa_nil))) (pss_one (ps_fld (pv 0) (pe_callTy (call_tuple_ofK (K := K) rfl) (by rfl) T.z_tuple (by decide +kernel) (pa_cons (pe_callB (cr_sortTr (K := K) rfl) (by rfl) T.z_sorted (by decide +kernel) (pa_cons (pe_lc (own := [("team", 2), ("later", 3), ("mark", 4)]) (g := (gTup K 3 (gCons (gName 2) (gCons (gName 3) (gCons (gName 4) gNil))))) rfl sc_Picture_init.nd (pi_list (pv 1)) (blkOk_by (N := ["self", "cells", "team", "later", "mark"]) (sc := defScope s_Picture_init) (by decide +kernel)) (fun _ _ _ _ _ => (pg_tup rfl (pgs_cons (pg_name (i := 2) sc_Picture_init.nd rfl (by first | exact Or.inl rfl | exact Or.inr rfl)) (pgs_cons (pg_name (i := 3) sc_Picture_init.nd rfl (by first | exact Or.inl rfl | exact Or.inr rfl)) (pgs_cons (pg_name (i := 4) sc_Picture_init.nd rfl (by first | exact Or.inl rfl | exact Or.inr rfl)) pgs_nil))))) (fun _ _ _ _ _ => pts_nil) (fun _ _ _ _ _ => (pe_tup (pa_cons (pv 2) (pa_cons (pv 3) (pa_cons (pv 4) pa_nil)))))) pa_nil)) pa_nil)) rfl))), ?_⟩
    refine ⟨_, rfl, ?_⟩
    refine ⟨ms, _, x_cells, _, rfl, hW.enter0, h_cells, hM, fun r1 u4 H5 hM e3 h2 => ?_⟩
    replace h_cells := rep_ext e3 h_cells
    replace hp := Rx.Ext.keep e3 hp
    replace hW := hW.ret0 e3
    obtain rfl := of_v h2
    refine ⟨_, rfl, ?_⟩
    apply rep_iter h_cells
    intro a6 xs7 _ an8 hp9 hl10
    refine fun L11 nl12 => ?_
    have nm26 := nm_new hW nl12
    refine lc_listG (L := L11) (fun n_ ys_ h_ => Wd (L11 :: ms) [] [] H_0 h_ ∧ Keep (L11 :: ms) H5 h_ ∧ MutO (L11 :: ms) [] H_0 h_ L11 (D.lst (ys_.map (fun y_ : (Int × Int × Str) => (D.tup [(D.v (V.int y_.1)), (D.v (V.int y_.2.1)), (D.v (V.str y_.2.2))])))) ∧ ys_.length ≤ n_ ∧ h_ p_ = some (.ins A.c_Picture dx_ (List.zip ([] : List Str) ([] : List V)))) (items := x_cells) (e := (fun y_ : (Int × Int × Str) => (D.tup [(D.v (V.int y_.1)), (D.v (V.int y_.2.1)), (D.v (V.str y_.2.2))]))) an8 hp9 hl10 nl12 (fun _ _ _ q_ => q_.2.1) hM ⟨wd_cell hW nl12, keep_cell nl12 Keep.refl, mo_newL (ds := []) hW nl12 repL_nil, Nat.le_refl _, Rx.Ext.keep (Rx.Ext.new nl12) hp⟩ ?_ ?_
    · skip
      rintro x22 u23 n13 ys14 k15 H27 hn ⟨hW, hk16, mu17, ln18, hp⟩ h24 hM Nx21 hN19
      replace h_cells := rep_keep hk16 (rep_new nl12 h_cells)
      apply rep_gtup h24 rfl
      intro vs28 hv29
      obtain ⟨u30, us31, rfl, h32, hv33⟩ := repL_uncons hv29
      obtain rfl := of_v h32
      obtain ⟨u34, us35, rfl, h36, hv37⟩ := repL_uncons hv33
      obtain rfl := of_v h36
      obtain ⟨u38, us39, rfl, h40, hv41⟩ := repL_uncons hv37
      obtain rfl := of_v h40
      obtain rfl := repL_empty hv41
      refine ⟨_, _, rfl, ?_⟩
      refine ⟨_, _, rfl, ?_⟩
      refine ⟨_, _, rfl, ?_⟩
      refine ⟨rfl, ?_⟩
      refine ⟨rfl, ?_⟩
      refine tyes_of ?_
      refine ⟨_, rfl, ?_⟩
      refine ⟨_, rfl, ?_⟩
      refine ⟨_, rfl, ?_⟩
      refine ⟨(by show 3 ≤ sizeLine; decide), ?_⟩
      intro p42 n46
      have e43 := Rx.Ext.new (H := H27) (o := (HO.tup [V.int x22.1, V.int x22.2.1, V.str x22.2.2])) n46
      have hp44 : upd H27 p42 (HO.tup [V.int x22.1, V.int x22.2.1, V.str x22.2.2]) p42 = some (HO.tup [V.int x22.1, V.int x22.2.1, V.str x22.2.2]) := upd_same
      generalize upd H27 p42 (HO.tup [V.int x22.1, V.int x22.2.1, V.str x22.2.2]) = H47 at e43 hp44 ⊢
      have h45 : rep (L11 :: ms) H47 (D.tup [(D.v (V.int x22.1)), (D.v (V.int x22.2.1)), (D.v (V.str x22.2.2))]) (.ref p42) := rep_tup_mk hW n46 e43 hp44 (repL_cons rep_v (repL_cons rep_v (repL_cons rep_v repL_nil)))
      replace h_cells := rep_ext e43 h_cells
      replace hk16 := keep_ext e43 hk16
      replace h24 := rep_ext e43 h24
      replace mu17 := mo_ext e43 mu17
      replace hp := Rx.Ext.keep e43 hp
      replace hW := hW.ret0 e43
      refine mo_end mu17 hn (by rw [List.length_map]; exact ln18) fun vs48 hr49 => ?_
      have mk51 := mo_setL mu17 (repL_snoc (e := (fun y_ : (Int × Int × Str) => (D.tup [(D.v (V.int y_.1)), (D.v (V.int y_.2.1)), (D.v (V.str y_.2.2))]))) (xs := ys14) (y := (x22.1, x22.2.1, x22.2.2)) hr49 h45)
      replace h_cells := rep_put (o := .lst (vs48 ++ [(V.ref p42)])) mu17.im h_cells
      replace hk16 := keep_put (o := .lst (vs48 ++ [(V.ref p42)])) mu17.im hk16
      replace h24 := rep_put (o := .lst (vs48 ++ [(V.ref p42)])) mu17.im h24
      replace h45 := rep_put (o := .lst (vs48 ++ [(V.ref p42)])) mu17.im h45
      replace hp := at_put (o := .lst (vs48 ++ [(V.ref p42)])) hp mu17
      replace hW := wd_put (o := .lst (vs48 ++ [(V.ref p42)])) hW mu17
      replace mu17 := mk51
      generalize upd H47 L11 (.lst (vs48 ++ [(V.ref p42)])) = H52 at *
      replace mu17 : MutO (L11 :: ms) [] H_0 H52 L11 (D.lst ((ys14 ++ [(x22.1, x22.2.1, x22.2.2)]).map (fun y_ : (Int × Int × Str) => (D.tup [(D.v (V.int y_.1)), (D.v (V.int y_.2.1)), (D.v (V.str y_.2.2))])))) := mu17
      clear mk51
      exact hN19 (x22.1, x22.2.1, x22.2.2) _ hM ⟨hW, hk16, mu17, by rw [List.length_append]; exact Nat.add_le_add_right ln18 1, hp⟩
    · skip
      rintro n13 ys53 H54 hM ⟨hW, hk16, mu17, ln18, hp⟩
      replace h_cells := rep_keep hk16 (rep_new nl12 h_cells)
      clear hk16 ln18
      have h55 := mo_rep_dr dr_here nm26 mu17
      replace hW := wd_dr dr_here mu17.hp hW
      replace h_cells := rep_dr dr_here h_cells
      clear mu17
      obtain ⟨g59, hM⟩ := hM
      apply rep_sortTr (xs := ys53) h55 g59
      intro ys56 zs60 hpm57 hst58 hr61
      replace hM := hM ys56 hpm57 hst58
      intro p62 n66
      have e63 := Rx.Ext.new (H := H54) (o := (HO.lst (zs60))) n66
      have hp64 : upd H54 p62 (HO.lst (zs60)) p62 = some (HO.lst (zs60)) := upd_same
      generalize upd H54 p62 (HO.lst (zs60)) = H67 at e63 hp64 ⊢
      have h65 : rep ms H67 (D.lst (ys56.map (fun y_ : (Int × Int × Str) => (D.tup [(D.v (V.int y_.1)), (D.v (V.int y_.2.1)), (D.v (V.str y_.2.2))])))) (.ref p62) := rep_lst_mk hW n66 e63 hp64 hr61
      replace h_cells := rep_ext e63 h_cells
      replace h55 := rep_ext e63 h55
      replace hp := Rx.Ext.keep e63 hp
      replace hW := hW.ret0 e63
      apply rep_tupOf (ds := ys56.map (fun y_ : (Int × Int × Str) => (D.tup [(D.v (V.int y_.1)), (D.v (V.int y_.2.1)), (D.v (V.str y_.2.2))]))) h65
      intro ys68 hr69
      intro p70 np71
      have e72 := Rx.Ext.new (H := H67) (o := (HO.tup ys68)) np71
      have hp73 : upd H67 p70 (HO.tup ys68) p70 = some (HO.tup ys68) := upd_same
      generalize upd H67 p70 (HO.tup ys68) = H75 at e72 hp73 ⊢
      have h74 : rep ms H75 (D.tup (ys56.map (fun y_ : (Int × Int × Str) => (D.tup [(D.v (V.int y_.1)), (D.v (V.int y_.2.1)), (D.v (V.str y_.2.2))])))) (.ref p70) := rep_tup_mk hW np71 e72 hp73 hr69
      replace h_cells := rep_ext e72 h_cells
      replace h55 := rep_ext e72 h55
      replace h65 := rep_ext e72 h65
      replace hp := Rx.Ext.keep e72 hp
      replace hW := hW.ret0 e72
      refine ⟨_, rfl, p_, A.c_Picture, dx_, _, rfl, hp, T.cl_Picture, T.na_Picture__cells, (by first | decide | simp), ?_⟩
      have z76 : putF ("_cells" : Str) ((V.ref p70)) (List.zip ([] : List Str) ([] : List V)) = List.zip [("_cells" : Str)] [(V.ref p70)] := putF_zip (ns := ([] : List Str)) (us := ([] : List V)) rfl (nin_of (by decide +kernel))
      replace h_cells := rep_put (o := .ins A.c_Picture dx_ (putF ("_cells" : Str) ((V.ref p70)) (List.zip ([] : List Str) ([] : List V)))) pm_ h_cells
      replace h55 := rep_put (o := .ins A.c_Picture dx_ (putF ("_cells" : Str) ((V.ref p70)) (List.zip ([] : List Str) ([] : List V)))) pm_ h55
      replace h65 := rep_put (o := .ins A.c_Picture dx_ (putF ("_cells" : Str) ((V.ref p70)) (List.zip ([] : List Str) ([] : List V)))) pm_ h65
      replace h74 := rep_put (o := .ins A.c_Picture dx_ (putF ("_cells" : Str) ((V.ref p70)) (List.zip ([] : List Str) ([] : List V)))) pm_ h74
      replace hK := ki_put (o := .ins A.c_Picture dx_ (putF ("_cells" : Str) ((V.ref p70)) (List.zip ([] : List Str) ([] : List V)))) hK hW
      replace hW := wd_at (p := p_) (o := .ins A.c_Picture dx_ (putF ("_cells" : Str) ((V.ref p70)) (List.zip ([] : List Str) ([] : List V)))) hW
      replace hp : upd H75 p_ (.ins A.c_Picture dx_ (putF ("_cells" : Str) ((V.ref p70)) (List.zip ([] : List Str) ([] : List V)))) p_ = some (.ins A.c_Picture dx_ (putF ("_cells" : Str) ((V.ref p70)) (List.zip ([] : List Str) ([] : List V)))) := upd_same
      generalize upd H75 p_ (.ins A.c_Picture dx_ (putF ("_cells" : Str) ((V.ref p70)) (List.zip ([] : List Str) ([] : List V)))) = H77 at *
      rw [z76] at hp
      exact hQ ys56 [(V.ref p70)] _ hM (ki_wd hK hW) hp rfl (repL_cons h74 repL_nil)
theorem make_Picture_init {ms ps : List Addr} {cs : List (Addr × List V)} {H0 H : Hp} {A : Ad} {v_cells : V} {x_cells : (List (Int × Int × Str))} {KM : (List (Int × Int × Str)) → Prop} {Q : Addr → Hp → Prop} {E : XK} (hW : Wd ms ps cs H0 H) (h_cells : rep ms H (D.lst (x_cells.map (fun y_ : (Int × Int × Str) => (D.tup [(D.v (V.int y_.1)), (D.v (V.int y_.2.1)), (D.v (V.str y_.2.2))])))) v_cells) (hM : M_Picture_init x_cells KM)
    (k : ∀ (x : Addr) (H1 : Hp) (r : (List (Int × Int × Str))), KM r → Rx.Ext H H1 → rep ms H1 (ePicture A r) (.ref x) → Q x H1) :
    ∀ x dx, H x = none → H dx = none → dx ≠ x → sp_Picture_init A (.ref x :: ([v_cells] ++ [])) (upd (upd H dx (.own x)) x (.ins A.c_Picture dx [])) (fun v H2 => v = .non ∧ Q x H2) E := by
  intro x dx nx ndx ne
  exact ⟨x :: ms, x, dx, v_cells, x_cells, KM, rfl, wd_new hW nx ndx, List.mem_cons_self, upd_same, mem_new nx h_cells ndx, hM, fun r us H1 hr hK hp hl hu => ⟨rfl, k x H1 r hr (ext_new hK nx ndx) (rep_insW hW nx hp hl hu)⟩⟩
def M_other (x_mark : Str) (KM : Str → Prop) : Prop :=
  (∃ KB1 : Str → Prop, (if (decide (V.str x_mark = V.str ("h" : Str))) = true then (KB1 ("a" : Str)) else (KB1 ("h" : Str))) ∧ ∀ r4 : Str, KB1 r4 → (KM r4))
def sp_other (A : Ad) : Sp := fun vs H Q _ => ∃ (ms : List Addr) (x_mark : Str) (KM : Str → Prop), vs = [V.str x_mark] ∧ Wd ms [] [] H H ∧ M_other x_mark KM ∧ ∀ (r : Str) (u : V) (H1 : Hp), KM r → Ret [] H H1 → rep ms H1 (D.v (V.str r)) u → Q u H1
set_option maxHeartbeats 16000000 in
theorem ok_other {P : Program} {w : World} {K : PySem.W.Frag} {mg : Str → Option Value} {base : Heap} {A : Ad} (T : Txt w K mg A) : FnOk P w K mg base CX0 1 A.a_other A.d_other ["_law_mark"] (sp_other A) := by
  refine T.F_other.ok sc_other (fun vs H Q E h => ?_) (fun cdv A_ outer s_ H_0 vs Q E hr h => ?_)
  · obtain ⟨ms, x_mark, KM, rfl, _⟩ := h
    rfl
  · obtain ⟨ms, x_mark, KM, rfl, hW, hM, hQ⟩ := h
    unfold M_other at hM
    refine ⟨_, (pss_one (ps_ret (pe_up (pe_ifExp (pt_cmpR op_eq (pv 0) pe_str (nomark _)) pe_str pe_str)))), ?_⟩
    obtain ⟨KB1, hM, hKKB1⟩ := hM
    refine ⟨fun v H1 => ∃ r : Str, KB1 r ∧ Wd ms [] [] H_0 H1 ∧ Keep ms H_0 H1 ∧ rep ms H1 (D.v (V.str r)) v, ?_, ?_⟩
    · skip
      have hj3 := Keep.refl (ms := ms) (H := H_0)
      refine ⟨_, rfl, ?_⟩
      refine ⟨rfl, ?_⟩
      refine ⟨_, rfl, ?_⟩
      refine ite3 hM (fun hM => ?_) (fun hM => ?_)
      · skip
        exact ⟨("a" : Str), hM, hW, hj3, rep_v⟩
      · skip
        exact ⟨("h" : Str), hM, hW, hj3, rep_v⟩
    · skip
      rintro u6 Hj2 ⟨r4, hr, hW, hj3, h5⟩
      replace hM := hKKB1 r4 hr
      obtain rfl := of_v h5
      exact hQ r4 _ _ hM hW.out rep_v
def M_bent (x_some : (List (Int × Int × Str))) (KM : (Option (List (Int × Int × Str))) → Prop) : Prop :=
  (M_draw (x_some.length : Int) fun r1 => (M_draw (3 : Int) fun r6 => (0 ≤ r1 ∧ ∃ g12 : Int.toNat r1 < x_some.length, ∀ x14, x14 = x_some[Int.toNat r1]'g12 → (if (decide (V.int r6 = V.int (0 : Int))) = true then (M_other x14.2.2 fun r38 => ((cutM x_some none (some r1)).length + ([(x14.1, x14.2.1, r38)] : List (Int × Int × Str)).length ≤ sizeLine ∧ (((cutM x_some none (some r1)) ++ ([(x14.1, x14.2.1, r38)] : List (Int × Int × Str))).length + (cutM x_some (some (r1 + (1 : Int))) none).length ≤ sizeLine ∧ (KM (some (((cutM x_some none (some r1)) ++ ([(x14.1, x14.2.1, r38)] : List (Int × Int × Str))) ++ (cutM x_some (some (r1 + (1 : Int))) none))))))) else (if (decide (V.int r6 = V.int (1 : Int))) = true then (if (decide ((1 : Int) < (x_some.length : Int))) = true then ((cutM x_some none (some r1)).length + (cutM x_some (some (r1 + (1 : Int))) none).length ≤ sizeLine ∧ (∃ KB94 : (Option (List (Int × Int × Str))) → Prop, (((cutM x_some none (some r1)) ++ (cutM x_some (some (r1 + (1 : Int))) none)).length < 100000 ∧ mapC (fun (x113 : (Int × Int × Str)) (k106 : Int → Prop) => (k106 x113.2.1)) ((cutM x_some none (some r1)) ++ (cutM x_some (some (r1 + (1 : Int))) none)) [] fun ys127 => (if (inV (V.int (0 : Int)) (ys127.map V.int)) = true then (KB94 (some ((cutM x_some none (some r1)) ++ (cutM x_some (some (r1 + (1 : Int))) none)))) else (KB94 none))) ∧ ∀ r130 : (Option (List (Int × Int × Str))), KB94 r130 → (KM r130))) else (x_some.length < 100000 ∧ mapC (fun (x163 : (Int × Int × Str)) (k156 : (Int × Int) → Prop) => (k156 (x163.1, x163.2.1))) x_some [] fun ys182 => ((plainD (D.tup [(D.v (V.int ((((x14.1 + (6 : Int)) % (11 : Int)) - (5 : Int)), x14.2.1).1)), (D.v (V.int ((((x14.1 + (6 : Int)) % (11 : Int)) - (5 : Int)), x14.2.1).2))]) = true ∧ plainD (D.lst (ys182.map (fun y_ : (Int × Int) => (D.tup [(D.v (V.int y_.1)), (D.v (V.int y_.2))])))) = true ∧ SeqAt.shaped (pyOf (D.tup [(D.v (V.int ((((x14.1 + (6 : Int)) % (11 : Int)) - (5 : Int)), x14.2.1).1)), (D.v (V.int ((((x14.1 + (6 : Int)) % (11 : Int)) - (5 : Int)), x14.2.1).2))])) = true ∧ SeqAt.shaped (pyOf (D.lst (ys182.map (fun y_ : (Int × Int) => (D.tup [(D.v (V.int y_.1)), (D.v (V.int y_.2))]))))) = true) ∧ (if (inDv (D.tup [(D.v (V.int ((((x14.1 + (6 : Int)) % (11 : Int)) - (5 : Int)), x14.2.1).1)), (D.v (V.int ((((x14.1 + (6 : Int)) % (11 : Int)) - (5 : Int)), x14.2.1).2))]) (ys182.map (fun y_ : (Int × Int) => (D.tup [(D.v (V.int y_.1)), (D.v (V.int y_.2))])))) = true then (KM none) else ((cutM x_some none (some r1)).length + ([((((x14.1 + (6 : Int)) % (11 : Int)) - (5 : Int)), x14.2.1, x14.2.2)] : List (Int × Int × Str)).length ≤ sizeLine ∧ (((cutM x_some none (some r1)) ++ ([((((x14.1 + (6 : Int)) % (11 : Int)) - (5 : Int)), x14.2.1, x14.2.2)] : List (Int × Int × Str))).length + (cutM x_some (some (r1 + (1 : Int))) none).length ≤ sizeLine ∧ (KM (some (((cutM x_some none (some r1)) ++ ([((((x14.1 + (6 : Int)) % (11 : Int)) - (5 : Int)), x14.2.1, x14.2.2)] : List (Int × Int × Str))) ++ (cutM x_some (some (r1 + (1 : Int))) none)))))))))) else (x_some.length < 100000 ∧ mapC (fun (x248 : (Int × Int × Str)) (k241 : (Int × Int) → Prop) => (k241 (x248.1, x248.2.1))) x_some [] fun ys267 => ((plainD (D.tup [(D.v (V.int ((((x14.1 + (6 : Int)) % (11 : Int)) - (5 : Int)), x14.2.1).1)), (D.v (V.int ((((x14.1 + (6 : Int)) % (11 : Int)) - (5 : Int)), x14.2.1).2))]) = true ∧ plainD (D.lst (ys267.map (fun y_ : (Int × Int) => (D.tup [(D.v (V.int y_.1)), (D.v (V.int y_.2))])))) = true ∧ SeqAt.shaped (pyOf (D.tup [(D.v (V.int ((((x14.1 + (6 : Int)) % (11 : Int)) - (5 : Int)), x14.2.1).1)), (D.v (V.int ((((x14.1 + (6 : Int)) % (11 : Int)) - (5 : Int)), x14.2.1).2))])) = true ∧ SeqAt.shaped (pyOf (D.lst (ys267.map (fun y_ : (Int × Int) => (D.tup [(D.v (V.int y_.1)), (D.v (V.int y_.2))]))))) = true) ∧ (if (inDv (D.tup [(D.v (V.int ((((x14.1 + (6 : Int)) % (11 : Int)) - (5 : Int)), x14.2.1).1)), (D.v (V.int ((((x14.1 + (6 : Int)) % (11 : Int)) - (5 : Int)), x14.2.1).2))]) (ys267.map (fun y_ : (Int × Int) => (D.tup [(D.v (V.int y_.1)), (D.v (V.int y_.2))])))) = true then (KM none) else ((cutM x_some none (some r1)).length + ([((((x14.1 + (6 : Int)) % (11 : Int)) - (5 : Int)), x14.2.1, x14.2.2)] : List (Int × Int × Str)).length ≤ sizeLine ∧ (((cutM x_some none (some r1)) ++ ([((((x14.1 + (6 : Int)) % (11 : Int)) - (5 : Int)), x14.2.1, x14.2.2)] : List (Int × Int × Str))).length + (cutM x_some (some (r1 + (1 : Int))) none).length ≤ sizeLine ∧ (KM (some (((cutM x_some none (some r1)) ++ ([((((x14.1 + (6 : Int)) % (11 : Int)) - (5 : Int)), x14.2.1, x14.2.2)] : List (Int × Int × Str))) ++ (cutM x_some (some (r1 + (1 : Int))) none))))))))))))))
def sp_bent (A : Ad) : Sp := fun vs H Q _ => ∃ (ms : List Addr) (ap : Addr) (v_some : V) (x_some : (List (Int × Int × Str))) (KM : (Option (List (Int × Int × Str))) → Prop), vs = [.ref ap, v_some] ∧ Wd ms [ap] [] H H ∧ rep ms H (D.lst (x_some.map (fun y_ : (Int × Int × Str) => (D.tup [(D.v (V.int y_.1)), (D.v (V.int y_.2.1)), (D.v (V.str y_.2.2))])))) v_some ∧ M_bent x_some KM ∧ ∀ (r : (Option (List (Int × Int × Str)))) (u : V) (H1 : Hp), KM r → Ret [ap] H H1 → rep ms H1 (encO (fun y_ : (List (Int × Int × Str)) => (D.lst (y_.map (fun y_ : (Int × Int × Str) => (D.tup [(D.v (V.int y_.1)), (D.v (V.int y_.2.1)), (D.v (V.str y_.2.2))]))))) r) u → Q u H1
set_option maxHeartbeats 16000000 in
theorem ok_bent {P : Program} {w : World} {K : PySem.W.Frag} {mg : Str → Option Value} {base : Heap} {A : Ad} (T : Txt w K mg A) : FnOk P w K mg base CX0 2 A.a_bent A.d_bent ["_law_pot_here", "_law_some"] (sp_bent A) := by
  refine T.F_bent.ok sc_bent (fun vs H Q E h => ?_) (fun cdv A_ outer s_ H_0 vs Q E hr h => ?_)
  · obtain ⟨ms, ap, v_some, x_some, KM, rfl, _⟩ := h
    rfl
  · obtain ⟨ms, ap, v_some, x_some, KM, rfl, hW, h_some, hM, hQ⟩ := h
    unfold M_bent at hM
    refine ⟨_, (pss_cons (ps_par (i := 2) (j := 3) (by rfl) sc_bent.nd rfl rfl (by decide) rfl rfl (pa_cons (pe_call (ok_draw T) (hr.mono (by decide)) (by rfl) T.g_draw T.F_draw.kp T.b_draw .nil pass0 (pa_cons (pv 0) (pa_cons (pe_callB (call_lenK (K := K) rfl) (by rfl) T.z_len PySem.boot_len (pa_cons (pv 1) pa_nil)) pa_nil))) (pa_cons (pe_call (ok_draw T) (hr.mono (by decide)) (by rfl) T.g_draw T.F_draw.kp T.b_draw .nil pass0 (pa_cons (pv 0) (pa_cons pe_int pa_nil))) pa_nil)) (by rfl)) (pss_cons (ps_asg (pe_ix (ix_listK (K := K) rfl) (pv 1) (pv 2) (fun _ _ => rfl)) (pg_tup rfl (pgs_cons (pg_name (i := 4) sc_bent.nd rfl (by first | exact Or.inl rfl | exact Or.inr rfl)) (pgs_cons (pg_name (i := 5) sc_bent.nd rfl (by first | exact Or.inl rfl | exact Or.inr rfl)) (pgs_cons (pg_name (i := 6) sc_bent.nd rfl (by first | exact Or.inl rfl | exact Or.inr rfl)) pgs_nil))))) (pss_cons (ps_if (pt_cmpR op_eq (pv 3) pe_int (nomark _)) (pss_one (ps_ret (pe_op op_cat (pe_op op_cat (pe_slice (sl_listK (K := K) rfl) (pv 1) po_none (po_some (pv 2))) (pe_lst (pa_cons (pe_tup (pa_cons (pv 4) (pa_cons (pv 5) (pa_cons (pe_call (ok_other T) (hr.mono (by decide)) (by rfl) T.g_other T.F_other.kp T.b_other .nil pass0 (pa_cons (pv 6) pa_nil)) pa_nil)))) pa_nil))) (pe_slice (sl_listK (K := K) rfl) (pv 1) (po_some (pe_op op_add (pv 2) pe_int)) po_none)))) pss_nil) (pss_cons (ps_if (PW.pt (pw_and (pt_cmpR op_eq (pv 3) pe_int (nomark _)) (pw_and1 (pt_cmpR op_gt (pe_callB (call_lenK (K := K) rfl) (by rfl) T.z_len PySem.boot_len (pa_cons (pv 1) pa_nil)) pe_int (nomark _))))) (pss_cons (ps_set (i := 7) sc_bent.nd rfl (by first | exact Or.inl rfl | exact Or.inr rfl) (pe_op op_cat (pe_slice (sl_listK (K := K) rfl) (pv 1) po_none (po_some (pv 2))) (pe_slice (sl_listK (K := K) rfl) (pv 1) (po_some (pe_op op_add (pv 2) pe_int)) po_none))) (pss_one (ps_ret (pe_up (pe_ifExp (pt_cmpR (op_inSK (K := K) rfl) pe_int (pe_lc (own := [("_law_near", 9)]) (g := gName 9) rfl sc_bent.nd (pi_list (pv 7)) (blkOk_by (N := ["_law_pot_here", "_law_some", "_law_at", "_law_way", "_law_who", "_law_later", "_law_mark", "_law_left", "_law_cell", "_law_near"]) (sc := defScope s_bent) (by decide +kernel)) (fun _ _ _ _ _ => pg_name (i := 9) sc_bent.nd rfl (by first | exact Or.inl rfl | exact Or.inr rfl)) (fun _ _ _ _ _ => pts_nil) (fun _ _ _ _ _ => (pe_ix (ix_tupK (K := K) rfl) (pv 9) pe_int (fun _ _ => rfl)))) (by rfl)) (pv 7) pe_non))))) pss_nil) (pss_cons (ps_set (i := 8) sc_bent.nd rfl (by first | exact Or.inl rfl | exact Or.inr rfl) (pe_tup (pa_cons (pe_op op_sub (pe_op op_mod (pe_op op_add (pv 4) pe_int) pe_int) pe_int) (pa_cons (pv 5) (pa_cons (pv 6) pa_nil))))) (pss_cons (ps_if (pt_cmpR (op_inDK (K := K) rfl (units65 hr)) (pe_slice (sl_tupK (K := K) rfl) (pv 8) po_none (po_some pe_int)) (pe_lc (own := [("_law_near", 9)]) (g := gName 9) rfl sc_bent.nd (pi_list (pv 1)) (blkOk_by (N := ["_law_pot_here", "_law_some", "_law_at", "_law_way", "_law_who", "_law_later", "_law_mark", "_law_left", "_law_cell", "_law_near"]) (sc := defScope s_bent) (by decide +kernel)) (fun _ _ _ _ _ => pg_name (i := 9) sc_bent.nd rfl (by first | exact Or.inl rfl | exact Or.inr rfl)) (fun _ _ _ _ _ => pts_nil) (fun _ _ _ _ _ => (pe_slice (sl_tupK (K := K) rfl) (pv 9) po_none (po_some pe_int)))) (by rfl)) (pss_one (ps_ret pe_non)) pss_nil) (pss_one (ps_ret (pe_op op_cat (pe_op op_cat (pe_slice (sl_listK (K := K) rfl) (pv 1) po_none (po_some (pv 2))) (pe_lst (pa_cons (pv 8) pa_nil))) (pe_slice (sl_listK (K := K) rfl) (pv 1) (po_some (pe_op op_add (pv 2) pe_int)) po_none)))))))))), ?_⟩
    refine ⟨_, rfl, ?_⟩
    refine ⟨_, rfl, ?_⟩
    apply rep_lenL (e := (fun y_ : (Int × Int × Str) => (D.tup [(D.v (V.int y_.1)), (D.v (V.int y_.2.1)), (D.v (V.str y_.2.2))]))) (xs := x_some) h_some
    refine ⟨ms, ap, (x_some.length : Int), _, rfl, hW.enterP, hM, fun r1 u4 H5 hM e3 h2 => ?_⟩
    replace h_some := rep_ret hW e3 h_some
    replace hW := hW.retP e3
    obtain rfl := of_v h2
    refine ⟨_, rfl, ?_⟩
    refine ⟨ms, ap, (3 : Int), _, rfl, hW.enterP, hM, fun r6 u9 H10 hM e8 h7 => ?_⟩
    replace h_some := rep_ret hW e8 h_some
    replace hW := hW.retP e8
    obtain rfl := of_v h7
    refine ⟨_, _, rfl, ?_⟩
    refine ⟨_, rfl, ?_⟩
    refine ⟨_, rfl, ?_⟩
    obtain ⟨g11, g12, hM⟩ := hM
    apply rep_ixL (e := (fun y_ : (Int × Int × Str) => (D.tup [(D.v (V.int y_.1)), (D.v (V.int y_.2.1)), (D.v (V.str y_.2.2))]))) (xs := x_some) h_some g11 g12
    intro u15 h13
    obtain ⟨x14, x14e⟩ : ∃ x_, x_ = x_some[Int.toNat r1]'g12 := ⟨_, rfl⟩
    rw [← x14e] at h13
    replace hM := hM x14 x14e
    apply rep_gtup h13 rfl
    intro vs16 hv17
    obtain ⟨u18, us19, rfl, h20, hv21⟩ := repL_uncons hv17
    obtain rfl := of_v h20
    obtain ⟨u22, us23, rfl, h24, hv25⟩ := repL_uncons hv21
    obtain rfl := of_v h24
    obtain ⟨u26, us27, rfl, h28, hv29⟩ := repL_uncons hv25
    obtain rfl := of_v h28
    obtain rfl := repL_empty hv29
    refine ⟨_, _, rfl, ?_⟩
    refine ⟨_, _, rfl, ?_⟩
    refine ⟨_, _, rfl, ?_⟩
    refine ⟨rfl, ?_⟩
    refine ⟨_, rfl, ?_⟩
    refine ⟨rfl, ?_⟩
    refine ⟨_, rfl, ?_⟩
    refine ite3 hM (fun hM => ?_) (fun hM => ?_)
    · skip
      refine ⟨_, rfl, ?_⟩
      refine ⟨_, rfl, ?_⟩
      refine ⟨_, rfl, ?_⟩
      apply rep_lsU h_some
      intro vs30 hr31
      intro p32 n36
      have e33 := Rx.Ext.new (H := H10) (o := (HO.lst (cutV vs30 none (some r1)))) n36
      have hp34 : upd H10 p32 (HO.lst (cutV vs30 none (some r1))) p32 = some (HO.lst (cutV vs30 none (some r1))) := upd_same
      generalize upd H10 p32 (HO.lst (cutV vs30 none (some r1))) = H37 at e33 hp34 ⊢
      have h35 : rep ms H37 (D.lst ((cutM x_some none (some r1)).map (fun y_ : (Int × Int × Str) => (D.tup [(D.v (V.int y_.1)), (D.v (V.int y_.2.1)), (D.v (V.str y_.2.2))])))) (.ref p32) := rep_lst_mk hW n36 e33 hp34 (repL_cut (e := (fun y_ : (Int × Int × Str) => (D.tup [(D.v (V.int y_.1)), (D.v (V.int y_.2.1)), (D.v (V.str y_.2.2))]))) (xs := x_some) hr31)
      replace h_some := rep_ext e33 h_some
      replace h13 := rep_ext e33 h13
      replace hW := hW.ret0 e33
      refine ⟨_, rfl, ?_⟩
      refine ⟨_, rfl, ?_⟩
      refine ⟨_, rfl, ?_⟩
      refine ⟨ms, x14.2.2, _, rfl, hW.enter0, hM, fun r38 u41 H42 hM e40 h39 => ?_⟩
      replace h_some := rep_ext e40 h_some
      replace h13 := rep_ext e40 h13
      replace h35 := rep_ext e40 h35
      replace hW := hW.ret0 e40
      obtain rfl := of_v h39
      refine ⟨(by show 3 ≤ sizeLine; decide), ?_⟩
      intro p43 n47
      have e44 := Rx.Ext.new (H := H42) (o := (HO.tup [V.int x14.1, V.int x14.2.1, V.str r38])) n47
      have hp45 : upd H42 p43 (HO.tup [V.int x14.1, V.int x14.2.1, V.str r38]) p43 = some (HO.tup [V.int x14.1, V.int x14.2.1, V.str r38]) := upd_same
      generalize upd H42 p43 (HO.tup [V.int x14.1, V.int x14.2.1, V.str r38]) = H48 at e44 hp45 ⊢
      have h46 : rep ms H48 (D.tup [(D.v (V.int x14.1)), (D.v (V.int x14.2.1)), (D.v (V.str r38))]) (.ref p43) := rep_tup_mk hW n47 e44 hp45 (repL_cons rep_v (repL_cons rep_v (repL_cons rep_v repL_nil)))
      replace h_some := rep_ext e44 h_some
      replace h13 := rep_ext e44 h13
      replace h35 := rep_ext e44 h35
      replace hW := hW.ret0 e44
      refine ⟨(by show 1 ≤ sizeLine; decide), ?_⟩
      intro p49 n53
      have e50 := Rx.Ext.new (H := H48) (o := (HO.lst [(V.ref p43)])) n53
      have hp51 : upd H48 p49 (HO.lst [(V.ref p43)]) p49 = some (HO.lst [(V.ref p43)]) := upd_same
      generalize upd H48 p49 (HO.lst [(V.ref p43)]) = H54 at e50 hp51 ⊢
      have h52 : rep ms H54 (D.lst (([(x14.1, x14.2.1, r38)] : List (Int × Int × Str)).map (fun y_ : (Int × Int × Str) => (D.tup [(D.v (V.int y_.1)), (D.v (V.int y_.2.1)), (D.v (V.str y_.2.2))])))) (.ref p49) := rep_lst_mk hW n53 e50 hp51 (repL_cons h46 repL_nil)
      replace h_some := rep_ext e50 h_some
      replace h13 := rep_ext e50 h13
      replace h35 := rep_ext e50 h35
      replace h46 := rep_ext e50 h46
      replace hW := hW.ret0 e50
      obtain ⟨g55, hM⟩ := hM
      apply rep_cat (xs := (cutM x_some none (some r1))) (ys := ([(x14.1, x14.2.1, r38)] : List (Int × Int × Str))) (e := (fun y_ : (Int × Int × Str) => (D.tup [(D.v (V.int y_.1)), (D.v (V.int y_.2.1)), (D.v (V.str y_.2.2))]))) hW h35 h52 g55
      intro p56 H59 e58 h57
      replace h_some := rep_ext e58 h_some
      replace h13 := rep_ext e58 h13
      replace h35 := rep_ext e58 h35
      replace h46 := rep_ext e58 h46
      replace h52 := rep_ext e58 h52
      replace hW := hW.ret0 e58
      refine ⟨_, rfl, ?_⟩
      refine ⟨_, rfl, ?_⟩
      refine ⟨_, _, rfl, rfl, ?_⟩
      refine ⟨_, rfl, ?_⟩
      apply rep_lsU h_some
      intro vs60 hr61
      intro p62 n66
      have e63 := Rx.Ext.new (H := H59) (o := (HO.lst (cutV vs60 (some (r1 + (1 : Int))) none))) n66
      have hp64 : upd H59 p62 (HO.lst (cutV vs60 (some (r1 + (1 : Int))) none)) p62 = some (HO.lst (cutV vs60 (some (r1 + (1 : Int))) none)) := upd_same
      generalize upd H59 p62 (HO.lst (cutV vs60 (some (r1 + (1 : Int))) none)) = H67 at e63 hp64 ⊢
      have h65 : rep ms H67 (D.lst ((cutM x_some (some (r1 + (1 : Int))) none).map (fun y_ : (Int × Int × Str) => (D.tup [(D.v (V.int y_.1)), (D.v (V.int y_.2.1)), (D.v (V.str y_.2.2))])))) (.ref p62) := rep_lst_mk hW n66 e63 hp64 (repL_cut (e := (fun y_ : (Int × Int × Str) => (D.tup [(D.v (V.int y_.1)), (D.v (V.int y_.2.1)), (D.v (V.str y_.2.2))]))) (xs := x_some) hr61)
      replace h_some := rep_ext e63 h_some
      replace h13 := rep_ext e63 h13
      replace h35 := rep_ext e63 h35
      replace h46 := rep_ext e63 h46
      replace h52 := rep_ext e63 h52
      replace h57 := rep_ext e63 h57
      replace hW := hW.ret0 e63
      obtain ⟨g68, hM⟩ := hM
      apply rep_cat (xs := ((cutM x_some none (some r1)) ++ ([(x14.1, x14.2.1, r38)] : List (Int × Int × Str)))) (ys := (cutM x_some (some (r1 + (1 : Int))) none)) (e := (fun y_ : (Int × Int × Str) => (D.tup [(D.v (V.int y_.1)), (D.v (V.int y_.2.1)), (D.v (V.str y_.2.2))]))) hW h57 h65 g68
      intro p69 H72 e71 h70
      replace h_some := rep_ext e71 h_some
      replace h13 := rep_ext e71 h13
      replace h35 := rep_ext e71 h35
      replace h46 := rep_ext e71 h46
      replace h52 := rep_ext e71 h52
      replace h57 := rep_ext e71 h57
      replace h65 := rep_ext e71 h65
      replace hW := hW.ret0 e71
      exact hQ (some (((cutM x_some none (some r1)) ++ ([(x14.1, x14.2.1, r38)] : List (Int × Int × Str))) ++ (cutM x_some (some (r1 + (1 : Int))) none))) _ _ hM hW.out h70
    · skip
      refine ⟨_, rfl, ?_⟩
      refine ⟨rfl, ?_⟩
      refine ⟨_, rfl, ?_⟩
      refine ite3 hM (fun hM => ?_) (fun hM => ?_)
      · skip
        refine ⟨_, rfl, ?_⟩
        apply rep_lenL (e := (fun y_ : (Int × Int × Str) => (D.tup [(D.v (V.int y_.1)), (D.v (V.int y_.2.1)), (D.v (V.str y_.2.2))]))) (xs := x_some) h_some
        refine ⟨_, _, rfl, rfl, ?_⟩
        refine ⟨_, rfl, ?_⟩
        refine ite3 hM (fun hM => ?_) (fun hM => ?_)
        · skip
          refine ⟨_, rfl, ?_⟩
          refine ⟨_, rfl, ?_⟩
          refine ⟨_, rfl, ?_⟩
          apply rep_lsU h_some
          intro vs73 hr74
          intro p75 n79
          have e76 := Rx.Ext.new (H := H10) (o := (HO.lst (cutV vs73 none (some r1)))) n79
          have hp77 : upd H10 p75 (HO.lst (cutV vs73 none (some r1))) p75 = some (HO.lst (cutV vs73 none (some r1))) := upd_same
          generalize upd H10 p75 (HO.lst (cutV vs73 none (some r1))) = H80 at e76 hp77 ⊢
          have h78 : rep ms H80 (D.lst ((cutM x_some none (some r1)).map (fun y_ : (Int × Int × Str) => (D.tup [(D.v (V.int y_.1)), (D.v (V.int y_.2.1)), (D.v (V.str y_.2.2))])))) (.ref p75) := rep_lst_mk hW n79 e76 hp77 (repL_cut (e := (fun y_ : (Int × Int × Str) => (D.tup [(D.v (V.int y_.1)), (D.v (V.int y_.2.1)), (D.v (V.str y_.2.2))]))) (xs := x_some) hr74)
          replace h_some := rep_ext e76 h_some
          replace h13 := rep_ext e76 h13
          replace hW := hW.ret0 e76
          refine ⟨_, rfl, ?_⟩
          refine ⟨_, rfl, ?_⟩
          refine ⟨_, _, rfl, rfl, ?_⟩
          refine ⟨_, rfl, ?_⟩
          apply rep_lsU h_some
          intro vs81 hr82
          intro p83 n87
          have e84 := Rx.Ext.new (H := H80) (o := (HO.lst (cutV vs81 (some (r1 + (1 : Int))) none))) n87
          have hp85 : upd H80 p83 (HO.lst (cutV vs81 (some (r1 + (1 : Int))) none)) p83 = some (HO.lst (cutV vs81 (some (r1 + (1 : Int))) none)) := upd_same
          generalize upd H80 p83 (HO.lst (cutV vs81 (some (r1 + (1 : Int))) none)) = H88 at e84 hp85 ⊢
          have h86 : rep ms H88 (D.lst ((cutM x_some (some (r1 + (1 : Int))) none).map (fun y_ : (Int × Int × Str) => (D.tup [(D.v (V.int y_.1)), (D.v (V.int y_.2.1)), (D.v (V.str y_.2.2))])))) (.ref p83) := rep_lst_mk hW n87 e84 hp85 (repL_cut (e := (fun y_ : (Int × Int × Str) => (D.tup [(D.v (V.int y_.1)), (D.v (V.int y_.2.1)), (D.v (V.str y_.2.2))]))) (xs := x_some) hr82)
          replace h_some := rep_ext e84 h_some
          replace h13 := rep_ext e84 h13
          replace h78 := rep_ext e84 h78
          replace hW := hW.ret0 e84
          obtain ⟨g89, hM⟩ := hM
          apply rep_cat (xs := (cutM x_some none (some r1))) (ys := (cutM x_some (some (r1 + (1 : Int))) none)) (e := (fun y_ : (Int × Int × Str) => (D.tup [(D.v (V.int y_.1)), (D.v (V.int y_.2.1)), (D.v (V.str y_.2.2))]))) hW h78 h86 g89
          intro p90 H93 e92 h91
          replace h_some := rep_ext e92 h_some
          replace h13 := rep_ext e92 h13
          replace h78 := rep_ext e92 h78
          replace h86 := rep_ext e92 h86
          replace hW := hW.ret0 e92
          obtain ⟨KB94, hM, hKKB94⟩ := hM
          refine ⟨fun v H1 => ∃ r : (Option (List (Int × Int × Str))), KB94 r ∧ Wd ms [ap] [] H_0 H1 ∧ Keep ms H93 H1 ∧ rep ms H1 (encO (fun y_ : (List (Int × Int × Str)) => (D.lst (y_.map (fun y_ : (Int × Int × Str) => (D.tup [(D.v (V.int y_.1)), (D.v (V.int y_.2.1)), (D.v (V.str y_.2.2))]))))) r) v, ?_, ?_⟩
          · skip
            have hj96 := Keep.refl (ms := ms) (H := H93)
            refine ⟨_, rfl, ?_⟩
            apply rep_iter h91
            intro a97 xs98 _ an99 hp100 hl101
            refine fun L102 nl103 => ?_
            have nm117 := nm_new hW nl103
            have kn118 := keep_none (w := hW) nl103 hj96
            refine lc_listG (L := L102) (fun n_ ys_ h_ => Wd (L102 :: ms) [ap] [] H_0 h_ ∧ Keep (L102 :: ms) H93 h_ ∧ MutO (L102 :: ms) [ap] H_0 h_ L102 (D.lst (ys_.map (fun y_ : Int => (D.v (V.int y_))))) ∧ ys_.length ≤ n_) (items := ((cutM x_some none (some r1)) ++ (cutM x_some (some (r1 + (1 : Int))) none))) (e := (fun y_ : (Int × Int × Str) => (D.tup [(D.v (V.int y_.1)), (D.v (V.int y_.2.1)), (D.v (V.str y_.2.2))]))) an99 hp100 hl101 nl103 (fun _ _ _ q_ => q_.2.1) hM ⟨wd_cell hW nl103, keep_cell nl103 Keep.refl, mo_newL (ds := []) hW nl103 repL_nil, Nat.le_refl _⟩ ?_ ?_
            · skip
              rintro x113 u114 n104 ys105 k106 H119 hn ⟨hW, hk107, mu108, ln109⟩ h115 hM Nx112 hN110
              replace h_some := rep_keep hk107 (rep_new nl103 h_some)
              replace h13 := rep_keep hk107 (rep_new nl103 h13)
              replace h78 := rep_keep hk107 (rep_new nl103 h78)
              replace h86 := rep_keep hk107 (rep_new nl103 h86)
              replace h91 := rep_keep hk107 (rep_new nl103 h91)
              replace hj96 := Keep.trans (Keep.new hj96) hk107
              refine ⟨rfl, ?_⟩
              refine tyes_of ?_
              refine ⟨_, rfl, ?_⟩
              apply rep_ixT 1 h115 rfl rfl
              intro u121 h120
              obtain rfl := of_v h120
              refine mo_end mu108 hn (by rw [List.length_map]; exact ln109) fun vs122 hr123 => ?_
              have mk125 := mo_setL mu108 (repL_snoc (e := (fun y_ : Int => (D.v (V.int y_)))) (xs := ys105) (y := x113.2.1) hr123 rep_v)
              replace h_some := rep_put (o := .lst (vs122 ++ [V.int x113.2.1])) mu108.im h_some
              replace h13 := rep_put (o := .lst (vs122 ++ [V.int x113.2.1])) mu108.im h13
              replace h78 := rep_put (o := .lst (vs122 ++ [V.int x113.2.1])) mu108.im h78
              replace h86 := rep_put (o := .lst (vs122 ++ [V.int x113.2.1])) mu108.im h86
              replace h91 := rep_put (o := .lst (vs122 ++ [V.int x113.2.1])) mu108.im h91
              replace hj96 := keep_put (o := .lst (vs122 ++ [V.int x113.2.1])) mu108.im hj96
              replace hk107 := keep_put (o := .lst (vs122 ++ [V.int x113.2.1])) mu108.im hk107
              replace h115 := rep_put (o := .lst (vs122 ++ [V.int x113.2.1])) mu108.im h115
              replace hW := wd_put (o := .lst (vs122 ++ [V.int x113.2.1])) hW mu108
              replace mu108 := mk125
              generalize upd H119 L102 (.lst (vs122 ++ [V.int x113.2.1])) = H126 at *
              replace mu108 : MutO (L102 :: ms) [ap] H_0 H126 L102 (D.lst ((ys105 ++ [x113.2.1]).map (fun y_ : Int => (D.v (V.int y_))))) := mu108
              clear mk125
              exact hN110 x113.2.1 _ hM ⟨hW, hk107, mu108, by rw [List.length_append]; exact Nat.add_le_add_right ln109 1⟩
            · skip
              rintro n104 ys127 H128 hM ⟨hW, hk107, mu108, ln109⟩
              replace h_some := rep_keep hk107 (rep_new nl103 h_some)
              replace h13 := rep_keep hk107 (rep_new nl103 h13)
              replace h78 := rep_keep hk107 (rep_new nl103 h78)
              replace h86 := rep_keep hk107 (rep_new nl103 h86)
              replace h91 := rep_keep hk107 (rep_new nl103 h91)
              replace hj96 := Keep.trans (Keep.new hj96) hk107
              clear hk107 ln109
              have h129 := mo_rep_dr dr_here nm117 mu108
              replace hW := wd_dr dr_here mu108.hp hW
              replace h_some := rep_dr dr_here h_some
              replace h13 := rep_dr dr_here h13
              replace h78 := rep_dr dr_here h78
              replace h86 := rep_dr dr_here h86
              replace h91 := rep_dr dr_here h91
              replace hj96 := keep_dr dr_here kn118 hj96
              clear mu108
              apply rep_inL (f := V.int) (xs := ys127) h129 rfl (fun _ => rfl)
              refine ⟨_, rfl, ?_⟩
              refine ite3 hM (fun hM => ?_) (fun hM => ?_)
              · skip
                refine ⟨_, rfl, ?_⟩
                exact ⟨(some ((cutM x_some none (some r1)) ++ (cutM x_some (some (r1 + (1 : Int))) none))), hM, hW, hj96, h91⟩
              · skip
                exact ⟨none, hM, hW, hj96, rep_v⟩
          · skip
            rintro u132 Hj95 ⟨r130, hr, hW, hj96, h131⟩
            replace hM := hKKB94 r130 hr
            replace h_some := rep_keep hj96 h_some
            replace h13 := rep_keep hj96 h13
            replace h78 := rep_keep hj96 h78
            replace h86 := rep_keep hj96 h86
            replace h91 := rep_keep hj96 h91
            exact hQ r130 _ _ hM hW.out h131
        · skip
          refine ⟨_, rfl, ?_⟩
          refine ⟨_, _, rfl, rfl, ?_⟩
          refine ⟨_, _, rfl, rfl, (by show (0 : Int) < (11 : Int); decide), ?_⟩
          refine ⟨_, _, rfl, rfl, ?_⟩
          refine ⟨_, rfl, ?_⟩
          refine ⟨_, rfl, ?_⟩
          refine ⟨(by show 3 ≤ sizeLine; decide), ?_⟩
          intro p133 n137
          have e134 := Rx.Ext.new (H := H10) (o := (HO.tup [V.int (((x14.1 + (6 : Int)) % (11 : Int)) - (5 : Int)), V.int x14.2.1, V.str x14.2.2])) n137
          have hp135 : upd H10 p133 (HO.tup [V.int (((x14.1 + (6 : Int)) % (11 : Int)) - (5 : Int)), V.int x14.2.1, V.str x14.2.2]) p133 = some (HO.tup [V.int (((x14.1 + (6 : Int)) % (11 : Int)) - (5 : Int)), V.int x14.2.1, V.str x14.2.2]) := upd_same
          generalize upd H10 p133 (HO.tup [V.int (((x14.1 + (6 : Int)) % (11 : Int)) - (5 : Int)), V.int x14.2.1, V.str x14.2.2]) = H138 at e134 hp135 ⊢
          have h136 : rep ms H138 (D.tup [(D.v (V.int (((x14.1 + (6 : Int)) % (11 : Int)) - (5 : Int)))), (D.v (V.int x14.2.1)), (D.v (V.str x14.2.2))]) (.ref p133) := rep_tup_mk hW n137 e134 hp135 (repL_cons rep_v (repL_cons rep_v (repL_cons rep_v repL_nil)))
          replace h_some := rep_ext e134 h_some
          replace h13 := rep_ext e134 h13
          replace hW := hW.ret0 e134
          refine ⟨_, rfl, ?_⟩
          refine ⟨_, rfl, ?_⟩
          apply rep_slT 2 h136 (by show 2 < 3; decide)
          intro vs139 hr140
          intro p141 np142
          have e143 := Rx.Ext.new (H := H138) (o := (HO.tup vs139)) np142
          have hp144 : upd H138 p141 (HO.tup vs139) p141 = some (HO.tup vs139) := upd_same
          generalize upd H138 p141 (HO.tup vs139) = H146 at e143 hp144 ⊢
          have h145 : rep ms H146 (D.tup [(D.v (V.int (((x14.1 + (6 : Int)) % (11 : Int)) - (5 : Int)))), (D.v (V.int x14.2.1))]) (.ref p141) := rep_tup_mk (ds := [(D.v (V.int (((x14.1 + (6 : Int)) % (11 : Int)) - (5 : Int)))), (D.v (V.int x14.2.1))]) hW np142 e143 hp144 hr140
          replace h_some := rep_ext e143 h_some
          replace h13 := rep_ext e143 h13
          replace h136 := rep_ext e143 h136
          replace hW := hW.ret0 e143
          refine ⟨_, rfl, ?_⟩
          apply rep_iter h_some
          intro a147 xs148 _ an149 hp150 hl151
          refine fun L152 nl153 => ?_
          have nm167 := nm_new hW nl153
          refine lc_listG (L := L152) (fun n_ ys_ h_ => Wd (L152 :: ms) [ap] [] H_0 h_ ∧ Keep (L152 :: ms) H146 h_ ∧ MutO (L152 :: ms) [ap] H_0 h_ L152 (D.lst (ys_.map (fun y_ : (Int × Int) => (D.tup [(D.v (V.int y_.1)), (D.v (V.int y_.2))])))) ∧ ys_.length ≤ n_) (items := x_some) (e := (fun y_ : (Int × Int × Str) => (D.tup [(D.v (V.int y_.1)), (D.v (V.int y_.2.1)), (D.v (V.str y_.2.2))]))) an149 hp150 hl151 nl153 (fun _ _ _ q_ => q_.2.1) hM ⟨wd_cell hW nl153, keep_cell nl153 Keep.refl, mo_newL (ds := []) hW nl153 repL_nil, Nat.le_refl _⟩ ?_ ?_
          · skip
            rintro x163 u164 n154 ys155 k156 H168 hn ⟨hW, hk157, mu158, ln159⟩ h165 hM Nx162 hN160
            replace h_some := rep_keep hk157 (rep_new nl153 h_some)
            replace h13 := rep_keep hk157 (rep_new nl153 h13)
            replace h136 := rep_keep hk157 (rep_new nl153 h136)
            replace h145 := rep_keep hk157 (rep_new nl153 h145)
            refine ⟨rfl, ?_⟩
            refine tyes_of ?_
            refine ⟨_, rfl, ?_⟩
            refine ⟨_, rfl, ?_⟩
            apply rep_slT 2 h165 (by show 2 < 3; decide)
            intro vs169 hr170
            intro p171 np172
            have e173 := Rx.Ext.new (H := H168) (o := (HO.tup vs169)) np172
            have hp174 : upd H168 p171 (HO.tup vs169) p171 = some (HO.tup vs169) := upd_same
            generalize upd H168 p171 (HO.tup vs169) = H176 at e173 hp174 ⊢
            have h175 : rep (L152 :: ms) H176 (D.tup [(D.v (V.int x163.1)), (D.v (V.int x163.2.1))]) (.ref p171) := rep_tup_mk (ds := [(D.v (V.int x163.1)), (D.v (V.int x163.2.1))]) hW np172 e173 hp174 hr170
            replace h_some := rep_ext e173 h_some
            replace h13 := rep_ext e173 h13
            replace h136 := rep_ext e173 h136
            replace h145 := rep_ext e173 h145
            replace hk157 := keep_ext e173 hk157
            replace h165 := rep_ext e173 h165
            replace mu158 := mo_ext e173 mu158
            replace hW := hW.ret0 e173
            refine mo_end mu158 hn (by rw [List.length_map]; exact ln159) fun vs177 hr178 => ?_
            have mk180 := mo_setL mu158 (repL_snoc (e := (fun y_ : (Int × Int) => (D.tup [(D.v (V.int y_.1)), (D.v (V.int y_.2))]))) (xs := ys155) (y := (x163.1, x163.2.1)) hr178 h175)
            replace h_some := rep_put (o := .lst (vs177 ++ [(V.ref p171)])) mu158.im h_some
            replace h13 := rep_put (o := .lst (vs177 ++ [(V.ref p171)])) mu158.im h13
            replace h136 := rep_put (o := .lst (vs177 ++ [(V.ref p171)])) mu158.im h136
            replace h145 := rep_put (o := .lst (vs177 ++ [(V.ref p171)])) mu158.im h145
            replace hk157 := keep_put (o := .lst (vs177 ++ [(V.ref p171)])) mu158.im hk157
            replace h165 := rep_put (o := .lst (vs177 ++ [(V.ref p171)])) mu158.im h165
            replace h175 := rep_put (o := .lst (vs177 ++ [(V.ref p171)])) mu158.im h175
            replace hW := wd_put (o := .lst (vs177 ++ [(V.ref p171)])) hW mu158
            replace mu158 := mk180
            generalize upd H176 L152 (.lst (vs177 ++ [(V.ref p171)])) = H181 at *
            replace mu158 : MutO (L152 :: ms) [ap] H_0 H181 L152 (D.lst ((ys155 ++ [(x163.1, x163.2.1)]).map (fun y_ : (Int × Int) => (D.tup [(D.v (V.int y_.1)), (D.v (V.int y_.2))])))) := mu158
            clear mk180
            exact hN160 (x163.1, x163.2.1) _ hM ⟨hW, hk157, mu158, by rw [List.length_append]; exact Nat.add_le_add_right ln159 1⟩
          · skip
            rintro n154 ys182 H183 hM ⟨hW, hk157, mu158, ln159⟩
            replace h_some := rep_keep hk157 (rep_new nl153 h_some)
            replace h13 := rep_keep hk157 (rep_new nl153 h13)
            replace h136 := rep_keep hk157 (rep_new nl153 h136)
            replace h145 := rep_keep hk157 (rep_new nl153 h145)
            clear hk157 ln159
            have h184 := mo_rep_dr dr_here nm167 mu158
            replace hW := wd_dr dr_here mu158.hp hW
            replace h_some := rep_dr dr_here h_some
            replace h13 := rep_dr dr_here h13
            replace h136 := rep_dr dr_here h136
            replace h145 := rep_dr dr_here h145
            clear mu158
            obtain ⟨g185, hM⟩ := hM
            apply rep_inD (d := (D.tup [(D.v (V.int ((((x14.1 + (6 : Int)) % (11 : Int)) - (5 : Int)), x14.2.1).1)), (D.v (V.int ((((x14.1 + (6 : Int)) % (11 : Int)) - (5 : Int)), x14.2.1).2))])) (es := (ys182.map (fun y_ : (Int × Int) => (D.tup [(D.v (V.int y_.1)), (D.v (V.int y_.2))])))) h145 h184 g185.1 g185.2.1 g185.2.2.1 g185.2.2.2
            refine ⟨_, rfl, ?_⟩
            refine ite3 hM (fun hM => ?_) (fun hM => ?_)
            · skip
              exact hQ none _ _ hM hW.out rep_v
            · skip
              refine ⟨_, rfl, ?_⟩
              refine ⟨_, rfl, ?_⟩
              refine ⟨_, rfl, ?_⟩
              apply rep_lsU h_some
              intro vs186 hr187
              intro p188 n192
              have e189 := Rx.Ext.new (H := H183) (o := (HO.lst (cutV vs186 none (some r1)))) n192
              have hp190 : upd H183 p188 (HO.lst (cutV vs186 none (some r1))) p188 = some (HO.lst (cutV vs186 none (some r1))) := upd_same
              generalize upd H183 p188 (HO.lst (cutV vs186 none (some r1))) = H193 at e189 hp190 ⊢
              have h191 : rep ms H193 (D.lst ((cutM x_some none (some r1)).map (fun y_ : (Int × Int × Str) => (D.tup [(D.v (V.int y_.1)), (D.v (V.int y_.2.1)), (D.v (V.str y_.2.2))])))) (.ref p188) := rep_lst_mk hW n192 e189 hp190 (repL_cut (e := (fun y_ : (Int × Int × Str) => (D.tup [(D.v (V.int y_.1)), (D.v (V.int y_.2.1)), (D.v (V.str y_.2.2))]))) (xs := x_some) hr187)
              replace h_some := rep_ext e189 h_some
              replace h13 := rep_ext e189 h13
              replace h136 := rep_ext e189 h136
              replace h145 := rep_ext e189 h145
              replace h184 := rep_ext e189 h184
              replace hW := hW.ret0 e189
              refine ⟨_, rfl, ?_⟩
              refine ⟨(by show 1 ≤ sizeLine; decide), ?_⟩
              intro p194 n198
              have e195 := Rx.Ext.new (H := H193) (o := (HO.lst [(V.ref p133)])) n198
              have hp196 : upd H193 p194 (HO.lst [(V.ref p133)]) p194 = some (HO.lst [(V.ref p133)]) := upd_same
              generalize upd H193 p194 (HO.lst [(V.ref p133)]) = H199 at e195 hp196 ⊢
              have h197 : rep ms H199 (D.lst (([((((x14.1 + (6 : Int)) % (11 : Int)) - (5 : Int)), x14.2.1, x14.2.2)] : List (Int × Int × Str)).map (fun y_ : (Int × Int × Str) => (D.tup [(D.v (V.int y_.1)), (D.v (V.int y_.2.1)), (D.v (V.str y_.2.2))])))) (.ref p194) := rep_lst_mk hW n198 e195 hp196 (repL_cons h136 repL_nil)
              replace h_some := rep_ext e195 h_some
              replace h13 := rep_ext e195 h13
              replace h136 := rep_ext e195 h136
              replace h145 := rep_ext e195 h145
              replace h184 := rep_ext e195 h184
              replace h191 := rep_ext e195 h191
              replace hW := hW.ret0 e195
              obtain ⟨g200, hM⟩ := hM
              apply rep_cat (xs := (cutM x_some none (some r1))) (ys := ([((((x14.1 + (6 : Int)) % (11 : Int)) - (5 : Int)), x14.2.1, x14.2.2)] : List (Int × Int × Str))) (e := (fun y_ : (Int × Int × Str) => (D.tup [(D.v (V.int y_.1)), (D.v (V.int y_.2.1)), (D.v (V.str y_.2.2))]))) hW h191 h197 g200
              intro p201 H204 e203 h202
              replace h_some := rep_ext e203 h_some
              replace h13 := rep_ext e203 h13
              replace h136 := rep_ext e203 h136
              replace h145 := rep_ext e203 h145
              replace h184 := rep_ext e203 h184
              replace h191 := rep_ext e203 h191
              replace h197 := rep_ext e203 h197
              replace hW := hW.ret0 e203
              refine ⟨_, rfl, ?_⟩
              refine ⟨_, rfl, ?_⟩
              refine ⟨_, _, rfl, rfl, ?_⟩
              refine ⟨_, rfl, ?_⟩
              apply rep_lsU h_some
              intro vs205 hr206
              intro p207 n211
              have e208 := Rx.Ext.new (H := H204) (o := (HO.lst (cutV vs205 (some (r1 + (1 : Int))) none))) n211
              have hp209 : upd H204 p207 (HO.lst (cutV vs205 (some (r1 + (1 : Int))) none)) p207 = some (HO.lst (cutV vs205 (some (r1 + (1 : Int))) none)) := upd_same
              generalize upd H204 p207 (HO.lst (cutV vs205 (some (r1 + (1 : Int))) none)) = H212 at e208 hp209 ⊢
              have h210 : rep ms H212 (D.lst ((cutM x_some (some (r1 + (1 : Int))) none).map (fun y_ : (Int × Int × Str) => (D.tup [(D.v (V.int y_.1)), (D.v (V.int y_.2.1)), (D.v (V.str y_.2.2))])))) (.ref p207) := rep_lst_mk hW n211 e208 hp209 (repL_cut (e := (fun y_ : (Int × Int × Str) => (D.tup [(D.v (V.int y_.1)), (D.v (V.int y_.2.1)), (D.v (V.str y_.2.2))]))) (xs := x_some) hr206)
              replace h_some := rep_ext e208 h_some
              replace h13 := rep_ext e208 h13
              replace h136 := rep_ext e208 h136
              replace h145 := rep_ext e208 h145
              replace h184 := rep_ext e208 h184
              replace h191 := rep_ext e208 h191
              replace h197 := rep_ext e208 h197
              replace h202 := rep_ext e208 h202
              replace hW := hW.ret0 e208
              obtain ⟨g213, hM⟩ := hM
              apply rep_cat (xs := ((cutM x_some none (some r1)) ++ ([((((x14.1 + (6 : Int)) % (11 : Int)) - (5 : Int)), x14.2.1, x14.2.2)] : List (Int × Int × Str)))) (ys := (cutM x_some (some (r1 + (1 : Int))) none)) (e := (fun y_ : (Int × Int × Str) => (D.tup [(D.v (V.int y_.1)), (D.v (V.int y_.2.1)), (D.v (V.str y_.2.2))]))) hW h202 h210 g213
              intro p214 H217 e216 h215
              replace h_some := rep_ext e216 h_some
              replace h13 := rep_ext e216 h13
              replace h136 := rep_ext e216 h136
              replace h145 := rep_ext e216 h145
              replace h184 := rep_ext e216 h184
              replace h191 := rep_ext e216 h191
              replace h197 := rep_ext e216 h197
              replace h202 := rep_ext e216 h202
              replace h210 := rep_ext e216 h210
              replace hW := hW.ret0 e216
              exact hQ (some (((cutM x_some none (some r1)) ++ ([((((x14.1 + (6 : Int)) % (11 : Int)) - (5 : Int)), x14.2.1, x14.2.2)] : List (Int × Int × Str))) ++ (cutM x_some (some (r1 + (1 : Int))) none))) _ _ hM hW.out h215
      · skip
        refine iteF ?_
        refine ⟨_, rfl, ?_⟩
        refine ⟨_, _, rfl, rfl, ?_⟩
        refine ⟨_, _, rfl, rfl, (by show (0 : Int) < (11 : Int); decide), ?_⟩
        refine ⟨_, _, rfl, rfl, ?_⟩
        refine ⟨_, rfl, ?_⟩
        refine ⟨_, rfl, ?_⟩
        refine ⟨(by show 3 ≤ sizeLine; decide), ?_⟩
        intro p218 n222
        have e219 := Rx.Ext.new (H := H10) (o := (HO.tup [V.int (((x14.1 + (6 : Int)) % (11 : Int)) - (5 : Int)), V.int x14.2.1, V.str x14.2.2])) n222
        have hp220 : upd H10 p218 (HO.tup [V.int (((x14.1 + (6 : Int)) % (11 : Int)) - (5 : Int)), V.int x14.2.1, V.str x14.2.2]) p218 = some (HO.tup [V.int (((x14.1 + (6 : Int)) % (11 : Int)) - (5 : Int)), V.int x14.2.1, V.str x14.2.2]) := upd_same
        generalize upd H10 p218 (HO.tup [V.int (((x14.1 + (6 : Int)) % (11 : Int)) - (5 : Int)), V.int x14.2.1, V.str x14.2.2]) = H223 at e219 hp220 ⊢
        have h221 : rep ms H223 (D.tup [(D.v (V.int (((x14.1 + (6 : Int)) % (11 : Int)) - (5 : Int)))), (D.v (V.int x14.2.1)), (D.v (V.str x14.2.2))]) (.ref p218) := rep_tup_mk hW n222 e219 hp220 (repL_cons rep_v (repL_cons rep_v (repL_cons rep_v repL_nil)))
        replace h_some := rep_ext e219 h_some
        replace h13 := rep_ext e219 h13
        replace hW := hW.ret0 e219
        refine ⟨_, rfl, ?_⟩
        refine ⟨_, rfl, ?_⟩
        apply rep_slT 2 h221 (by show 2 < 3; decide)
        intro vs224 hr225
        intro p226 np227
        have e228 := Rx.Ext.new (H := H223) (o := (HO.tup vs224)) np227
        have hp229 : upd H223 p226 (HO.tup vs224) p226 = some (HO.tup vs224) := upd_same
        generalize upd H223 p226 (HO.tup vs224) = H231 at e228 hp229 ⊢
        have h230 : rep ms H231 (D.tup [(D.v (V.int (((x14.1 + (6 : Int)) % (11 : Int)) - (5 : Int)))), (D.v (V.int x14.2.1))]) (.ref p226) := rep_tup_mk (ds := [(D.v (V.int (((x14.1 + (6 : Int)) % (11 : Int)) - (5 : Int)))), (D.v (V.int x14.2.1))]) hW np227 e228 hp229 hr225
        replace h_some := rep_ext e228 h_some
        replace h13 := rep_ext e228 h13
        replace h221 := rep_ext e228 h221
        replace hW := hW.ret0 e228
        refine ⟨_, rfl, ?_⟩
        apply rep_iter h_some
        intro a232 xs233 _ an234 hp235 hl236
        refine fun L237 nl238 => ?_
        have nm252 := nm_new hW nl238
        refine lc_listG (L := L237) (fun n_ ys_ h_ => Wd (L237 :: ms) [ap] [] H_0 h_ ∧ Keep (L237 :: ms) H231 h_ ∧ MutO (L237 :: ms) [ap] H_0 h_ L237 (D.lst (ys_.map (fun y_ : (Int × Int) => (D.tup [(D.v (V.int y_.1)), (D.v (V.int y_.2))])))) ∧ ys_.length ≤ n_) (items := x_some) (e := (fun y_ : (Int × Int × Str) => (D.tup [(D.v (V.int y_.1)), (D.v (V.int y_.2.1)), (D.v (V.str y_.2.2))]))) an234 hp235 hl236 nl238 (fun _ _ _ q_ => q_.2.1) hM ⟨wd_cell hW nl238, keep_cell nl238 Keep.refl, mo_newL (ds := []) hW nl238 repL_nil, Nat.le_refl _⟩ ?_ ?_
        · skip
          rintro x248 u249 n239 ys240 k241 H253 hn ⟨hW, hk242, mu243, ln244⟩ h250 hM Nx247 hN245
          replace h_some := rep_keep hk242 (rep_new nl238 h_some)
          replace h13 := rep_keep hk242 (rep_new nl238 h13)
          replace h221 := rep_keep hk242 (rep_new nl238 h221)
          replace h230 := rep_keep hk242 (rep_new nl238 h230)
          refine ⟨rfl, ?_⟩
          refine tyes_of ?_
          refine ⟨_, rfl, ?_⟩
          refine ⟨_, rfl, ?_⟩
          apply rep_slT 2 h250 (by show 2 < 3; decide)
          intro vs254 hr255
          intro p256 np257
          have e258 := Rx.Ext.new (H := H253) (o := (HO.tup vs254)) np257
          have hp259 : upd H253 p256 (HO.tup vs254) p256 = some (HO.tup vs254) := upd_same
          generalize upd H253 p256 (HO.tup vs254) = H261 at e258 hp259 ⊢
          have h260 : rep (L237 :: ms) H261 (D.tup [(D.v (V.int x248.1)), (D.v (V.int x248.2.1))]) (.ref p256) := rep_tup_mk (ds := [(D.v (V.int x248.1)), (D.v (V.int x248.2.1))]) hW np257 e258 hp259 hr255
          replace h_some := rep_ext e258 h_some
          replace h13 := rep_ext e258 h13
          replace h221 := rep_ext e258 h221
          replace h230 := rep_ext e258 h230
          replace hk242 := keep_ext e258 hk242
          replace h250 := rep_ext e258 h250
          replace mu243 := mo_ext e258 mu243
          replace hW := hW.ret0 e258
          refine mo_end mu243 hn (by rw [List.length_map]; exact ln244) fun vs262 hr263 => ?_
          have mk265 := mo_setL mu243 (repL_snoc (e := (fun y_ : (Int × Int) => (D.tup [(D.v (V.int y_.1)), (D.v (V.int y_.2))]))) (xs := ys240) (y := (x248.1, x248.2.1)) hr263 h260)
          replace h_some := rep_put (o := .lst (vs262 ++ [(V.ref p256)])) mu243.im h_some
          replace h13 := rep_put (o := .lst (vs262 ++ [(V.ref p256)])) mu243.im h13
          replace h221 := rep_put (o := .lst (vs262 ++ [(V.ref p256)])) mu243.im h221
          replace h230 := rep_put (o := .lst (vs262 ++ [(V.ref p256)])) mu243.im h230
          replace hk242 := keep_put (o := .lst (vs262 ++ [(V.ref p256)])) mu243.im hk242
          replace h250 := rep_put (o := .lst (vs262 ++ [(V.ref p256)])) mu243.im h250
          replace h260 := rep_put (o := .lst (vs262 ++ [(V.ref p256)])) mu243.im h260
          replace hW := wd_put (o := .lst (vs262 ++ [(V.ref p256)])) hW mu243
          replace mu243 := mk265
          generalize upd H261 L237 (.lst (vs262 ++ [(V.ref p256)])) = H266 at *
          replace mu243 : MutO (L237 :: ms) [ap] H_0 H266 L237 (D.lst ((ys240 ++ [(x248.1, x248.2.1)]).map (fun y_ : (Int × Int) => (D.tup [(D.v (V.int y_.1)), (D.v (V.int y_.2))])))) := mu243
          clear mk265
          exact hN245 (x248.1, x248.2.1) _ hM ⟨hW, hk242, mu243, by rw [List.length_append]; exact Nat.add_le_add_right ln244 1⟩
        · skip
          rintro n239 ys267 H268 hM ⟨hW, hk242, mu243, ln244⟩
          replace h_some := rep_keep hk242 (rep_new nl238 h_some)
          replace h13 := rep_keep hk242 (rep_new nl238 h13)
          replace h221 := rep_keep hk242 (rep_new nl238 h221)
          replace h230 := rep_keep hk242 (rep_new nl238 h230)
          clear hk242 ln244
          have h269 := mo_rep_dr dr_here nm252 mu243
          replace hW := wd_dr dr_here mu243.hp hW
          replace h_some := rep_dr dr_here h_some
          replace h13 := rep_dr dr_here h13
          replace h221 := rep_dr dr_here h221
          replace h230 := rep_dr dr_here h230
          clear mu243
          obtain ⟨g270, hM⟩ := hM
          apply rep_inD (d := (D.tup [(D.v (V.int ((((x14.1 + (6 : Int)) % (11 : Int)) - (5 : Int)), x14.2.1).1)), (D.v (V.int ((((x14.1 + (6 : Int)) % (11 : Int)) - (5 : Int)), x14.2.1).2))])) (es := (ys267.map (fun y_ : (Int × Int) => (D.tup [(D.v (V.int y_.1)), (D.v (V.int y_.2))])))) h230 h269 g270.1 g270.2.1 g270.2.2.1 g270.2.2.2
          refine ⟨_, rfl, ?_⟩
          refine ite3 hM (fun hM => ?_) (fun hM => ?_)
          · skip
            exact hQ none _ _ hM hW.out rep_v
          · skip
            refine ⟨_, rfl, ?_⟩
            refine ⟨_, rfl, ?_⟩
            refine ⟨_, rfl, ?_⟩
            apply rep_lsU h_some
            intro vs271 hr272
            intro p273 n277
            have e274 := Rx.Ext.new (H := H268) (o := (HO.lst (cutV vs271 none (some r1)))) n277
            have hp275 : upd H268 p273 (HO.lst (cutV vs271 none (some r1))) p273 = some (HO.lst (cutV vs271 none (some r1))) := upd_same
            generalize upd H268 p273 (HO.lst (cutV vs271 none (some r1))) = H278 at e274 hp275 ⊢
            have h276 : rep ms H278 (D.lst ((cutM x_some none (some r1)).map (fun y_ : (Int × Int × Str) => (D.tup [(D.v (V.int y_.1)), (D.v (V.int y_.2.1)), (D.v (V.str y_.2.2))])))) (.ref p273) := rep_lst_mk hW n277 e274 hp275 (repL_cut (e := (fun y_ : (Int × Int × Str) => (D.tup [(D.v (V.int y_.1)), (D.v (V.int y_.2.1)), (D.v (V.str y_.2.2))]))) (xs := x_some) hr272)
            replace h_some := rep_ext e274 h_some
            replace h13 := rep_ext e274 h13
            replace h221 := rep_ext e274 h221
            replace h230 := rep_ext e274 h230
            replace h269 := rep_ext e274 h269
            replace hW := hW.ret0 e274
            refine ⟨_, rfl, ?_⟩
            refine ⟨(by show 1 ≤ sizeLine; decide), ?_⟩
            intro p279 n283
            have e280 := Rx.Ext.new (H := H278) (o := (HO.lst [(V.ref p218)])) n283
            have hp281 : upd H278 p279 (HO.lst [(V.ref p218)]) p279 = some (HO.lst [(V.ref p218)]) := upd_same
            generalize upd H278 p279 (HO.lst [(V.ref p218)]) = H284 at e280 hp281 ⊢
            have h282 : rep ms H284 (D.lst (([((((x14.1 + (6 : Int)) % (11 : Int)) - (5 : Int)), x14.2.1, x14.2.2)] : List (Int × Int × Str)).map (fun y_ : (Int × Int × Str) => (D.tup [(D.v (V.int y_.1)), (D.v (V.int y_.2.1)), (D.v (V.str y_.2.2))])))) (.ref p279) := rep_lst_mk hW n283 e280 hp281 (repL_cons h221 repL_nil)
            replace h_some := rep_ext e280 h_some
            replace h13 := rep_ext e280 h13
            replace h221 := rep_ext e280 h221
            replace h230 := rep_ext e280 h230
            replace h269 := rep_ext e280 h269
            replace h276 := rep_ext e280 h276
            replace hW := hW.ret0 e280
            obtain ⟨g285, hM⟩ := hM
            apply rep_cat (xs := (cutM x_some none (some r1))) (ys := ([((((x14.1 + (6 : Int)) % (11 : Int)) - (5 : Int)), x14.2.1, x14.2.2)] : List (Int × Int × Str))) (e := (fun y_ : (Int × Int × Str) => (D.tup [(D.v (V.int y_.1)), (D.v (V.int y_.2.1)), (D.v (V.str y_.2.2))]))) hW h276 h282 g285
            intro p286 H289 e288 h287
            replace h_some := rep_ext e288 h_some
            replace h13 := rep_ext e288 h13
            replace h221 := rep_ext e288 h221
            replace h230 := rep_ext e288 h230
            replace h269 := rep_ext e288 h269
            replace h276 := rep_ext e288 h276
            replace h282 := rep_ext e288 h282
            replace hW := hW.ret0 e288
            refine ⟨_, rfl, ?_⟩
            refine ⟨_, rfl, ?_⟩
            refine ⟨_, _, rfl, rfl, ?_⟩
            refine ⟨_, rfl, ?_⟩
            apply rep_lsU h_some
            intro vs290 hr291
            intro p292 n296
            have e293 := Rx.Ext.new (H := H289) (o := (HO.lst (cutV vs290 (some (r1 + (1 : Int))) none))) n296
            have hp294 : upd H289 p292 (HO.lst (cutV vs290 (some (r1 + (1 : Int))) none)) p292 = some (HO.lst (cutV vs290 (some (r1 + (1 : Int))) none)) := upd_same
            generalize upd H289 p292 (HO.lst (cutV vs290 (some (r1 + (1 : Int))) none)) = H297 at e293 hp294 ⊢
            have h295 : rep ms H297 (D.lst ((cutM x_some (some (r1 + (1 : Int))) none).map (fun y_ : (Int × Int × Str) => (D.tup [(D.v (V.int y_.1)), (D.v (V.int y_.2.1)), (D.v (V.str y_.2.2))])))) (.ref p292) := rep_lst_mk hW n296 e293 hp294 (repL_cut (e := (fun y_ : (Int × Int × Str) => (D.tup [(D.v (V.int y_.1)), (D.v (V.int y_.2.1)), (D.v (V.str y_.2.2))]))) (xs := x_some) hr291)
            replace h_some := rep_ext e293 h_some
            replace h13 := rep_ext e293 h13
            replace h221 := rep_ext e293 h221
            replace h230 := rep_ext e293 h230
            replace h269 := rep_ext e293 h269
            replace h276 := rep_ext e293 h276
            replace h282 := rep_ext e293 h282
            replace h287 := rep_ext e293 h287
            replace hW := hW.ret0 e293
            obtain ⟨g298, hM⟩ := hM
            apply rep_cat (xs := ((cutM x_some none (some r1)) ++ ([((((x14.1 + (6 : Int)) % (11 : Int)) - (5 : Int)), x14.2.1, x14.2.2)] : List (Int × Int × Str)))) (ys := (cutM x_some (some (r1 + (1 : Int))) none)) (e := (fun y_ : (Int × Int × Str) => (D.tup [(D.v (V.int y_.1)), (D.v (V.int y_.2.1)), (D.v (V.str y_.2.2))]))) hW h287 h295 g298
            intro p299 H302 e301 h300
            replace h_some := rep_ext e301 h_some
            replace h13 := rep_ext e301 h13
            replace h221 := rep_ext e301 h221
            replace h230 := rep_ext e301 h230
            replace h269 := rep_ext e301 h269
            replace h276 := rep_ext e301 h276
            replace h282 := rep_ext e301 h282
            replace h287 := rep_ext e301 h287
            replace h295 := rep_ext e301 h295
            replace hW := hW.ret0 e301
            exact hQ (some (((cutM x_some none (some r1)) ++ ([((((x14.1 + (6 : Int)) % (11 : Int)) - (5 : Int)), x14.2.1, x14.2.2)] : List (Int × Int × Str))) ++ (cutM x_some (some (r1 + (1 : Int))) none))) _ _ hM hW.out h300
def M_order (x_some : (List (Int × Int × Str))) (KM : (List (Int × Int × Str)) → Prop) : Prop :=
  (forC (fun (x6 : Int) (s8 : (List (Int × Int × Str))) (k9 : ((List (Int × Int × Str))) → Prop) => (forC (fun (x18 : Int) (s20 : (List (Int × Int × Str))) (k21 : ((List (Int × Int × Str))) → Prop) => (x_some.length < 100000 ∧ filC (fun (x45 : (Int × Int × Str)) (k38 : Option (Int × Int × Str) → Prop) => (((plainD (D.tup [(D.v (V.int (x45.1, x45.2.1).1)), (D.v (V.int (x45.1, x45.2.1).2))]) = true ∧ plainD (D.tup [(D.v (V.int (x6, x18).1)), (D.v (V.int (x6, x18).2))]) = true ∧ SeqAt.shaped (pyOf (D.tup [(D.v (V.int (x45.1, x45.2.1).1)), (D.v (V.int (x45.1, x45.2.1).2))])) = true ∧ SeqAt.shaped (pyOf (D.tup [(D.v (V.int (x6, x18).1)), (D.v (V.int (x6, x18).2))])) = true)) ∧ (if (PyData.eqv (pyOf (D.tup [(D.v (V.int (x45.1, x45.2.1).1)), (D.v (V.int (x45.1, x45.2.1).2))])) (pyOf (D.tup [(D.v (V.int (x6, x18).1)), (D.v (V.int (x6, x18).2))]))) = true then (k38 (some x45)) else (k38 none)))) x_some [] fun ys75 => (s20.length + ys75.length ≤ 16777216 ∧ (k21 ((s20 ++ ys75)))))) (rangeI (0 : Int) (4 : Int)) (s8) fun s86 => (k9 (s86)))) (rangeI (-(5 : Int)) (6 : Int)) (([] : List (Int × Int × Str))) fun s91 => (KM s91))
def sp_order (A : Ad) : Sp := fun vs H Q _ => ∃ (ms : List Addr) (v_some : V) (x_some : (List (Int × Int × Str))) (KM : (List (Int × Int × Str)) → Prop), vs = [v_some] ∧ Wd ms [] [] H H ∧ rep ms H (D.lst (x_some.map (fun y_ : (Int × Int × Str) => (D.tup [(D.v (V.int y_.1)), (D.v (V.int y_.2.1)), (D.v (V.str y_.2.2))])))) v_some ∧ M_order x_some KM ∧ ∀ (r : (List (Int × Int × Str))) (u : V) (H1 : Hp), KM r → Ret [] H H1 → rep ms H1 (D.lst (r.map (fun y_ : (Int × Int × Str) => (D.tup [(D.v (V.int y_.1)), (D.v (V.int y_.2.1)), (D.v (V.str y_.2.2))])))) u → Q u H1
set_option maxHeartbeats 16000000 in
theorem ok_order {P : Program} {w : World} {K : PySem.W.Frag} {mg : Str → Option Value} {base : Heap} {A : Ad} (T : Txt w K mg A) : FnOk P w K mg base CX0 1 A.a_order A.d_order ["_law_some"] (sp_order A) := by
  refine T.F_order.ok sc_order (fun vs H Q E h => ?_) (fun cdv A_ outer s_ H_0 vs Q E hr h => ?_)
  · obtain ⟨ms, v_some, x_some, KM, rfl, _⟩ := h
    rfl
  · obtain ⟨ms, v_some, x_some, KM, rfl, hW, h_some, hM, hQ⟩ := h
    unfold M_order at hM
    refine ⟨_, (pss_cons (ps_set (i := 1) sc_order.nd rfl (by first | exact Or.inl rfl | exact Or.inr rfl) (pe_lst pa_nil)) (pss_cons (ps_for PassesOwn.never rfl (pi_rangeW2 (by rfl) T.z_range (pa_cons (pe_un un_neg pe_int) (pa_cons pe_int pa_nil))) (pg_name (i := 2) sc_order.nd rfl (by first | exact Or.inl rfl | exact Or.inr rfl)) (pss_one (ps_for PassesOwn.never rfl (pi_rangeW1 (by rfl) T.z_range (pa_cons pe_int pa_nil)) (pg_name (i := 3) sc_order.nd rfl (by first | exact Or.inl rfl | exact Or.inr rfl)) (pss_one (ps_expr (pe_bmK (K := K) rfl PySem.F.plainAttrs_list PySem.F.slot_list_extend PySem.F.type_list_extend mt_extend (pv 1) (pa_cons (pe_lc (own := [("_law_cell", 4)]) (g := gName 4) rfl sc_order.nd (pi_list (pv 0)) (blkOk_by (N := ["_law_some", "_law_found", "_law_who", "_law_later", "_law_cell"]) (sc := defScope s_order) (by decide +kernel)) (fun _ _ _ _ _ => pg_name (i := 4) sc_order.nd rfl (by first | exact Or.inl rfl | exact Or.inr rfl)) (fun _ _ _ _ _ => (pts_one (pt_cmpR (op_eqDK (K := K) rfl hr.units) (pe_slice (sl_tupK (K := K) rfl) (pv 4) po_none (po_some pe_int)) (pe_tup (pa_cons (pv 2) (pa_cons (pv 3) pa_nil))) (nomark _)))) (fun _ _ _ _ _ => (pv 4))) pa_nil))))))) (pss_one (ps_ret (pv 1))))), ?_⟩
    refine ⟨(by show 0 ≤ sizeLine; decide), ?_⟩
    intro L1 nl2
    have nm3 := nm_new hW nl2
    have mu4 := mo_newL (ds := ([] : List (Int × Int × Str)).map (fun y_ : (Int × Int × Str) => (D.tup [(D.v (V.int y_.1)), (D.v (V.int y_.2.1)), (D.v (V.str y_.2.2))]))) (vs := []) hW nl2 repL_nil
    replace h_some := rep_cell (o := .lst []) nl2 h_some
    replace hW := wd_cell (o := .lst []) hW nl2
    generalize upd H_0 L1 (.lst []) = H5 at *
    replace mu4 : MutO (L1 :: ms) [] H_0 H5 L1 (D.lst (([] : List (Int × Int × Str)).map (fun y_ : (Int × Int × Str) => (D.tup [(D.v (V.int y_.1)), (D.v (V.int y_.2.1)), (D.v (V.str y_.2.2))])))) := mu4
    refine ⟨_, rfl, ?_⟩
    refine ⟨_, _, rfl, ?_⟩
    refine for_rangeG (S := (List (Int × Int × Str))) (lo := (-(5 : Int))) (hi := (6 : Int)) (N := Int.toNat ((6 : Int) - (-(5 : Int)))) (fun (s : (List (Int × Int × Str))) σ_ h_ => ∃ (w_0 : Option V), ∃ (w_1 : Option V), σ_ = [some v_some, some (V.ref L1), w_0, w_1, none] ∧ Wd (L1 :: ms) [] [] H_0 h_ ∧ Keep (L1 :: ms) H5 h_ ∧ MutO (L1 :: ms) [] H_0 h_ L1 (D.lst (s.map (fun y_ : (Int × Int × Str) => (D.tup [(D.v (V.int y_.1)), (D.v (V.int y_.2.1)), (D.v (V.str y_.2.2))]))))) (([] : List (Int × Int × Str))) (by simp) hM ⟨_, _, rfl, hW, Keep.refl, mu4⟩ ?_ ?_
    · skip
      clear mu4
      rintro x6 s8 k9 _ H17 ⟨w14, w15, rfl, hW, hk10, mu16⟩ hM Nx12 hN13
      replace h_some := rep_keep hk10 h_some
      refine ⟨_, rfl, ?_⟩
      refine for_rangeG (S := (List (Int × Int × Str))) (lo := (0 : Int)) (hi := (4 : Int)) (N := Int.toNat (4 : Int)) (fun (s : (List (Int × Int × Str))) σ_ h_ => ∃ (w_0 : Option V), σ_ = [some v_some, some (V.ref L1), some (V.int x6), w_0, none] ∧ Wd (L1 :: ms) [] [] H_0 h_ ∧ Keep (L1 :: ms) H17 h_ ∧ MutO (L1 :: ms) [] H_0 h_ L1 (D.lst (s.map (fun y_ : (Int × Int × Str) => (D.tup [(D.v (V.int y_.1)), (D.v (V.int y_.2.1)), (D.v (V.str y_.2.2))]))))) (s8) (by simp) hM ⟨_, rfl, hW, Keep.refl, mu16⟩ ?_ ?_
      · skip
        clear mu16
        rintro x18 s20 k21 _ H28 ⟨w26, rfl, hW, hk22, mu27⟩ hM Nx24 hN25
        replace h_some := rep_keep hk22 h_some
        replace hk10 := Keep.trans hk10 hk22
        refine ⟨_, rfl, ?_⟩
        refine ⟨mo_tyL mu27, ?_⟩
        refine ⟨_, rfl, ?_⟩
        apply rep_iter h_some
        intro a29 xs30 _ an31 hp32 hl33
        refine fun L34 nl35 => ?_
        have nm49 := nm_new hW nl35
        have kn50 := keep_none (w := hW) nl35 hk10
        have kn51 := keep_none (w := hW) nl35 hk22
        have ne52 := mo_ne nl35 mu27
        refine lf_listG (L := L34) (fun n_ ys_ h_ => Wd (L34 :: (L1 :: ms)) [] [] H_0 h_ ∧ Keep (L34 :: (L1 :: ms)) H28 h_ ∧ MutO (L34 :: (L1 :: ms)) [] H_0 h_ L34 (D.lst (ys_.map (fun y_ : (Int × Int × Str) => (D.tup [(D.v (V.int y_.1)), (D.v (V.int y_.2.1)), (D.v (V.str y_.2.2))])))) ∧ ys_.length ≤ n_ ∧ MutO (L34 :: (L1 :: ms)) [] H_0 h_ L1 (D.lst (s20.map (fun y_ : (Int × Int × Str) => (D.tup [(D.v (V.int y_.1)), (D.v (V.int y_.2.1)), (D.v (V.str y_.2.2))]))))) (items := x_some) (e := (fun y_ : (Int × Int × Str) => (D.tup [(D.v (V.int y_.1)), (D.v (V.int y_.2.1)), (D.v (V.str y_.2.2))]))) an31 hp32 hl33 nl35 (fun _ _ _ q_ => q_.2.1) hM ⟨wd_cell hW nl35, keep_cell nl35 Keep.refl, mo_newL (ds := []) hW nl35 repL_nil, Nat.le_refl _, mo_cell nl35 mu27⟩ ?_ ?_
        · skip
          clear mu27
          rintro x45 u46 n36 ys37 k38 H53 hn ⟨hW, hk39, mu40, ln41, mu54⟩ h47 hM Nx44 hN42 hNn43
          replace h_some := rep_keep hk39 (rep_new nl35 h_some)
          replace hk10 := Keep.trans (Keep.new hk10) hk39
          replace hk22 := Keep.trans (Keep.new hk22) hk39
          refine ⟨rfl, ?_⟩
          refine ⟨_, rfl, ?_⟩
          refine ⟨_, rfl, ?_⟩
          apply rep_slT 2 h47 (by show 2 < 3; decide)
          intro vs55 hr56
          intro p57 np58
          have e59 := Rx.Ext.new (H := H53) (o := (HO.tup vs55)) np58
          have hp60 : upd H53 p57 (HO.tup vs55) p57 = some (HO.tup vs55) := upd_same
          generalize upd H53 p57 (HO.tup vs55) = H62 at e59 hp60 ⊢
          have h61 : rep (L34 :: (L1 :: ms)) H62 (D.tup [(D.v (V.int x45.1)), (D.v (V.int x45.2.1))]) (.ref p57) := rep_tup_mk (ds := [(D.v (V.int x45.1)), (D.v (V.int x45.2.1))]) hW np58 e59 hp60 hr56
          replace h_some := rep_ext e59 h_some
          replace hk10 := keep_ext e59 hk10
          replace hk22 := keep_ext e59 hk22
          replace hk39 := keep_ext e59 hk39
          replace h47 := rep_ext e59 h47
          replace mu54 := mo_ext e59 mu54
          replace mu40 := mo_ext e59 mu40
          replace hW := hW.ret0 e59
          refine ⟨_, rfl, ?_⟩
          refine ⟨_, rfl, ?_⟩
          refine ⟨(by show 2 ≤ sizeLine; decide), ?_⟩
          intro p63 n67
          have e64 := Rx.Ext.new (H := H62) (o := (HO.tup [V.int x6, V.int x18])) n67
          have hp65 : upd H62 p63 (HO.tup [V.int x6, V.int x18]) p63 = some (HO.tup [V.int x6, V.int x18]) := upd_same
          generalize upd H62 p63 (HO.tup [V.int x6, V.int x18]) = H68 at e64 hp65 ⊢
          have h66 : rep (L34 :: (L1 :: ms)) H68 (D.tup [(D.v (V.int x6)), (D.v (V.int x18))]) (.ref p63) := rep_tup_mk hW n67 e64 hp65 (repL_cons rep_v (repL_cons rep_v repL_nil))
          replace h_some := rep_ext e64 h_some
          replace hk10 := keep_ext e64 hk10
          replace hk22 := keep_ext e64 hk22
          replace hk39 := keep_ext e64 hk39
          replace h47 := rep_ext e64 h47
          replace h61 := rep_ext e64 h61
          replace mu54 := mo_ext e64 mu54
          replace mu40 := mo_ext e64 mu40
          replace hW := hW.ret0 e64
          obtain ⟨g69, hM⟩ := hM
          apply rep_eqD (d := (D.tup [(D.v (V.int (x45.1, x45.2.1).1)), (D.v (V.int (x45.1, x45.2.1).2))])) (e := (D.tup [(D.v (V.int (x6, x18).1)), (D.v (V.int (x6, x18).2))])) h61 h66 g69.1 g69.2.1 g69.2.2.1 g69.2.2.2
          refine ⟨_, rfl, ?_⟩
          refine ite3 hM (fun hM => ?_) (fun hM => ?_)
          · skip
            refine ⟨_, rfl, ?_⟩
            refine mo_end mu40 hn (by rw [List.length_map]; exact ln41) fun vs70 hr71 => ?_
            have mk73 := mo_setL mu40 (repL_snoc (e := (fun y_ : (Int × Int × Str) => (D.tup [(D.v (V.int y_.1)), (D.v (V.int y_.2.1)), (D.v (V.str y_.2.2))]))) (xs := ys37) (y := x45) hr71 h47)
            replace mu54 := mo_put (o := .lst (vs70 ++ [u46])) mu40.im ne52 mu54
            replace h_some := rep_put (o := .lst (vs70 ++ [u46])) mu40.im h_some
            replace hk10 := keep_put (o := .lst (vs70 ++ [u46])) mu40.im hk10
            replace hk22 := keep_put (o := .lst (vs70 ++ [u46])) mu40.im hk22
            replace hk39 := keep_put (o := .lst (vs70 ++ [u46])) mu40.im hk39
            replace h47 := rep_put (o := .lst (vs70 ++ [u46])) mu40.im h47
            replace h61 := rep_put (o := .lst (vs70 ++ [u46])) mu40.im h61
            replace h66 := rep_put (o := .lst (vs70 ++ [u46])) mu40.im h66
            replace hW := wd_put (o := .lst (vs70 ++ [u46])) hW mu40
            replace mu40 := mk73
            generalize upd H68 L34 (.lst (vs70 ++ [u46])) = H74 at *
            replace mu40 : MutO (L34 :: (L1 :: ms)) [] H_0 H74 L34 (D.lst ((ys37 ++ [x45]).map (fun y_ : (Int × Int × Str) => (D.tup [(D.v (V.int y_.1)), (D.v (V.int y_.2.1)), (D.v (V.str y_.2.2))])))) := mu40
            clear mk73
            exact hN42 x45 _ hM ⟨hW, hk39, mu40, by rw [List.length_append]; exact Nat.add_le_add_right ln41 1, mu54⟩
          · skip
            exact hNn43 _ hM ⟨hW, hk39, mu40, Nat.le_succ_of_le ln41, mu54⟩
        · skip
          clear mu27
          rintro n36 ys75 H76 hM ⟨hW, hk39, mu40, ln41, mu77⟩
          replace h_some := rep_keep hk39 (rep_new nl35 h_some)
          replace hk10 := Keep.trans (Keep.new hk10) hk39
          replace hk22 := Keep.trans (Keep.new hk22) hk39
          clear hk39 ln41
          have h78 := mo_rep_dr dr_here nm49 mu40
          replace hW := wd_dr dr_here mu40.hp hW
          replace h_some := rep_dr dr_here h_some
          replace hk10 := keep_dr dr_here kn50 hk10
          replace hk22 := keep_dr dr_here kn51 hk22
          replace mu77 := mo_dr dr_here ne52 mu77
          clear mu40
          obtain ⟨g79, hM⟩ := hM
          apply mo_extU (e := (fun y_ : (Int × Int × Str) => (D.tup [(D.v (V.int y_.1)), (D.v (V.int y_.2.1)), (D.v (V.str y_.2.2))]))) (ys := ys75) mu77 h78 (by rw [List.length_map]; exact g79)
          intro vs80 us81 hr82 hr83
          have mk84 := mo_setL mu77 (repL_cat (e := (fun y_ : (Int × Int × Str) => (D.tup [(D.v (V.int y_.1)), (D.v (V.int y_.2.1)), (D.v (V.str y_.2.2))]))) (xs := s20) (ys := ys75) hr82 hr83)
          replace h_some := rep_put (o := .lst (vs80 ++ us81)) mu77.im h_some
          replace hk10 := keep_put (o := .lst (vs80 ++ us81)) mu77.im hk10
          replace hk22 := keep_put (o := .lst (vs80 ++ us81)) mu77.im hk22
          replace h78 := rep_put (o := .lst (vs80 ++ us81)) mu77.im h78
          replace hW := wd_put (o := .lst (vs80 ++ us81)) hW mu77
          replace mu77 := mk84
          generalize upd H76 L1 (.lst (vs80 ++ us81)) = H85 at *
          replace mu77 : MutO (L1 :: ms) [] H_0 H85 L1 (D.lst ((s20 ++ ys75).map (fun y_ : (Int × Int × Str) => (D.tup [(D.v (V.int y_.1)), (D.v (V.int y_.2.1)), (D.v (V.str y_.2.2))])))) := mu77
          clear mk84
          exact hN25 ((s20 ++ ys75)) _ _ hM ⟨_, rfl, hW, hk22, mu77⟩
      · skip
        clear mu16
        rintro s86 _ H90 hM ⟨w88, rfl, hW, hk87, mu89⟩
        replace h_some := rep_keep hk87 h_some
        replace hk10 := Keep.trans hk10 hk87
        exact hN13 (s86) _ _ hM ⟨_, _, rfl, hW, hk10, mu89⟩
    · skip
      clear mu4
      rintro s91 _ H96 hM ⟨w93, w94, rfl, hW, hk92, mu95⟩
      replace h_some := rep_keep hk92 h_some
      have h97 := mo_rep_dr dr_here nm3 mu95
      replace hW := wd_dr dr_here mu95.hp hW
      replace h_some := rep_dr dr_here h_some
      clear mu95
      refine ⟨_, rfl, ?_⟩
      exact hQ s91 _ _ hM hW.out h97
def M_Picture_cells (x_self : (List (Int × Int × Str))) (KM : (List (Int × Int × Str)) → Prop) : Prop :=
  (KM x_self)
def sp_Picture_cells (A : Ad) : Sp := fun vs H Q _ => ∃ (ms : List Addr) (v_self : V) (x_self : (List (Int × Int × Str))) (KM : (List (Int × Int × Str)) → Prop), vs = [v_self] ∧ Wd ms [] [] H H ∧ rep ms H (ePicture A x_self) v_self ∧ M_Picture_cells x_self KM ∧ ∀ (r : (List (Int × Int × Str))) (u : V) (H1 : Hp), KM r → Ret [] H H1 → rep ms H1 (D.tup (r.map (fun y_ : (Int × Int × Str) => (D.tup [(D.v (V.int y_.1)), (D.v (V.int y_.2.1)), (D.v (V.str y_.2.2))])))) u → Q u H1
set_option maxHeartbeats 16000000 in
theorem ok_Picture_cells {P : Program} {w : World} {K : PySem.W.Frag} {mg : Str → Option Value} {base : Heap} {A : Ad} (T : Txt w K mg A) : FnOk P w K mg base CX0 1 A.a_Picture_cells A.d_Picture_cells ["self"] (sp_Picture_cells A) := by
  refine T.F_Picture_cells.ok sc_Picture_cells (fun vs H Q E h => ?_) (fun cdv A_ outer s_ H_0 vs Q E hr h => ?_)
  · obtain ⟨ms, v_self, x_self, KM, rfl, _⟩ := h
    rfl
  · obtain ⟨ms, v_self, x_self, KM, rfl, hW, h_self, hM, hQ⟩ := h
    unfold M_Picture_cells at hM
    refine ⟨_, (pss_one (ps_ret (pe_fld (pv 0) rfl))), ?_⟩
    refine ⟨_, rfl, ?_⟩
    apply rep_fld (j := 0) h_self T.cl_Picture T.na_Picture__cells nd_Picture rfl rfl
    intro u2 h1
    exact hQ x_self _ _ hM hW.out h1
def M_Picture_span (x_self : (List (Int × Int × Str))) (KM : Int → Prop) : Prop :=
  (x_self.length < 100000 ∧ mapC (fun (x19 : (Int × Int × Str)) (k12 : Int → Prop) => (k12 x19.2.1)) x_self [] fun ys32 => (0 < ys32.length ∧ ∀ y36 : Int, y36 ∈ ys32 → (∀ z_ ∈ ys32, z_ ≤ y36) → (KM y36)))
def sp_Picture_span (A : Ad) : Sp := fun vs H Q _ => ∃ (ms : List Addr) (v_self : V) (x_self : (List (Int × Int × Str))) (KM : Int → Prop), vs = [v_self] ∧ Wd ms [] [] H H ∧ rep ms H (ePicture A x_self) v_self ∧ M_Picture_span x_self KM ∧ ∀ (r : Int) (u : V) (H1 : Hp), KM r → Ret [] H H1 → rep ms H1 (D.v (V.int r)) u → Q u H1
set_option maxHeartbeats 16000000 in
theorem ok_Picture_span {P : Program} {w : World} {K : PySem.W.Frag} {mg : Str → Option Value} {base : Heap} {A : Ad} (T : Txt w K mg A) : FnOk P w K mg base CX0 1 A.a_Picture_span A.d_Picture_span ["self"] (sp_Picture_span A) := by
  refine T.F_Picture_span.ok sc_Picture_span (fun vs H Q E h => ?_) (fun cdv A_ outer s_ H_0 vs Q E hr h => ?_)
  · obtain ⟨ms, v_self, x_self, KM, rfl, _⟩ := h
    rfl
  · obtain ⟨ms, v_self, x_self, KM, rfl, hW, h_self, hM, hQ⟩ := h
    unfold M_Picture_span at hM
    refine ⟨_, (pss_one (ps_ret (pe_callB (cr_maxK (K := K) rfl rfl) (by rfl) T.z_max (by decide +kernel) (pa_cons (pe_lc (own := [("cell", 1)]) (g := gName 1) rfl sc_Picture_span.nd (pi_tup (pe_fld (pv 0) rfl)) (blkOk_by (N := ["self", "cell"]) (sc := defScope s_Picture_span) (by decide +kernel)) (fun _ _ _ _ _ => pg_name (i := 1) sc_Picture_span.nd rfl (by first | exact Or.inl rfl | exact Or.inr rfl)) (fun _ _ _ _ _ => pts_nil) (fun _ _ _ _ _ => (pe_ix (ix_tupK (K := K) rfl) (pv 1) pe_int (fun _ _ => rfl)))) pa_nil)))), ?_⟩
    refine ⟨_, rfl, ?_⟩
    apply rep_fld (j := 0) h_self T.cl_Picture T.na_Picture__cells nd_Picture rfl rfl
    intro u2 h1
    apply rep_iterT h1
    intro a3 xs4 _ an5 hp6 hl7
    refine fun L8 nl9 => ?_
    have nm23 := nm_new hW nl9
    refine lc_tupG (L := L8) (fun n_ ys_ h_ => Wd (L8 :: ms) [] [] H_0 h_ ∧ Keep (L8 :: ms) H_0 h_ ∧ MutO (L8 :: ms) [] H_0 h_ L8 (D.lst (ys_.map (fun y_ : Int => (D.v (V.int y_))))) ∧ ys_.length ≤ n_) (items := x_self) (e := (fun y_ : (Int × Int × Str) => (D.tup [(D.v (V.int y_.1)), (D.v (V.int y_.2.1)), (D.v (V.str y_.2.2))]))) an5 hp6 hl7 nl9 (fun _ _ _ q_ => q_.2.1) hM ⟨wd_cell hW nl9, keep_cell nl9 Keep.refl, mo_newL (ds := []) hW nl9 repL_nil, Nat.le_refl _⟩ ?_ ?_
    · skip
      rintro x19 u20 n10 ys11 k12 H24 hn ⟨hW, hk13, mu14, ln15⟩ h21 hM Nx18 hN16
      replace h_self := rep_keep hk13 (rep_new nl9 h_self)
      replace h1 := rep_keep hk13 (rep_new nl9 h1)
      refine ⟨rfl, ?_⟩
      refine tyes_of ?_
      refine ⟨_, rfl, ?_⟩
      apply rep_ixT 1 h21 rfl rfl
      intro u26 h25
      obtain rfl := of_v h25
      refine mo_end mu14 hn (by rw [List.length_map]; exact ln15) fun vs27 hr28 => ?_
      have mk30 := mo_setL mu14 (repL_snoc (e := (fun y_ : Int => (D.v (V.int y_)))) (xs := ys11) (y := x19.2.1) hr28 rep_v)
      replace h_self := rep_put (o := .lst (vs27 ++ [V.int x19.2.1])) mu14.im h_self
      replace h1 := rep_put (o := .lst (vs27 ++ [V.int x19.2.1])) mu14.im h1
      replace hk13 := keep_put (o := .lst (vs27 ++ [V.int x19.2.1])) mu14.im hk13
      replace h21 := rep_put (o := .lst (vs27 ++ [V.int x19.2.1])) mu14.im h21
      replace hW := wd_put (o := .lst (vs27 ++ [V.int x19.2.1])) hW mu14
      replace mu14 := mk30
      generalize upd H24 L8 (.lst (vs27 ++ [V.int x19.2.1])) = H31 at *
      replace mu14 : MutO (L8 :: ms) [] H_0 H31 L8 (D.lst ((ys11 ++ [x19.2.1]).map (fun y_ : Int => (D.v (V.int y_))))) := mu14
      clear mk30
      exact hN16 x19.2.1 _ hM ⟨hW, hk13, mu14, by rw [List.length_append]; exact Nat.add_le_add_right ln15 1⟩
    · skip
      rintro n10 ys32 H33 hM ⟨hW, hk13, mu14, ln15⟩
      replace h_self := rep_keep hk13 (rep_new nl9 h_self)
      replace h1 := rep_keep hk13 (rep_new nl9 h1)
      clear hk13 ln15
      have h34 := mo_rep_dr dr_here nm23 mu14
      replace hW := wd_dr dr_here mu14.hp hW
      replace h_self := rep_dr dr_here h_self
      replace h1 := rep_dr dr_here h1
      clear mu14
      obtain ⟨g35, hM⟩ := hM
      apply rep_minL h34 g35
      intro y36 h37 h38
      replace hM := hM y36 h37 h38
      exact hQ y36 _ _ hM hW.out rep_v
def M_Picture_str (x_self : (List (Int × Int × Str))) (KM : Str → Prop) : Prop :=
  (x_self.length < 100000 ∧ mapC (fun (x19 : (Int × Int × Str)) (k12 : Str → Prop) => (Nat.log2 (Int.natAbs x19.1) < 1920 ∧ ((Str.empty ++ (Str.ofString (toString (x19.1 : Int)))).length ≤ sizeLine ∧ (((Str.empty ++ (Str.ofString (toString (x19.1 : Int)))) ++ ("@" : Str)).length ≤ sizeLine ∧ (Nat.log2 (Int.natAbs x19.2.1) < 1920 ∧ ((((Str.empty ++ (Str.ofString (toString (x19.1 : Int)))) ++ ("@" : Str)) ++ (Str.ofString (toString (x19.2.1 : Int)))).length ≤ sizeLine ∧ (((((Str.empty ++ (Str.ofString (toString (x19.1 : Int)))) ++ ("@" : Str)) ++ (Str.ofString (toString (x19.2.1 : Int)))) ++ ("=" : Str)).length ≤ sizeLine ∧ (x19.2.2.length ≤ sizeLine ∧ ((((((Str.empty ++ (Str.ofString (toString (x19.1 : Int)))) ++ ("@" : Str)) ++ (Str.ofString (toString (x19.2.1 : Int)))) ++ ("=" : Str)) ++ x19.2.2).length ≤ sizeLine ∧ (k12 (((((Str.empty ++ (Str.ofString (toString (x19.1 : Int)))) ++ ("@" : Str)) ++ (Str.ofString (toString (x19.2.1 : Int)))) ++ ("=" : Str)) ++ x19.2.2))))))))))) x_self [] fun ys52 => ((ys52.map (·.length)).sum + ys52.length * (" " : Str).length ≤ 16777216 ∧ (KM (Txt.join (" " : Str) ys52))))
def sp_Picture_str (A : Ad) : Sp := fun vs H Q _ => ∃ (ms : List Addr) (v_self : V) (x_self : (List (Int × Int × Str))) (KM : Str → Prop), vs = [v_self] ∧ Wd ms [] [] H H ∧ rep ms H (ePicture A x_self) v_self ∧ M_Picture_str x_self KM ∧ ∀ (r : Str) (u : V) (H1 : Hp), KM r → Ret [] H H1 → rep ms H1 (D.v (V.str r)) u → Q u H1
set_option maxHeartbeats 16000000 in
theorem ok_Picture_str {P : Program} {w : World} {K : PySem.W.Frag} {mg : Str → Option Value} {base : Heap} {A : Ad} (T : Txt w K mg A) : FnOk P w K mg base CX0 1 A.a_Picture_str A.d_Picture_str ["self"] (sp_Picture_str A) := by
  refine T.F_Picture_str.ok sc_Picture_str (fun vs H Q E h => ?_) (fun cdv A_ outer s_ H_0 vs Q E hr h => ?_)
  · obtain ⟨ms, v_self, x_self, KM, rfl, _⟩ := h
    rfl
  · obtain ⟨ms, v_self, x_self, KM, rfl, hW, h_self, hM, hQ⟩ := h
    unfold M_Picture_str at hM
    refine ⟨_, (pss_one (ps_ret (pe_join pe_str (pe_lc (own := [("team", 1), ("later", 2), ("mark", 3)]) (g := (gTup K 3 (gCons (gName 1) (gCons (gName 2) (gCons (gName 3) gNil))))) rfl sc_Picture_str.nd (pi_tup (pe_fld (pv 0) rfl)) (blkOk_by (N := ["self", "team", "later", "mark"]) (sc := defScope s_Picture_str) (by decide +kernel)) (fun _ _ _ _ _ => (pg_tup rfl (pgs_cons (pg_name (i := 1) sc_Picture_str.nd rfl (by first | exact Or.inl rfl | exact Or.inr rfl)) (pgs_cons (pg_name (i := 2) sc_Picture_str.nd rfl (by first | exact Or.inl rfl | exact Or.inr rfl)) (pgs_cons (pg_name (i := 3) sc_Picture_str.nd rfl (by first | exact Or.inl rfl | exact Or.inr rfl)) pgs_nil))))) (fun _ _ _ _ _ => pts_nil) (fun _ _ _ _ _ => (pe_joinedF (.cons (pe_fmt (pv 1)) (.cons pe_str (.cons (pe_fmt (pv 2)) (.cons pe_str (.cons (pe_fmt (pv 3)) .nil))))))))))), ?_⟩
    refine ⟨⟨_, rfl⟩, ?_⟩
    refine ⟨_, rfl, ?_⟩
    apply rep_fld (j := 0) h_self T.cl_Picture T.na_Picture__cells nd_Picture rfl rfl
    intro u2 h1
    apply rep_iterT h1
    intro a3 xs4 _ an5 hp6 hl7
    refine fun L8 nl9 => ?_
    have nm23 := nm_new hW nl9
    refine lc_tupG (L := L8) (fun n_ ys_ h_ => Wd (L8 :: ms) [] [] H_0 h_ ∧ Keep (L8 :: ms) H_0 h_ ∧ MutO (L8 :: ms) [] H_0 h_ L8 (D.lst (ys_.map (fun y_ : Str => (D.v (V.str y_))))) ∧ ys_.length ≤ n_) (items := x_self) (e := (fun y_ : (Int × Int × Str) => (D.tup [(D.v (V.int y_.1)), (D.v (V.int y_.2.1)), (D.v (V.str y_.2.2))]))) an5 hp6 hl7 nl9 (fun _ _ _ q_ => q_.2.1) hM ⟨wd_cell hW nl9, keep_cell nl9 Keep.refl, mo_newL (ds := []) hW nl9 repL_nil, Nat.le_refl _⟩ ?_ ?_
    · skip
      rintro x19 u20 n10 ys11 k12 H24 hn ⟨hW, hk13, mu14, ln15⟩ h21 hM Nx18 hN16
      replace h_self := rep_keep hk13 (rep_new nl9 h_self)
      replace h1 := rep_keep hk13 (rep_new nl9 h1)
      apply rep_gtup h21 rfl
      intro vs25 hv26
      obtain ⟨u27, us28, rfl, h29, hv30⟩ := repL_uncons hv26
      obtain rfl := of_v h29
      obtain ⟨u31, us32, rfl, h33, hv34⟩ := repL_uncons hv30
      obtain rfl := of_v h33
      obtain ⟨u35, us36, rfl, h37, hv38⟩ := repL_uncons hv34
      obtain rfl := of_v h37
      obtain rfl := repL_empty hv38
      refine ⟨_, _, rfl, ?_⟩
      refine ⟨_, _, rfl, ?_⟩
      refine ⟨_, _, rfl, ?_⟩
      refine ⟨rfl, ?_⟩
      refine ⟨rfl, ?_⟩
      refine tyes_of ?_
      refine ⟨_, rfl, ?_⟩
      obtain ⟨g39, hM⟩ := hM
      refine .inr ⟨_, rfl, g39, ?_⟩
      obtain ⟨g40, hM⟩ := hM
      refine ⟨_, rfl, g40, ?_⟩
      obtain ⟨g41, hM⟩ := hM
      refine ⟨_, rfl, g41, ?_⟩
      refine ⟨_, rfl, ?_⟩
      obtain ⟨g42, hM⟩ := hM
      refine .inr ⟨_, rfl, g42, ?_⟩
      obtain ⟨g43, hM⟩ := hM
      refine ⟨_, rfl, g43, ?_⟩
      obtain ⟨g44, hM⟩ := hM
      refine ⟨_, rfl, g44, ?_⟩
      refine ⟨_, rfl, ?_⟩
      obtain ⟨g45, hM⟩ := hM
      refine .inl ⟨_, rfl, g45, ?_⟩
      obtain ⟨g46, hM⟩ := hM
      refine ⟨_, rfl, g46, ?_⟩
      refine mo_end mu14 hn (by rw [List.length_map]; exact ln15) fun vs47 hr48 => ?_
      have mk50 := mo_setL mu14 (repL_snoc (e := (fun y_ : Str => (D.v (V.str y_)))) (xs := ys11) (y := (((((Str.empty ++ (Str.ofString (toString (x19.1 : Int)))) ++ ("@" : Str)) ++ (Str.ofString (toString (x19.2.1 : Int)))) ++ ("=" : Str)) ++ x19.2.2)) hr48 rep_v)
      replace h_self := rep_put (o := .lst (vs47 ++ [V.str (((((Str.empty ++ (Str.ofString (toString (x19.1 : Int)))) ++ ("@" : Str)) ++ (Str.ofString (toString (x19.2.1 : Int)))) ++ ("=" : Str)) ++ x19.2.2)])) mu14.im h_self
      replace h1 := rep_put (o := .lst (vs47 ++ [V.str (((((Str.empty ++ (Str.ofString (toString (x19.1 : Int)))) ++ ("@" : Str)) ++ (Str.ofString (toString (x19.2.1 : Int)))) ++ ("=" : Str)) ++ x19.2.2)])) mu14.im h1
      replace hk13 := keep_put (o := .lst (vs47 ++ [V.str (((((Str.empty ++ (Str.ofString (toString (x19.1 : Int)))) ++ ("@" : Str)) ++ (Str.ofString (toString (x19.2.1 : Int)))) ++ ("=" : Str)) ++ x19.2.2)])) mu14.im hk13
      replace h21 := rep_put (o := .lst (vs47 ++ [V.str (((((Str.empty ++ (Str.ofString (toString (x19.1 : Int)))) ++ ("@" : Str)) ++ (Str.ofString (toString (x19.2.1 : Int)))) ++ ("=" : Str)) ++ x19.2.2)])) mu14.im h21
      replace hW := wd_put (o := .lst (vs47 ++ [V.str (((((Str.empty ++ (Str.ofString (toString (x19.1 : Int)))) ++ ("@" : Str)) ++ (Str.ofString (toString (x19.2.1 : Int)))) ++ ("=" : Str)) ++ x19.2.2)])) hW mu14
      replace mu14 := mk50
      generalize upd H24 L8 (.lst (vs47 ++ [V.str (((((Str.empty ++ (Str.ofString (toString (x19.1 : Int)))) ++ ("@" : Str)) ++ (Str.ofString (toString (x19.2.1 : Int)))) ++ ("=" : Str)) ++ x19.2.2)])) = H51 at *
      replace mu14 : MutO (L8 :: ms) [] H_0 H51 L8 (D.lst ((ys11 ++ [(((((Str.empty ++ (Str.ofString (toString (x19.1 : Int)))) ++ ("@" : Str)) ++ (Str.ofString (toString (x19.2.1 : Int)))) ++ ("=" : Str)) ++ x19.2.2)]).map (fun y_ : Str => (D.v (V.str y_))))) := mu14
      clear mk50
      exact hN16 (((((Str.empty ++ (Str.ofString (toString (x19.1 : Int)))) ++ ("@" : Str)) ++ (Str.ofString (toString (x19.2.1 : Int)))) ++ ("=" : Str)) ++ x19.2.2) _ hM ⟨hW, hk13, mu14, by rw [List.length_append]; exact Nat.add_le_add_right ln15 1⟩
    · skip
      rintro n10 ys52 H53 hM ⟨hW, hk13, mu14, ln15⟩
      replace h_self := rep_keep hk13 (rep_new nl9 h_self)
      replace h1 := rep_keep hk13 (rep_new nl9 h1)
      clear hk13 ln15
      have h54 := mo_rep_dr dr_here nm23 mu14
      replace hW := wd_dr dr_here mu14.hp hW
      replace h_self := rep_dr dr_here h_self
      replace h1 := rep_dr dr_here h1
      clear mu14
      obtain ⟨g55, hM⟩ := hM
      apply rep_join (a := (" " : Str)) (ys := ys52) h54 g55
      exact hQ (Txt.join (" " : Str) ys52) _ _ hM hW.out rep_v
def M_Picture_repr (x_self : (List (Int × Int × Str))) (KM : Str → Prop) : Prop :=
  ((Str.empty ++ ("Picture(" : Str)).length ≤ sizeLine ∧ ((plainD (D.lst (x_self.map (fun y_ : (Int × Int × Str) => (D.tup [(D.v (V.int y_.1)), (D.v (V.int y_.2.1)), (D.v (V.str y_.2.2))])))) = true ∧ (pyOf (D.lst (x_self.map (fun y_ : (Int × Int × Str) => (D.tup [(D.v (V.int y_.1)), (D.v (V.int y_.2.1)), (D.v (V.str y_.2.2))]))))).showable = true ∧ (pyOf (D.lst (x_self.map (fun y_ : (Int × Int × Str) => (D.tup [(D.v (V.int y_.1)), (D.v (V.int y_.2.1)), (D.v (V.str y_.2.2))]))))).hasDict = false ∧ (pyOf (D.lst (x_self.map (fun y_ : (Int × Int × Str) => (D.tup [(D.v (V.int y_.1)), (D.v (V.int y_.2.1)), (D.v (V.str y_.2.2))]))))).depth ≤ 60 ∧ (pyOf (D.lst (x_self.map (fun y_ : (Int × Int × Str) => (D.tup [(D.v (V.int y_.1)), (D.v (V.int y_.2.1)), (D.v (V.str y_.2.2))]))))).shown.length ≤ sizeLine) ∧ (((Str.empty ++ ("Picture(" : Str)) ++ (pyOf (D.lst (x_self.map (fun y_ : (Int × Int × Str) => (D.tup [(D.v (V.int y_.1)), (D.v (V.int y_.2.1)), (D.v (V.str y_.2.2))]))))).shown).length ≤ sizeLine ∧ ((((Str.empty ++ ("Picture(" : Str)) ++ (pyOf (D.lst (x_self.map (fun y_ : (Int × Int × Str) => (D.tup [(D.v (V.int y_.1)), (D.v (V.int y_.2.1)), (D.v (V.str y_.2.2))]))))).shown) ++ (")" : Str)).length ≤ sizeLine ∧ (KM (((Str.empty ++ ("Picture(" : Str)) ++ (pyOf (D.lst (x_self.map (fun y_ : (Int × Int × Str) => (D.tup [(D.v (V.int y_.1)), (D.v (V.int y_.2.1)), (D.v (V.str y_.2.2))]))))).shown) ++ (")" : Str)))))))
def sp_Picture_repr (A : Ad) : Sp := fun vs H Q _ => ∃ (ms : List Addr) (v_self : V) (x_self : (List (Int × Int × Str))) (KM : Str → Prop), vs = [v_self] ∧ Wd ms [] [] H H ∧ rep ms H (ePicture A x_self) v_self ∧ M_Picture_repr x_self KM ∧ ∀ (r : Str) (u : V) (H1 : Hp), KM r → Ret [] H H1 → rep ms H1 (D.v (V.str r)) u → Q u H1
set_option maxHeartbeats 16000000 in
theorem ok_Picture_repr {P : Program} {w : World} {K : PySem.W.Frag} {mg : Str → Option Value} {base : Heap} {A : Ad} (T : Txt w K mg A) : FnG P w K mg base 1 A.a_Picture_repr A.d_Picture_repr ["self"] (sp_Picture_repr A) := by
  refine okG T.F_Picture_repr sc_Picture_repr (fun vs H Q E h => ?_) (fun cdv A_ outer s_ H_0 vs Q E gu hr h => ?_)
  · obtain ⟨ms, v_self, x_self, KM, rfl, _⟩ := h
    rfl
  · obtain ⟨ms, v_self, x_self, KM, rfl, hW, h_self, hM, hQ⟩ := h
    unfold M_Picture_repr at hM
    refine ⟨_, (pss_one (ps_ret (pe_joinedF (.cons pe_str (.cons (pe_fmtD (K := K) rfl gu hr (pe_callTy (call_list_ofK (K := K) rfl) (by rfl) T.z_list (by decide +kernel) (pa_cons (pe_fld (pv 0) rfl) pa_nil))) (.cons pe_str .nil)))))), ?_⟩
    obtain ⟨g1, hM⟩ := hM
    refine ⟨_, rfl, g1, ?_⟩
    refine ⟨_, rfl, ?_⟩
    apply rep_fld (j := 0) h_self T.cl_Picture T.na_Picture__cells nd_Picture rfl rfl
    intro u3 h2
    apply rep_listT h2
    intro ys4 hr5
    intro p6 n7
    have e8 := Rx.Ext.new (H := H_0) (o := (HO.lst ys4)) n7
    have hp9 : upd H_0 p6 (HO.lst ys4) p6 = some (HO.lst ys4) := upd_same
    generalize upd H_0 p6 (HO.lst ys4) = H12 at e8 hp9 ⊢
    have h10 : rep ms H12 (D.lst (x_self.map (fun y_ : (Int × Int × Str) => (D.tup [(D.v (V.int y_.1)), (D.v (V.int y_.2.1)), (D.v (V.str y_.2.2))])))) (.ref p6) := rep_lst_mk hW n7 e8 hp9 hr5
    replace h_self := rep_ext e8 h_self
    replace h2 := rep_ext e8 h2
    replace hW := hW.ret0 e8
    obtain ⟨g13, hM⟩ := hM
    apply rep_fmtD (d := (D.lst (x_self.map (fun y_ : (Int × Int × Str) => (D.tup [(D.v (V.int y_.1)), (D.v (V.int y_.2.1)), (D.v (V.str y_.2.2))]))))) h10 (rep_refL h10) g13
    obtain ⟨g14, hM⟩ := hM
    refine ⟨_, rfl, g14, ?_⟩
    obtain ⟨g15, hM⟩ := hM
    refine ⟨_, rfl, g15, ?_⟩
    exact hQ (((Str.empty ++ ("Picture(" : Str)) ++ (pyOf (D.lst (x_self.map (fun y_ : (Int × Int × Str) => (D.tup [(D.v (V.int y_.1)), (D.v (V.int y_.2.1)), (D.v (V.str y_.2.2))]))))).shown) ++ (")" : Str)) _ _ hM hW.out rep_v
def M_told_right (x_shape : (List (Int × Int × Str))) (x_some : (List (Int × Int × Str))) (KM : Bool → Prop) : Prop :=
  (M_order x_some fun r1 => (r1.length < 100000 ∧ mapC (fun (x22 : (Int × Int × Str)) (k15 : Str → Prop) => (Nat.log2 (Int.natAbs x22.1) < 1920 ∧ (((Str.ofString (toString (x22.1 : Int))).length + ("@" : Str).length ≤ sizeLine) ∧ (Nat.log2 (Int.natAbs x22.2.1) < 1920 ∧ ((((Str.ofString (toString (x22.1 : Int))) ++ ("@" : Str)).length + (Str.ofString (toString (x22.2.1 : Int))).length ≤ sizeLine) ∧ (((((Str.ofString (toString (x22.1 : Int))) ++ ("@" : Str)) ++ (Str.ofString (toString (x22.2.1 : Int)))).length + ("=" : Str).length ≤ sizeLine) ∧ ((((((Str.ofString (toString (x22.1 : Int))) ++ ("@" : Str)) ++ (Str.ofString (toString (x22.2.1 : Int)))) ++ ("=" : Str)).length + x22.2.2.length ≤ sizeLine) ∧ (k15 (((((Str.ofString (toString (x22.1 : Int))) ++ ("@" : Str)) ++ (Str.ofString (toString (x22.2.1 : Int)))) ++ ("=" : Str)) ++ x22.2.2))))))))) r1 [] fun ys53 => ((ys53.map (·.length)).sum + ys53.length * (" " : Str).length ≤ 16777216 ∧ (M_Picture_cells x_shape fun r58 => ((plainD (D.tup (r58.map (fun y_ : (Int × Int × Str) => (D.tup [(D.v (V.int y_.1)), (D.v (V.int y_.2.1)), (D.v (V.str y_.2.2))])))) = true ∧ (pyOf (D.tup (r58.map (fun y_ : (Int × Int × Str) => (D.tup [(D.v (V.int y_.1)), (D.v (V.int y_.2.1)), (D.v (V.str y_.2.2))]))))).showable = true ∧ (pyOf (D.tup (r58.map (fun y_ : (Int × Int × Str) => (D.tup [(D.v (V.int y_.1)), (D.v (V.int y_.2.1)), (D.v (V.str y_.2.2))]))))).hasDict = false ∧ (pyOf (D.tup (r58.map (fun y_ : (Int × Int × Str) => (D.tup [(D.v (V.int y_.1)), (D.v (V.int y_.2.1)), (D.v (V.str y_.2.2))]))))).depth ≤ 60 ∧ (pyOf (D.tup (r58.map (fun y_ : (Int × Int × Str) => (D.tup [(D.v (V.int y_.1)), (D.v (V.int y_.2.1)), (D.v (V.str y_.2.2))]))))).shown.length ≤ sizeLine) ∧ ((plainD (D.tup (r1.map (fun y_ : (Int × Int × Str) => (D.tup [(D.v (V.int y_.1)), (D.v (V.int y_.2.1)), (D.v (V.str y_.2.2))])))) = true ∧ (pyOf (D.tup (r1.map (fun y_ : (Int × Int × Str) => (D.tup [(D.v (V.int y_.1)), (D.v (V.int y_.2.1)), (D.v (V.str y_.2.2))]))))).showable = true ∧ (pyOf (D.tup (r1.map (fun y_ : (Int × Int × Str) => (D.tup [(D.v (V.int y_.1)), (D.v (V.int y_.2.1)), (D.v (V.str y_.2.2))]))))).hasDict = false ∧ (pyOf (D.tup (r1.map (fun y_ : (Int × Int × Str) => (D.tup [(D.v (V.int y_.1)), (D.v (V.int y_.2.1)), (D.v (V.str y_.2.2))]))))).depth ≤ 60 ∧ (pyOf (D.tup (r1.map (fun y_ : (Int × Int × Str) => (D.tup [(D.v (V.int y_.1)), (D.v (V.int y_.2.1)), (D.v (V.str y_.2.2))]))))).shown.length ≤ sizeLine) ∧ (if (!(decide (V.str (pyOf (D.tup (r58.map (fun y_ : (Int × Int × Str) => (D.tup [(D.v (V.int y_.1)), (D.v (V.int y_.2.1)), (D.v (V.str y_.2.2))]))))).shown = V.str (pyOf (D.tup (r1.map (fun y_ : (Int × Int × Str) => (D.tup [(D.v (V.int y_.1)), (D.v (V.int y_.2.1)), (D.v (V.str y_.2.2))]))))).shown))) = true then (KM false) else (M_Picture_span x_shape fun r74 => ((plainD (D.v (V.int r74)) = true ∧ (pyOf (D.v (V.int r74))).showable = true ∧ (pyOf (D.v (V.int r74))).hasDict = false ∧ (pyOf (D.v (V.int r74))).depth ≤ 60 ∧ (pyOf (D.v (V.int r74))).shown.length ≤ sizeLine) ∧ (r1.length < 100000 ∧ mapC (fun (x96 : (Int × Int × Str)) (k89 : Int → Prop) => (k89 x96.2.1)) r1 [] fun ys121 => (0 < ys121.length ∧ ∀ y125 : Int, y125 ∈ ys121 → (∀ z_ ∈ ys121, z_ ≤ y125) → ((plainD (D.v (V.int y125)) = true ∧ (pyOf (D.v (V.int y125))).showable = true ∧ (pyOf (D.v (V.int y125))).hasDict = false ∧ (pyOf (D.v (V.int y125))).depth ≤ 60 ∧ (pyOf (D.v (V.int y125))).shown.length ≤ sizeLine) ∧ (if (!(decide (V.str (pyOf (D.v (V.int r74))).shown = V.str (pyOf (D.v (V.int y125))).shown))) = true then (KM false) else (M_Picture_str x_shape fun r129 => (if (decide (V.str r129 = V.str (Txt.join (" " : Str) ys53))) = true then (M_Picture_repr x_shape fun r134 => ((plainD (D.lst (r1.map (fun y_ : (Int × Int × Str) => (D.tup [(D.v (V.int y_.1)), (D.v (V.int y_.2.1)), (D.v (V.str y_.2.2))])))) = true ∧ (pyOf (D.lst (r1.map (fun y_ : (Int × Int × Str) => (D.tup [(D.v (V.int y_.1)), (D.v (V.int y_.2.1)), (D.v (V.str y_.2.2))]))))).showable = true ∧ (pyOf (D.lst (r1.map (fun y_ : (Int × Int × Str) => (D.tup [(D.v (V.int y_.1)), (D.v (V.int y_.2.1)), (D.v (V.str y_.2.2))]))))).hasDict = false ∧ (pyOf (D.lst (r1.map (fun y_ : (Int × Int × Str) => (D.tup [(D.v (V.int y_.1)), (D.v (V.int y_.2.1)), (D.v (V.str y_.2.2))]))))).depth ≤ 60 ∧ (pyOf (D.lst (r1.map (fun y_ : (Int × Int × Str) => (D.tup [(D.v (V.int y_.1)), (D.v (V.int y_.2.1)), (D.v (V.str y_.2.2))]))))).shown.length ≤ sizeLine) ∧ ((("Picture(" : Str).length + (pyOf (D.lst (r1.map (fun y_ : (Int × Int × Str) => (D.tup [(D.v (V.int y_.1)), (D.v (V.int y_.2.1)), (D.v (V.str y_.2.2))]))))).shown.length ≤ sizeLine) ∧ (((("Picture(" : Str) ++ (pyOf (D.lst (r1.map (fun y_ : (Int × Int × Str) => (D.tup [(D.v (V.int y_.1)), (D.v (V.int y_.2.1)), (D.v (V.str y_.2.2))]))))).shown).length + (")" : Str).length ≤ sizeLine) ∧ (KM (decide (V.str r134 = V.str ((("Picture(" : Str) ++ (pyOf (D.lst (r1.map (fun y_ : (Int × Int × Str) => (D.tup [(D.v (V.int y_.1)), (D.v (V.int y_.2.1)), (D.v (V.str y_.2.2))]))))).shown) ++ (")" : Str))))))))) else (KM false))))))))))))))))
def sp_told_right (A : Ad) : Sp := fun vs H Q _ => ∃ (ms : List Addr) (v_shape : V) (v_some : V) (x_shape : (List (Int × Int × Str))) (x_some : (List (Int × Int × Str))) (KM : Bool → Prop), vs = [v_shape, v_some] ∧ Wd ms [] [] H H ∧ rep ms H (ePicture A x_shape) v_shape ∧ rep ms H (D.lst (x_some.map (fun y_ : (Int × Int × Str) => (D.tup [(D.v (V.int y_.1)), (D.v (V.int y_.2.1)), (D.v (V.str y_.2.2))])))) v_some ∧ M_told_right x_shape x_some KM ∧ ∀ (r : Bool) (u : V) (H1 : Hp), KM r → Ret [] H H1 → rep ms H1 (D.v (V.bl r)) u → Q u H1
set_option maxHeartbeats 16000000 in
theorem ok_told_right {P : Program} {w : World} {K : PySem.W.Frag} {mg : Str → Option Value} {base : Heap} {A : Ad} (T : Txt w K mg A) : FnG P w K mg base 4 A.a_told_right A.d_told_right ["_law_shape", "_law_some"] (sp_told_right A) := by
  refine okG T.F_told_right sc_told_right (fun vs H Q E h => ?_) (fun cdv A_ outer s_ H_0 vs Q E gu hr h => ?_)
  · obtain ⟨ms, v_shape, v_some, x_shape, x_some, KM, rfl, _⟩ := h
    rfl
  · obtain ⟨ms, v_shape, v_some, x_shape, x_some, KM, rfl, hW, h_shape, h_some, hM, hQ⟩ := h
    unfold M_told_right at hM
    refine ⟨_, (pss_cons (ps_set (i := 2) sc_told_right.nd rfl (by first | exact Or.inl rfl | exact Or.inr rfl) (pe_call (ok_order T) (hr.mono (by decide)) (by rfl) T.g_order T.F_order.kp T.b_order .nil pass0 (pa_cons (pv 1) pa_nil))) (pss_cons (ps_set (i := 3) sc_told_right.nd rfl (by first | exact Or.inl rfl | exact Or.inr rfl) (pe_join pe_str (pe_lc (own := [("_law_who", 4), ("_law_later", 5), ("_law_mark", 6)]) (g := (gTup K 3 (gCons (gName 4) (gCons (gName 5) (gCons (gName 6) gNil))))) rfl sc_told_right.nd (pi_list (pv 2)) (blkOk_by (N := ["_law_shape", "_law_some", "_law_due", "_law_text_now", "_law_who", "_law_later", "_law_mark"]) (sc := defScope s_told_right) (by decide +kernel)) (fun _ _ _ _ _ => (pg_tup rfl (pgs_cons (pg_name (i := 4) sc_told_right.nd rfl (by first | exact Or.inl rfl | exact Or.inr rfl)) (pgs_cons (pg_name (i := 5) sc_told_right.nd rfl (by first | exact Or.inl rfl | exact Or.inr rfl)) (pgs_cons (pg_name (i := 6) sc_told_right.nd rfl (by first | exact Or.inl rfl | exact Or.inr rfl)) pgs_nil))))) (fun _ _ _ _ _ => pts_nil) (fun _ _ _ _ _ => (pe_op op_add_str (pe_op op_add_str (pe_op op_add_str (pe_op op_add_str (pe_callTy call_str_int (by rfl) T.z_str (by decide +kernel) (pa_cons (pv 4) pa_nil)) pe_str) (pe_callTy call_str_int (by rfl) T.z_str (by decide +kernel) (pa_cons (pv 5) pa_nil))) pe_str) (pv 6)))))) (pss_cons (ps_if (PW.pt (pw_or (pt_cmpR op_ne (pe_callB (call_reprAK (K := K) rfl gu hr) (by rfl) T.z_repr (by decide +kernel) (pa_cons (pe_prop (pv 0) T.cl_Picture T.p_Picture_cells (ok_Picture_cells T) (hr.mono (by decide)) T.b_Picture_cells .nil pass0 rfl) pa_nil)) (pe_callB (call_reprAK (K := K) rfl gu hr) (by rfl) T.z_repr (by decide +kernel) (pa_cons (pe_callTy (call_tuple_ofK (K := K) rfl) (by rfl) T.z_tuple (by decide +kernel) (pa_cons (pv 2) pa_nil)) pa_nil)) (nomark _)) (pw_or1 (pt_cmpR op_ne (pe_callB (call_reprAK (K := K) rfl gu hr) (by rfl) T.z_repr (by decide +kernel) (pa_cons (pe_prop (pv 0) T.cl_Picture T.p_Picture_span (ok_Picture_span T) (hr.mono (by decide)) T.b_Picture_span .nil pass0 rfl) pa_nil)) (pe_callB (call_reprAK (K := K) rfl gu hr) (by rfl) T.z_repr (by decide +kernel) (pa_cons (pe_callB (cr_maxK (K := K) rfl rfl) (by rfl) T.z_max (by decide +kernel) (pa_cons (pe_lc (own := [("_law_who", 4), ("_law_later", 5), ("_law_mark", 6)]) (g := (gTup K 3 (gCons (gName 4) (gCons (gName 5) (gCons (gName 6) gNil))))) rfl sc_told_right.nd (pi_list (pv 2)) (blkOk_by (N := ["_law_shape", "_law_some", "_law_due", "_law_text_now", "_law_who", "_law_later", "_law_mark"]) (sc := defScope s_told_right) (by decide +kernel)) (fun _ _ _ _ _ => (pg_tup rfl (pgs_cons (pg_name (i := 4) sc_told_right.nd rfl (by first | exact Or.inl rfl | exact Or.inr rfl)) (pgs_cons (pg_name (i := 5) sc_told_right.nd rfl (by first | exact Or.inl rfl | exact Or.inr rfl)) (pgs_cons (pg_name (i := 6) sc_told_right.nd rfl (by first | exact Or.inl rfl | exact Or.inr rfl)) pgs_nil))))) (fun _ _ _ _ _ => pts_nil) (fun _ _ _ _ _ => (pv 5))) pa_nil)) pa_nil)) (nomark _))))) (pss_one (ps_ret pe_bl)) pss_nil) (pss_one (ps_ret (pe_and (pe_cmpR op_eq (pe_callTy (call_strOwn (ok_Picture_str T) (hr.mono (by decide)) T.ow_Picture_str T.b_Picture_str pass0) (by rfl) T.z_str (by decide +kernel) (pa_cons (pv 0) pa_nil)) (pv 3) (nomark _)) (pe_one (pe_cmpR op_eq (pe_callB (call_reprOwnG (ok_Picture_repr T) gu (hr.mono (by decide)) T.ow_Picture_repr T.b_Picture_repr) (by rfl) T.z_repr (by decide +kernel) (pa_cons (pv 0) pa_nil)) (pe_op op_add_str (pe_op op_add_str pe_str (pe_callB (call_reprAK (K := K) rfl gu hr) (by rfl) T.z_repr (by decide +kernel) (pa_cons (pv 2) pa_nil))) pe_str) (nomark _))))))))), ?_⟩
    refine ⟨_, rfl, ?_⟩
    refine ⟨ms, _, x_some, _, rfl, hW.enter0, h_some, hM, fun r1 u4 H5 hM e3 h2 => ?_⟩
    replace h_shape := rep_ext e3 h_shape
    replace h_some := rep_ext e3 h_some
    replace hW := hW.ret0 e3
    refine ⟨⟨_, rfl⟩, ?_⟩
    refine ⟨_, rfl, ?_⟩
    apply rep_iter h2
    intro a6 xs7 _ an8 hp9 hl10
    refine fun L11 nl12 => ?_
    have nm26 := nm_new hW nl12
    refine lc_listG (L := L11) (fun n_ ys_ h_ => Wd (L11 :: ms) [] [] H_0 h_ ∧ Keep (L11 :: ms) H5 h_ ∧ MutO (L11 :: ms) [] H_0 h_ L11 (D.lst (ys_.map (fun y_ : Str => (D.v (V.str y_))))) ∧ ys_.length ≤ n_) (items := r1) (e := (fun y_ : (Int × Int × Str) => (D.tup [(D.v (V.int y_.1)), (D.v (V.int y_.2.1)), (D.v (V.str y_.2.2))]))) an8 hp9 hl10 nl12 (fun _ _ _ q_ => q_.2.1) hM ⟨wd_cell hW nl12, keep_cell nl12 Keep.refl, mo_newL (ds := []) hW nl12 repL_nil, Nat.le_refl _⟩ ?_ ?_
    · skip
      rintro x22 u23 n13 ys14 k15 H27 hn ⟨hW, hk16, mu17, ln18⟩ h24 hM Nx21 hN19
      replace h_shape := rep_keep hk16 (rep_new nl12 h_shape)
      replace h_some := rep_keep hk16 (rep_new nl12 h_some)
      replace h2 := rep_keep hk16 (rep_new nl12 h2)
      apply rep_gtup h24 rfl
      intro vs28 hv29
      obtain ⟨u30, us31, rfl, h32, hv33⟩ := repL_uncons hv29
      obtain rfl := of_v h32
      obtain ⟨u34, us35, rfl, h36, hv37⟩ := repL_uncons hv33
      obtain rfl := of_v h36
      obtain ⟨u38, us39, rfl, h40, hv41⟩ := repL_uncons hv37
      obtain rfl := of_v h40
      obtain rfl := repL_empty hv41
      refine ⟨_, _, rfl, ?_⟩
      refine ⟨_, _, rfl, ?_⟩
      refine ⟨_, _, rfl, ?_⟩
      refine ⟨rfl, ?_⟩
      refine ⟨rfl, ?_⟩
      refine tyes_of ?_
      refine ⟨_, rfl, ?_⟩
      obtain ⟨g42, hM⟩ := hM
      refine ⟨_, rfl, g42, ?_⟩
      obtain ⟨g43, hM⟩ := hM
      refine ⟨_, _, rfl, rfl, g43, ?_⟩
      refine ⟨_, rfl, ?_⟩
      obtain ⟨g44, hM⟩ := hM
      refine ⟨_, rfl, g44, ?_⟩
      obtain ⟨g45, hM⟩ := hM
      refine ⟨_, _, rfl, rfl, g45, ?_⟩
      obtain ⟨g46, hM⟩ := hM
      refine ⟨_, _, rfl, rfl, g46, ?_⟩
      refine ⟨_, rfl, ?_⟩
      obtain ⟨g47, hM⟩ := hM
      refine ⟨_, _, rfl, rfl, g47, ?_⟩
      refine mo_end mu17 hn (by rw [List.length_map]; exact ln18) fun vs48 hr49 => ?_
      have mk51 := mo_setL mu17 (repL_snoc (e := (fun y_ : Str => (D.v (V.str y_)))) (xs := ys14) (y := (((((Str.ofString (toString (x22.1 : Int))) ++ ("@" : Str)) ++ (Str.ofString (toString (x22.2.1 : Int)))) ++ ("=" : Str)) ++ x22.2.2)) hr49 rep_v)
      replace h_shape := rep_put (o := .lst (vs48 ++ [V.str (((((Str.ofString (toString (x22.1 : Int))) ++ ("@" : Str)) ++ (Str.ofString (toString (x22.2.1 : Int)))) ++ ("=" : Str)) ++ x22.2.2)])) mu17.im h_shape
      replace h_some := rep_put (o := .lst (vs48 ++ [V.str (((((Str.ofString (toString (x22.1 : Int))) ++ ("@" : Str)) ++ (Str.ofString (toString (x22.2.1 : Int)))) ++ ("=" : Str)) ++ x22.2.2)])) mu17.im h_some
      replace h2 := rep_put (o := .lst (vs48 ++ [V.str (((((Str.ofString (toString (x22.1 : Int))) ++ ("@" : Str)) ++ (Str.ofString (toString (x22.2.1 : Int)))) ++ ("=" : Str)) ++ x22.2.2)])) mu17.im h2
      replace hk16 := keep_put (o := .lst (vs48 ++ [V.str (((((Str.ofString (toString (x22.1 : Int))) ++ ("@" : Str)) ++ (Str.ofString (toString (x22.2.1 : Int)))) ++ ("=" : Str)) ++ x22.2.2)])) mu17.im hk16
      replace h24 := rep_put (o := .lst (vs48 ++ [V.str (((((Str.ofString (toString (x22.1 : Int))) ++ ("@" : Str)) ++ (Str.ofString (toString (x22.2.1 : Int)))) ++ ("=" : Str)) ++ x22.2.2)])) mu17.im h24
      replace hW := wd_put (o := .lst (vs48 ++ [V.str (((((Str.ofString (toString (x22.1 : Int))) ++ ("@" : Str)) ++ (Str.ofString (toString (x22.2.1 : Int)))) ++ ("=" : Str)) ++ x22.2.2)])) hW mu17
      replace mu17 := mk51
      generalize upd H27 L11 (.lst (vs48 ++ [V.str (((((Str.ofString (toString (x22.1 : Int))) ++ ("@" : Str)) ++ (Str.ofString (toString (x22.2.1 : Int)))) ++ ("=" : Str)) ++ x22.2.2)])) = H52 at *
      replace mu17 : MutO (L11 :: ms) [] H_0 H52 L11 (D.lst ((ys14 ++ [(((((Str.ofString (toString (x22.1 : Int))) ++ ("@" : Str)) ++ (Str.ofString (toString (x22.2.1 : Int)))) ++ ("=" : Str)) ++ x22.2.2)]).map (fun y_ : Str => (D.v (V.str y_))))) := mu17
      clear mk51
      exact hN19 (((((Str.ofString (toString (x22.1 : Int))) ++ ("@" : Str)) ++ (Str.ofString (toString (x22.2.1 : Int)))) ++ ("=" : Str)) ++ x22.2.2) _ hM ⟨hW, hk16, mu17, by rw [List.length_append]; exact Nat.add_le_add_right ln18 1⟩
    · skip
      rintro n13 ys53 H54 hM ⟨hW, hk16, mu17, ln18⟩
      replace h_shape := rep_keep hk16 (rep_new nl12 h_shape)
      replace h_some := rep_keep hk16 (rep_new nl12 h_some)
      replace h2 := rep_keep hk16 (rep_new nl12 h2)
      clear hk16 ln18
      have h55 := mo_rep_dr dr_here nm26 mu17
      replace hW := wd_dr dr_here mu17.hp hW
      replace h_shape := rep_dr dr_here h_shape
      replace h_some := rep_dr dr_here h_some
      replace h2 := rep_dr dr_here h2
      clear mu17
      obtain ⟨g56, hM⟩ := hM
      apply rep_join (a := (" " : Str)) (ys := ys53) h55 g56
      refine ⟨_, rfl, ?_⟩
      apply rep_prop h_shape
      intro _ h57
      refine ⟨ms, _, x_shape, _, rfl, hW.enter0, h57, hM, fun r58 u61 H62 hM e60 h59 => ?_⟩
      replace h_shape := rep_ext e60 h_shape
      replace h_some := rep_ext e60 h_some
      replace h2 := rep_ext e60 h2
      replace h55 := rep_ext e60 h55
      replace hW := hW.ret0 e60
      obtain ⟨g63, hM⟩ := hM
      apply rep_repr (d := (D.tup (r58.map (fun y_ : (Int × Int × Str) => (D.tup [(D.v (V.int y_.1)), (D.v (V.int y_.2.1)), (D.v (V.str y_.2.2))]))))) h59 g63.1 g63.2.1 g63.2.2.1 g63.2.2.2.1 g63.2.2.2.2
      refine ⟨_, rfl, ?_⟩
      apply rep_tupOf (ds := r1.map (fun y_ : (Int × Int × Str) => (D.tup [(D.v (V.int y_.1)), (D.v (V.int y_.2.1)), (D.v (V.str y_.2.2))]))) h2
      intro ys64 hr65
      intro p66 np67
      have e68 := Rx.Ext.new (H := H62) (o := (HO.tup ys64)) np67
      have hp69 : upd H62 p66 (HO.tup ys64) p66 = some (HO.tup ys64) := upd_same
      generalize upd H62 p66 (HO.tup ys64) = H71 at e68 hp69 ⊢
      have h70 : rep ms H71 (D.tup (r1.map (fun y_ : (Int × Int × Str) => (D.tup [(D.v (V.int y_.1)), (D.v (V.int y_.2.1)), (D.v (V.str y_.2.2))])))) (.ref p66) := rep_tup_mk hW np67 e68 hp69 hr65
      replace h_shape := rep_ext e68 h_shape
      replace h_some := rep_ext e68 h_some
      replace h2 := rep_ext e68 h2
      replace h55 := rep_ext e68 h55
      replace h59 := rep_ext e68 h59
      replace hW := hW.ret0 e68
      obtain ⟨g72, hM⟩ := hM
      apply rep_repr (d := (D.tup (r1.map (fun y_ : (Int × Int × Str) => (D.tup [(D.v (V.int y_.1)), (D.v (V.int y_.2.1)), (D.v (V.str y_.2.2))]))))) h70 g72.1 g72.2.1 g72.2.2.1 g72.2.2.2.1 g72.2.2.2.2
      refine ⟨rfl, ?_⟩
      refine ⟨_, rfl, ?_⟩
      refine ite3 hM (fun hM => ?_) (fun hM => ?_)
      · skip
        refine iteT ?_
        exact hQ false _ _ hM hW.out rep_v
      · skip
        refine ⟨_, rfl, ?_⟩
        apply rep_prop h_shape
        intro _ h73
        refine ⟨ms, _, x_shape, _, rfl, hW.enter0, h73, hM, fun r74 u77 H78 hM e76 h75 => ?_⟩
        replace h_shape := rep_ext e76 h_shape
        replace h_some := rep_ext e76 h_some
        replace h2 := rep_ext e76 h2
        replace h55 := rep_ext e76 h55
        replace h59 := rep_ext e76 h59
        replace h70 := rep_ext e76 h70
        replace hW := hW.ret0 e76
        obtain rfl := of_v h75
        obtain ⟨g79, hM⟩ := hM
        apply rep_repr (d := (D.v (V.int r74))) (rep_v (ms := ([] : List Addr))) g79.1 g79.2.1 g79.2.2.1 g79.2.2.2.1 g79.2.2.2.2
        refine ⟨_, rfl, ?_⟩
        apply rep_iter h2
        intro a80 xs81 _ an82 hp83 hl84
        refine fun L85 nl86 => ?_
        have nm100 := nm_new hW nl86
        refine lc_listG (L := L85) (fun n_ ys_ h_ => Wd (L85 :: ms) [] [] H_0 h_ ∧ Keep (L85 :: ms) H78 h_ ∧ MutO (L85 :: ms) [] H_0 h_ L85 (D.lst (ys_.map (fun y_ : Int => (D.v (V.int y_))))) ∧ ys_.length ≤ n_) (items := r1) (e := (fun y_ : (Int × Int × Str) => (D.tup [(D.v (V.int y_.1)), (D.v (V.int y_.2.1)), (D.v (V.str y_.2.2))]))) an82 hp83 hl84 nl86 (fun _ _ _ q_ => q_.2.1) hM ⟨wd_cell hW nl86, keep_cell nl86 Keep.refl, mo_newL (ds := []) hW nl86 repL_nil, Nat.le_refl _⟩ ?_ ?_
        · skip
          rintro x96 u97 n87 ys88 k89 H101 hn ⟨hW, hk90, mu91, ln92⟩ h98 hM Nx95 hN93
          replace h_shape := rep_keep hk90 (rep_new nl86 h_shape)
          replace h_some := rep_keep hk90 (rep_new nl86 h_some)
          replace h2 := rep_keep hk90 (rep_new nl86 h2)
          replace h55 := rep_keep hk90 (rep_new nl86 h55)
          replace h59 := rep_keep hk90 (rep_new nl86 h59)
          replace h70 := rep_keep hk90 (rep_new nl86 h70)
          apply rep_gtup h98 rfl
          intro vs102 hv103
          obtain ⟨u104, us105, rfl, h106, hv107⟩ := repL_uncons hv103
          obtain rfl := of_v h106
          obtain ⟨u108, us109, rfl, h110, hv111⟩ := repL_uncons hv107
          obtain rfl := of_v h110
          obtain ⟨u112, us113, rfl, h114, hv115⟩ := repL_uncons hv111
          obtain rfl := of_v h114
          obtain rfl := repL_empty hv115
          refine ⟨_, _, rfl, ?_⟩
          refine ⟨_, _, rfl, ?_⟩
          refine ⟨_, _, rfl, ?_⟩
          refine ⟨rfl, ?_⟩
          refine ⟨rfl, ?_⟩
          refine tyes_of ?_
          refine ⟨_, rfl, ?_⟩
          refine mo_end mu91 hn (by rw [List.length_map]; exact ln92) fun vs116 hr117 => ?_
          have mk119 := mo_setL mu91 (repL_snoc (e := (fun y_ : Int => (D.v (V.int y_)))) (xs := ys88) (y := x96.2.1) hr117 rep_v)
          replace h_shape := rep_put (o := .lst (vs116 ++ [V.int x96.2.1])) mu91.im h_shape
          replace h_some := rep_put (o := .lst (vs116 ++ [V.int x96.2.1])) mu91.im h_some
          replace h2 := rep_put (o := .lst (vs116 ++ [V.int x96.2.1])) mu91.im h2
          replace h55 := rep_put (o := .lst (vs116 ++ [V.int x96.2.1])) mu91.im h55
          replace h59 := rep_put (o := .lst (vs116 ++ [V.int x96.2.1])) mu91.im h59
          replace h70 := rep_put (o := .lst (vs116 ++ [V.int x96.2.1])) mu91.im h70
          replace hk90 := keep_put (o := .lst (vs116 ++ [V.int x96.2.1])) mu91.im hk90
          replace h98 := rep_put (o := .lst (vs116 ++ [V.int x96.2.1])) mu91.im h98
          replace hW := wd_put (o := .lst (vs116 ++ [V.int x96.2.1])) hW mu91
          replace mu91 := mk119
          generalize upd H101 L85 (.lst (vs116 ++ [V.int x96.2.1])) = H120 at *
          replace mu91 : MutO (L85 :: ms) [] H_0 H120 L85 (D.lst ((ys88 ++ [x96.2.1]).map (fun y_ : Int => (D.v (V.int y_))))) := mu91
          clear mk119
          exact hN93 x96.2.1 _ hM ⟨hW, hk90, mu91, by rw [List.length_append]; exact Nat.add_le_add_right ln92 1⟩
        · skip
          rintro n87 ys121 H122 hM ⟨hW, hk90, mu91, ln92⟩
          replace h_shape := rep_keep hk90 (rep_new nl86 h_shape)
          replace h_some := rep_keep hk90 (rep_new nl86 h_some)
          replace h2 := rep_keep hk90 (rep_new nl86 h2)
          replace h55 := rep_keep hk90 (rep_new nl86 h55)
          replace h59 := rep_keep hk90 (rep_new nl86 h59)
          replace h70 := rep_keep hk90 (rep_new nl86 h70)
          clear hk90 ln92
          have h123 := mo_rep_dr dr_here nm100 mu91
          replace hW := wd_dr dr_here mu91.hp hW
          replace h_shape := rep_dr dr_here h_shape
          replace h_some := rep_dr dr_here h_some
          replace h2 := rep_dr dr_here h2
          replace h55 := rep_dr dr_here h55
          replace h59 := rep_dr dr_here h59
          replace h70 := rep_dr dr_here h70
          clear mu91
          obtain ⟨g124, hM⟩ := hM
          apply rep_minL h123 g124
          intro y125 h126 h127
          replace hM := hM y125 h126 h127
          obtain ⟨g128, hM⟩ := hM
          apply rep_repr (d := (D.v (V.int y125))) (rep_v (ms := ([] : List Addr))) g128.1 g128.2.1 g128.2.2.1 g128.2.2.2.1 g128.2.2.2.2
          refine ⟨rfl, ?_⟩
          refine ⟨_, rfl, ?_⟩
          refine ite3 hM (fun hM => ?_) (fun hM => ?_)
          · skip
            exact hQ false _ _ hM hW.out rep_v
          · skip
            refine ⟨_, rfl, ?_⟩
            apply rep_ownText h_shape
            refine ⟨ms, _, x_shape, _, rfl, hW.enter0, h_shape, hM, fun r129 u132 H133 hM e131 h130 => ?_⟩
            replace h_shape := rep_ext e131 h_shape
            replace h_some := rep_ext e131 h_some
            replace h2 := rep_ext e131 h2
            replace h55 := rep_ext e131 h55
            replace h59 := rep_ext e131 h59
            replace h70 := rep_ext e131 h70
            replace h123 := rep_ext e131 h123
            replace hW := hW.ret0 e131
            obtain rfl := of_v h130
            refine ⟨_, rfl, ?_⟩
            refine ⟨_, rfl, ?_⟩
            refine ⟨rfl, ?_⟩
            refine ⟨_, rfl, ?_⟩
            refine ite3 hM (fun hM => ?_) (fun hM => ?_)
            · skip
              refine ⟨_, rfl, ?_⟩
              apply rep_ownText h_shape
              refine ⟨ms, _, x_shape, _, rfl, hW.enter0, h_shape, hM, fun r134 u137 H138 hM e136 h135 => ?_⟩
              replace h_shape := rep_ext e136 h_shape
              replace h_some := rep_ext e136 h_some
              replace h2 := rep_ext e136 h2
              replace h55 := rep_ext e136 h55
              replace h59 := rep_ext e136 h59
              replace h70 := rep_ext e136 h70
              replace h123 := rep_ext e136 h123
              replace hW := hW.ret0 e136
              obtain rfl := of_v h135
              refine ⟨_, rfl, ?_⟩
              refine ⟨_, rfl, ?_⟩
              obtain ⟨g139, hM⟩ := hM
              apply rep_repr (d := (D.lst (r1.map (fun y_ : (Int × Int × Str) => (D.tup [(D.v (V.int y_.1)), (D.v (V.int y_.2.1)), (D.v (V.str y_.2.2))]))))) h2 g139.1 g139.2.1 g139.2.2.1 g139.2.2.2.1 g139.2.2.2.2
              obtain ⟨g140, hM⟩ := hM
              refine ⟨_, _, rfl, rfl, g140, ?_⟩
              obtain ⟨g141, hM⟩ := hM
              refine ⟨_, _, rfl, rfl, g141, ?_⟩
              refine ⟨rfl, ?_⟩
              exact hQ (decide (V.str r134 = V.str ((("Picture(" : Str) ++ (pyOf (D.lst (r1.map (fun y_ : (Int × Int × Str) => (D.tup [(D.v (V.int y_.1)), (D.v (V.int y_.2.1)), (D.v (V.str y_.2.2))]))))).shown) ++ (")" : Str)))) _ _ hM hW.out rep_v
            · skip
              exact hQ false _ _ hM hW.out rep_v
def M_is_list_vtiis (x_value : (List (Int × Int × Str))) (KM : Bool → Prop) : Prop :=
  (KM true)
def sp_is_list_vtiis (A : Ad) : Sp := fun vs H Q _ => ∃ (ms : List Addr) (v_value : V) (x_value : (List (Int × Int × Str))) (KM : Bool → Prop), vs = [v_value] ∧ Wd ms [] [] H H ∧ rep ms H (D.tup (x_value.map (fun y_ : (Int × Int × Str) => (D.tup [(D.v (V.int y_.1)), (D.v (V.int y_.2.1)), (D.v (V.str y_.2.2))])))) v_value ∧ M_is_list_vtiis x_value KM ∧ ∀ (r : Bool) (u : V) (H1 : Hp), KM r → Ret [] H H1 → rep ms H1 (D.v (V.bl r)) u → Q u H1
set_option maxHeartbeats 16000000 in
theorem ok_is_list_vtiis {P : Program} {w : World} {K : PySem.W.Frag} {mg : Str → Option Value} {base : Heap} {A : Ad} (T : Txt w K mg A) : FnOk P w K mg base CX0 1 A.a_is_list A.d_is_list ["value"] (sp_is_list_vtiis A) := by
  refine T.F_is_list.ok sc_is_list (fun vs H Q E h => ?_) (fun cdv A_ outer s_ H_0 vs Q E hr h => ?_)
  · obtain ⟨ms, v_value, x_value, KM, rfl, _⟩ := h
    rfl
  · obtain ⟨ms, v_value, x_value, KM, rfl, hW, h_value, hM, hQ⟩ := h
    unfold M_is_list_vtiis at hM
    refine ⟨_, (pss_one (ps_ret (pe_callB (call_isiTK (K := K) rfl) (by rfl) T.z_isinstance (by decide +kernel) (pa_cons (pv 0) (pa_cons (pe_tup (pa_cons (pe_bltn (v := .ty "list") (by rfl) T.z_list (by decide +kernel) rfl) (pa_cons (pe_bltn (v := .ty "tuple") (by rfl) T.z_tuple (by decide +kernel) rfl) pa_nil))) pa_nil))))), ?_⟩
    refine ⟨_, rfl, ?_⟩
    refine ⟨(by show 2 ≤ sizeLine; decide), ?_⟩
    intro p1 n2
    have e3 := Rx.Ext.new (H := H_0) (o := (HO.tup [V.ty "list", V.ty "tuple"])) n2
    have hp4 : upd H_0 p1 (HO.tup [V.ty "list", V.ty "tuple"]) p1 = some (HO.tup [V.ty "list", V.ty "tuple"]) := upd_same
    generalize upd H_0 p1 (HO.tup [V.ty "list", V.ty "tuple"]) = H5 at e3 hp4 ⊢
    replace h_value := rep_ext e3 h_value
    replace hW := hW.ret0 e3
    apply rep_isi2 (d := (D.tup (x_value.map (fun y_ : (Int × Int × Str) => (D.tup [(D.v (V.int y_.1)), (D.v (V.int y_.2.1)), (D.v (V.str y_.2.2))]))))) (a := "tuple") (b := "list") (c := "tuple") (r1 := false) (r2 := true) h_value (by rfl) (by rfl) hp4 (by decide +kernel) (by decide +kernel)
    skip
    exact hQ true _ _ hM hW.out rep_v
def M_check_cells_vtiis (x_cells : (List (Int × Int × Str))) (KM : Unit → Prop) : Prop :=
  (M_is_list_vtiis x_cells fun r1 => (if (!r1) = true then False else (if (decide (V.int (x_cells.length : Int) = V.int (0 : Int))) = true then False else (forC (fun (x16 : (Int × (Int × Int × Str))) (s18 : (List (List Key × Bool))) (k19 : ((List (List Key × Bool))) → Prop) => (M_is_cell x16.2 fun r40 => (if (!r40) = true then False else (if (hasD s18 ([Sum.inl x16.2.1, Sum.inl x16.2.2.1] : List Key)) = true then False else (s18.length < 16777216 ∧ (k19 ((putD s18 ([Sum.inl x16.2.1, Sum.inl x16.2.2.1] : List Key) true)))))))) ((rangeI 0 (x_cells.length : Int)).zip x_cells) (([] : (List (List Key × Bool)))) fun s69 => (x_cells.length < 100000 ∧ mapC (fun (x92 : (Int × Int × Str)) (k85 : Int → Prop) => (k85 x92.2.1)) x_cells [] fun ys105 => (if (!(inV (V.int (0 : Int)) (ys105.map V.int))) = true then False else (if (decide ((5 : Int) < (x_cells.length : Int))) = true then False else (KM ()))))))))
def sp_check_cells_vtiis (A : Ad) : Sp := fun vs H Q _ => ∃ (ms : List Addr) (v_cells : V) (x_cells : (List (Int × Int × Str))) (KM : Unit → Prop), vs = [v_cells] ∧ Wd ms [] [] H H ∧ rep ms H (D.tup (x_cells.map (fun y_ : (Int × Int × Str) => (D.tup [(D.v (V.int y_.1)), (D.v (V.int y_.2.1)), (D.v (V.str y_.2.2))])))) v_cells ∧ M_check_cells_vtiis x_cells KM ∧ ∀ (r : Unit) (u : V) (H1 : Hp), KM r → Ret [] H H1 → rep ms H1 (D.v V.non) u → Q u H1
set_option maxHeartbeats 16000000 in
theorem ok_check_cells_vtiis {P : Program} {w : World} {K : PySem.W.Frag} {mg : Str → Option Value} {base : Heap} {A : Ad} (T : Txt w K mg A) : FnOk P w K mg base CX0 4 A.a_check_cells A.d_check_cells ["cells"] (sp_check_cells_vtiis A) := by
  refine T.F_check_cells.ok sc_check_cells (fun vs H Q E h => ?_) (fun cdv A_ outer s_ H_0 vs Q E hr h => ?_)
  · obtain ⟨ms, v_cells, x_cells, KM, rfl, _⟩ := h
    rfl
  · obtain ⟨ms, v_cells, x_cells, KM, rfl, hW, h_cells, hM, hQ⟩ := h
    unfold M_check_cells_vtiis at hM
    refine ⟨_, (pss_cons (ps_if (PW.pt (pw_or (pt_not (pt_val (pe_call (ok_is_list_vtiis T) (hr.mono (by decide)) (by rfl) T.g_is_list T.F_is_list.kp T.b_is_list .nil pass0 (pa_cons (pv 0) pa_nil)))) (pw_or1 (pt_cmpR op_eq (pe_callB (call_lenK (K := K) rfl) (by rfl) T.z_len PySem.boot_len (pa_cons (pv 0) pa_nil)) pe_int (nomark _))))) (pss_one ps_never) pss_nil) (pss_cons (ps_set (i := 1) sc_check_cells.nd rfl (by first | exact Or.inl rfl | exact Or.inr rfl) pe_dnewT) (pss_cons (ps_for PassesOwn.never rfl (pi_enumT (K := K) rfl (by rfl) T.z_enumerate (pa_cons (pv 0) pa_nil)) (pg_tup rfl (pgs_cons (pg_name (i := 2) sc_check_cells.nd rfl (by first | exact Or.inl rfl | exact Or.inr rfl)) (pgs_cons (pg_name (i := 3) sc_check_cells.nd rfl (by first | exact Or.inl rfl | exact Or.inr rfl)) pgs_nil))) (pss_cons (ps_if (PW.pt (pw_or (pt_not (pt_val (pe_call (ok_is_cell T) (hr.mono (by decide)) (by rfl) T.g_is_cell T.F_is_cell.kp T.b_is_cell .nil pass0 (pa_cons (pv 3) pa_nil)))) (pw_or1 (pt_cmp (pc_din (hu_of hr) (pe_slice (sl_tupK (K := K) rfl) (pv 3) po_none (po_some pe_int)) (pv 1)) rfl)))) (pss_one ps_never) pss_nil) (pss_one (ps_asg pe_bl (pg_sub (pv 1) (pe_slice (sl_tupK (K := K) rfl) (pv 3) po_none (po_some pe_int)) (set_dict (hu_of hr))))))) (pss_cons (ps_if (pt_cmpR (op_ninSK (K := K) rfl) pe_int (pe_lc (own := [("cell", 3)]) (g := gName 3) rfl sc_check_cells.nd (pi_tup (pv 0)) (blkOk_by (N := ["cells", "told", "position", "cell"]) (sc := defScope s_check_cells) (by decide +kernel)) (fun _ _ _ _ _ => pg_name (i := 3) sc_check_cells.nd rfl (by first | exact Or.inl rfl | exact Or.inr rfl)) (fun _ _ _ _ _ => pts_nil) (fun _ _ _ _ _ => (pe_ix (ix_tupK (K := K) rfl) (pv 3) pe_int (fun _ _ => rfl)))) (by rfl)) (pss_one ps_never) pss_nil) (pss_one (ps_if (pt_cmpR op_gt (pe_callB (call_lenK (K := K) rfl) (by rfl) T.z_len PySem.boot_len (pa_cons (pv 0) pa_nil)) (C8.pe_gc (by rfl) T.c_MOST_CELLS) (nomark _)) (pss_one ps_never) pss_nil)))))), ?_⟩
    refine ⟨_, rfl, ?_⟩
    refine ⟨ms, _, x_cells, _, rfl, hW.enter0, h_cells, hM, fun r1 u4 H5 hM e3 h2 => ?_⟩
    replace h_cells := rep_ext e3 h_cells
    replace hW := hW.ret0 e3
    obtain rfl := of_v h2
    refine ⟨_, rfl, ?_⟩
    refine ite3 hM (fun hM => ?_) (fun hM => ?_)
    · skip
      refine iteT ?_
      exact hM
    · skip
      refine ⟨_, rfl, ?_⟩
      apply rep_lenT (n := x_cells.length) h_cells (by rw [List.length_map])
      refine ⟨rfl, ?_⟩
      refine ⟨_, rfl, ?_⟩
      refine ite3 hM (fun hM => ?_) (fun hM => ?_)
      · skip
        exact hM
      · skip
        intro L6 nl7
        have nm8 := nm_new hW nl7
        have mu9 := mo_nilT (e := (fun y_ : Bool => (D.v (V.bl y_)))) hW nl7
        replace h_cells := rep_cell (o := .dT []) nl7 h_cells
        replace hW := wd_cell (o := .dT []) hW nl7
        generalize upd H5 L6 (.dT []) = H10 at *
        replace mu9 : MutO (L6 :: ms) [] H_0 H10 L6 (D.dcT (([] : (List (List Key × Bool))).map (·.1)) (([] : (List (List Key × Bool))).map fun y_ : List Key × Bool => (D.v (V.bl y_.2)))) := mu9
        refine ⟨_, rfl, ?_⟩
        apply rep_iterET h_cells
        intro a11 xs12 _ an13 hp14 hl15
        refine for_enumGT (S := (List (List Key × Bool))) (items := x_cells) (e := (fun y_ : (Int × Int × Str) => (D.tup [(D.v (V.int y_.1)), (D.v (V.int y_.2.1)), (D.v (V.str y_.2.2))]))) (ms := (L6 :: ms)) (fun (s : (List (List Key × Bool))) σ_ h_ => ∃ (w_0 : Option V), ∃ (w_1 : Option V), σ_ = [some v_cells, some (V.ref L6), w_0, w_1] ∧ Wd (L6 :: ms) [] [] H_0 h_ ∧ Keep (L6 :: ms) H10 h_ ∧ MutO (L6 :: ms) [] H_0 h_ L6 (D.dcT (s.map (·.1)) (s.map fun y_ : List Key × Bool => (D.v (V.bl y_.2))))) (([] : (List (List Key × Bool)))) an13 hp14 hl15 (fun _ _ _ z_ => by obtain ⟨_, _, _, _, q_, _⟩ := z_; exact q_) (fun _ _ _ z_ => by obtain ⟨_, _, _, w_, _, _⟩ := z_; exact w_.tr) hM ⟨_, _, rfl, hW, Keep.refl, mu9⟩ ?_ ?_
        · skip
          clear mu9
          rintro x16 u17 s18 k19 _ H29 H28 ⟨w24, w25, rfl, hW, hk20, mu26⟩ ex27 h21 hM Nx22 hN23
          replace h_cells := rep_keep hk20 h_cells
          replace h_cells := rep_ext ex27 h_cells
          replace hk20 := keep_ext ex27 hk20
          replace mu26 := mo_ext ex27 mu26
          replace hW := hW.ret0 ex27
          apply rep_gtup h21 rfl
          intro vs30 hv31
          obtain ⟨u32, us33, rfl, h34, hv35⟩ := repL_uncons hv31
          obtain rfl := of_v h34
          obtain ⟨u36, us37, rfl, h38, hv39⟩ := repL_uncons hv35
          obtain rfl := repL_empty hv39
          refine ⟨_, _, rfl, ?_⟩
          refine ⟨_, _, rfl, ?_⟩
          refine ⟨rfl, ?_⟩
          refine ⟨_, rfl, ?_⟩
          refine ⟨(L6 :: ms), _, x16.2, _, rfl, hW.enter0, h38, hM, fun r40 u43 H44 hM e42 h41 => ?_⟩
          replace h_cells := rep_ext e42 h_cells
          replace hk20 := keep_ext e42 hk20
          replace h21 := rep_ext e42 h21
          replace h38 := rep_ext e42 h38
          replace mu26 := mo_ext e42 mu26
          replace hW := hW.ret0 e42
          obtain rfl := of_v h41
          refine ⟨_, rfl, ?_⟩
          refine ite3 hM (fun hM => ?_) (fun hM => ?_)
          · skip
            refine iteT ?_
            exact hM
          · skip
            refine ⟨_, rfl, ?_⟩
            refine ⟨_, rfl, ?_⟩
            apply rep_slT 2 h38 (by show 2 < 3; decide)
            intro vs45 hr46
            intro p47 np48
            have e49 := Rx.Ext.new (H := H44) (o := (HO.tup vs45)) np48
            have hp50 : upd H44 p47 (HO.tup vs45) p47 = some (HO.tup vs45) := upd_same
            generalize upd H44 p47 (HO.tup vs45) = H52 at e49 hp50 ⊢
            have h51 : rep (L6 :: ms) H52 (D.tup [(D.v (V.int x16.2.1)), (D.v (V.int x16.2.2.1))]) (.ref p47) := rep_tup_mk (ds := [(D.v (V.int x16.2.1)), (D.v (V.int x16.2.2.1))]) hW np48 e49 hp50 hr46
            replace h_cells := rep_ext e49 h_cells
            replace hk20 := keep_ext e49 hk20
            replace h21 := rep_ext e49 h21
            replace h38 := rep_ext e49 h38
            replace mu26 := mo_ext e49 mu26
            replace hW := hW.ret0 e49
            refine ⟨_, rfl, ?_⟩
            apply mo_hasT (e := (fun y_ : Bool => (D.v (V.bl y_)))) (m := s18) (ks := ([Sum.inl x16.2.1, Sum.inl x16.2.2.1] : List Key)) mu26 h51 rfl
            intro o53 ho54
            rw [ho54]
            refine ⟨_, rfl, ?_⟩
            refine ite3 hM (fun hM => ?_) (fun hM => ?_)
            · skip
              exact hM
            · skip
              refine ⟨_, rfl, ?_⟩
              refine ⟨_, rfl, ?_⟩
              refine ⟨_, rfl, ?_⟩
              apply rep_slT 2 h38 (by show 2 < 3; decide)
              intro vs55 hr56
              intro p57 np58
              have e59 := Rx.Ext.new (H := H52) (o := (HO.tup vs55)) np58
              have hp60 : upd H52 p57 (HO.tup vs55) p57 = some (HO.tup vs55) := upd_same
              generalize upd H52 p57 (HO.tup vs55) = H62 at e59 hp60 ⊢
              have h61 : rep (L6 :: ms) H62 (D.tup [(D.v (V.int x16.2.1)), (D.v (V.int x16.2.2.1))]) (.ref p57) := rep_tup_mk (ds := [(D.v (V.int x16.2.1)), (D.v (V.int x16.2.2.1))]) hW np58 e59 hp60 hr56
              replace h_cells := rep_ext e59 h_cells
              replace hk20 := keep_ext e59 hk20
              replace h21 := rep_ext e59 h21
              replace h38 := rep_ext e59 h38
              replace h51 := rep_ext e59 h51
              replace mu26 := mo_ext e59 mu26
              replace hW := hW.ret0 e59
              obtain ⟨g66, hM⟩ := hM
              apply mo_putT (ks := ([Sum.inl x16.2.1, Sum.inl x16.2.2.1] : List Key)) (e := (fun y_ : Bool => (D.v (V.bl y_)))) (m := s18) (y := true) mu26 h61 rfl rep_v g66
              intro vs63 hl64 hr65
              have mk67 := mo_setT (ks := (putD s18 ([Sum.inl x16.2.1, Sum.inl x16.2.2.1] : List Key) true).map (·.1)) (ds := (putD s18 ([Sum.inl x16.2.1, Sum.inl x16.2.2.1] : List Key) true).map fun q_ => (fun y_ : Bool => (D.v (V.bl y_))) q_.2) mu26 hl64 hr65
              replace h_cells := rep_put (o := .dT (List.zip ((putD s18 ([Sum.inl x16.2.1, Sum.inl x16.2.2.1] : List Key) true).map (·.1)) vs63)) mu26.im h_cells
              replace hk20 := keep_put (o := .dT (List.zip ((putD s18 ([Sum.inl x16.2.1, Sum.inl x16.2.2.1] : List Key) true).map (·.1)) vs63)) mu26.im hk20
              replace h21 := rep_put (o := .dT (List.zip ((putD s18 ([Sum.inl x16.2.1, Sum.inl x16.2.2.1] : List Key) true).map (·.1)) vs63)) mu26.im h21
              replace h38 := rep_put (o := .dT (List.zip ((putD s18 ([Sum.inl x16.2.1, Sum.inl x16.2.2.1] : List Key) true).map (·.1)) vs63)) mu26.im h38
              replace h51 := rep_put (o := .dT (List.zip ((putD s18 ([Sum.inl x16.2.1, Sum.inl x16.2.2.1] : List Key) true).map (·.1)) vs63)) mu26.im h51
              replace h61 := rep_put (o := .dT (List.zip ((putD s18 ([Sum.inl x16.2.1, Sum.inl x16.2.2.1] : List Key) true).map (·.1)) vs63)) mu26.im h61
              replace hW := wd_put (o := .dT (List.zip ((putD s18 ([Sum.inl x16.2.1, Sum.inl x16.2.2.1] : List Key) true).map (·.1)) vs63)) hW mu26
              replace mu26 := mk67
              generalize upd H62 L6 (.dT (List.zip ((putD s18 ([Sum.inl x16.2.1, Sum.inl x16.2.2.1] : List Key) true).map (·.1)) vs63)) = H68 at *
              replace mu26 : MutO (L6 :: ms) [] H_0 H68 L6 (D.dcT ((putD s18 ([Sum.inl x16.2.1, Sum.inl x16.2.2.1] : List Key) true).map (·.1)) ((putD s18 ([Sum.inl x16.2.1, Sum.inl x16.2.2.1] : List Key) true).map fun y_ : List Key × Bool => (D.v (V.bl y_.2)))) := mu26
              clear mk67
              exact hN23 ((putD s18 ([Sum.inl x16.2.1, Sum.inl x16.2.2.1] : List Key) true)) _ _ hM ⟨_, _, rfl, hW, hk20, mu26⟩
        · skip
          clear mu9
          rintro s69 _ H74 hM ⟨w71, w72, rfl, hW, hk70, mu73⟩
          replace h_cells := rep_keep hk70 h_cells
          have h75 := mo_rep_dr dr_here nm8 mu73
          replace hW := wd_dr dr_here mu73.hp hW
          replace h_cells := rep_dr dr_here h_cells
          clear mu73
          refine ⟨_, rfl, ?_⟩
          apply rep_iterT h_cells
          intro a76 xs77 _ an78 hp79 hl80
          refine fun L81 nl82 => ?_
          have nm96 := nm_new hW nl82
          refine lc_tupG (L := L81) (fun n_ ys_ h_ => Wd (L81 :: ms) [] [] H_0 h_ ∧ Keep (L81 :: ms) H74 h_ ∧ MutO (L81 :: ms) [] H_0 h_ L81 (D.lst (ys_.map (fun y_ : Int => (D.v (V.int y_))))) ∧ ys_.length ≤ n_) (items := x_cells) (e := (fun y_ : (Int × Int × Str) => (D.tup [(D.v (V.int y_.1)), (D.v (V.int y_.2.1)), (D.v (V.str y_.2.2))]))) an78 hp79 hl80 nl82 (fun _ _ _ q_ => q_.2.1) hM ⟨wd_cell hW nl82, keep_cell nl82 Keep.refl, mo_newL (ds := []) hW nl82 repL_nil, Nat.le_refl _⟩ ?_ ?_
          · skip
            rintro x92 u93 n83 ys84 k85 H97 hn ⟨hW, hk86, mu87, ln88⟩ h94 hM Nx91 hN89
            replace h_cells := rep_keep hk86 (rep_new nl82 h_cells)
            replace h75 := rep_keep hk86 (rep_new nl82 h75)
            refine ⟨rfl, ?_⟩
            refine tyes_of ?_
            refine ⟨_, rfl, ?_⟩
            apply rep_ixT 1 h94 rfl rfl
            intro u99 h98
            obtain rfl := of_v h98
            refine mo_end mu87 hn (by rw [List.length_map]; exact ln88) fun vs100 hr101 => ?_
            have mk103 := mo_setL mu87 (repL_snoc (e := (fun y_ : Int => (D.v (V.int y_)))) (xs := ys84) (y := x92.2.1) hr101 rep_v)
            replace h_cells := rep_put (o := .lst (vs100 ++ [V.int x92.2.1])) mu87.im h_cells
            replace h75 := rep_put (o := .lst (vs100 ++ [V.int x92.2.1])) mu87.im h75
            replace hk86 := keep_put (o := .lst (vs100 ++ [V.int x92.2.1])) mu87.im hk86
            replace h94 := rep_put (o := .lst (vs100 ++ [V.int x92.2.1])) mu87.im h94
            replace hW := wd_put (o := .lst (vs100 ++ [V.int x92.2.1])) hW mu87
            replace mu87 := mk103
            generalize upd H97 L81 (.lst (vs100 ++ [V.int x92.2.1])) = H104 at *
            replace mu87 : MutO (L81 :: ms) [] H_0 H104 L81 (D.lst ((ys84 ++ [x92.2.1]).map (fun y_ : Int => (D.v (V.int y_))))) := mu87
            clear mk103
            exact hN89 x92.2.1 _ hM ⟨hW, hk86, mu87, by rw [List.length_append]; exact Nat.add_le_add_right ln88 1⟩
          · skip
            rintro n83 ys105 H106 hM ⟨hW, hk86, mu87, ln88⟩
            replace h_cells := rep_keep hk86 (rep_new nl82 h_cells)
            replace h75 := rep_keep hk86 (rep_new nl82 h75)
            clear hk86 ln88
            have h107 := mo_rep_dr dr_here nm96 mu87
            replace hW := wd_dr dr_here mu87.hp hW
            replace h_cells := rep_dr dr_here h_cells
            replace h75 := rep_dr dr_here h75
            clear mu87
            apply rep_ninL (f := V.int) (xs := ys105) h107 rfl (fun _ => rfl)
            refine ⟨_, rfl, ?_⟩
            refine ite3 hM (fun hM => ?_) (fun hM => ?_)
            · skip
              exact hM
            · skip
              refine ⟨_, rfl, ?_⟩
              apply rep_lenT (n := x_cells.length) h_cells (by rw [List.length_map])
              refine ⟨_, _, rfl, rfl, ?_⟩
              refine ⟨_, rfl, ?_⟩
              refine ite3 hM (fun hM => ?_) (fun hM => ?_)
              · skip
                exact hM
              · skip
                exact hQ () _ _ hM hW.out rep_v
def M_Picture_init_nvtiis (x_cells : (List (Int × Int × Str))) (KM : (List (Int × Int × Str)) → Prop) : Prop :=
  (M_check_cells_vtiis x_cells fun r1 => (x_cells.length < 100000 ∧ mapC (fun (x22 : (Int × Int × Str)) (k15 : (Int × Int × Str) → Prop) => (k15 (x22.1, x22.2.1, x22.2.2))) x_cells [] fun ys53 => ((∀ a_ ∈ ys53, ∀ b_ ∈ ys53, a_.1 = b_.1 → a_.2.1 = b_.2.1 → a_.2.2 = b_.2.2) ∧ ∀ ys56 : List (Int × Int × Str), ys56.Perm ys53 → ys56.Pairwise (fun a_ b_ => lxT b_ a_ = false) → (KM ys56))))
def sp_Picture_init_nvtiis (A : Ad) : Sp := fun vs H Q _ => ∃ (ms : List Addr) (p_ dx_ : Addr) (v_cells : V) (x_cells : (List (Int × Int × Str))) (KM : (List (Int × Int × Str)) → Prop), vs = [.ref p_, v_cells] ∧ Wd ms [] [] H H ∧ p_ ∈ ms ∧ H p_ = some (.ins A.c_Picture dx_ []) ∧ rep ms H (D.tup (x_cells.map (fun y_ : (Int × Int × Str) => (D.tup [(D.v (V.int y_.1)), (D.v (V.int y_.2.1)), (D.v (V.str y_.2.2))])))) v_cells ∧ M_Picture_init_nvtiis x_cells KM ∧ ∀ (r : (List (Int × Int × Str))) (us : List V) (H1 : Hp), KM r → KpI p_ H H1 → H1 p_ = some (.ins A.c_Picture dx_ (List.zip ns_Picture us)) → ns_Picture.length = us.length → repL ms H1 [(D.tup (r.map (fun y_ : (Int × Int × Str) => (D.tup [(D.v (V.int y_.1)), (D.v (V.int y_.2.1)), (D.v (V.str y_.2.2))]))))] us → Q .non H1
set_option maxHeartbeats 16000000 in
theorem ok_Picture_init_nvtiis {P : Program} {w : World} {K : PySem.W.Frag} {mg : Str → Option Value} {base : Heap} {A : Ad} (T : Txt w K mg A) : FnOk P w K mg base CX0 5 A.a_Picture_init A.d_Picture_init ["self", "cells"] (sp_Picture_init_nvtiis A) := by
  refine T.F_Picture_init.ok sc_Picture_init (fun vs H Q E h => ?_) (fun cdv A_ outer s_ H_0 vs Q E hr h => ?_)
  · obtain ⟨ms, p_, dx_, v_cells, x_cells, KM, rfl, _⟩ := h
    rfl
  · obtain ⟨ms, p_, dx_, v_cells, x_cells, KM, rfl, hW, pm_, hp, h_cells, hM, hQ⟩ := h
    unfold M_Picture_init_nvtiis at hM
    have hK := ki_refl (p := p_) (H := H_0)
    replace hp : H_0 p_ = some (.ins A.c_Picture dx_ (List.zip ([] : List Str) ([] : List V))) := hp
    refine ⟨_, (pss_cons (ps_expr (pe_call (ok_check_cells_vtiis T) (hr.mono (by decide)) (by rfl) T.g_check_cells T.F_check_cells.kp T.b_check_cells .nil pass0 (pa_cons (pv 1) pa_nil))) (pss_one (ps_fld (pv 0) (pe_callTy (call_tuple_ofK (K := K) rfl) (by rfl) T.z_tuple (by decide +kernel) (pa_cons (pe_callB (cr_sortTr (K := K) rfl) (by rfl) T.z_sorted (by decide +kernel) (pa_cons (pe_lc (own := [("team", 2), ("later", 3), ("mark", 4)]) (g := (gTup K 3 (gCons (gName 2) (gCons (gName 3) (gCons (gName 4) gNil))))) rfl sc_Picture_init.nd (pi_tup (pv 1)) (blkOk_by (N := ["self", "cells", "team", "later", "mark"]) (sc := defScope s_Picture_init) (by decide +kernel)) (fun _ _ _ _ _ => (pg_tup rfl (pgs_cons (pg_name (i := 2) sc_Picture_init.nd rfl (by first | exact Or.inl rfl | exact Or.inr rfl)) (pgs_cons (pg_name (i := 3) sc_Picture_init.nd rfl (by first | exact Or.inl rfl | exact Or.inr rfl)) (pgs_cons (pg_name (i := 4) sc_Picture_init.nd rfl (by first | exact Or.inl rfl | exact Or.inr rfl)) pgs_nil))))) (fun _ _ _ _ _ => pts_nil) (fun _ _ _ _ _ => (pe_tup (pa_cons (pv 2) (pa_cons (pv 3) (pa_cons (pv 4) pa_nil)))))) pa_nil)) pa_nil)) rfl))), ?_⟩
    refine ⟨_, rfl, ?_⟩
    refine ⟨ms, _, x_cells, _, rfl, hW.enter0, h_cells, hM, fun r1 u4 H5 hM e3 h2 => ?_⟩
    replace h_cells := rep_ext e3 h_cells
    replace hp := Rx.Ext.keep e3 hp
    replace hW := hW.ret0 e3
    obtain rfl := of_v h2
    refine ⟨_, rfl, ?_⟩
    apply rep_iterT h_cells
    intro a6 xs7 _ an8 hp9 hl10
    refine fun L11 nl12 => ?_
    have nm26 := nm_new hW nl12
    refine lc_tupG (L := L11) (fun n_ ys_ h_ => Wd (L11 :: ms) [] [] H_0 h_ ∧ Keep (L11 :: ms) H5 h_ ∧ MutO (L11 :: ms) [] H_0 h_ L11 (D.lst (ys_.map (fun y_ : (Int × Int × Str) => (D.tup [(D.v (V.int y_.1)), (D.v (V.int y_.2.1)), (D.v (V.str y_.2.2))])))) ∧ ys_.length ≤ n_ ∧ h_ p_ = some (.ins A.c_Picture dx_ (List.zip ([] : List Str) ([] : List V)))) (items := x_cells) (e := (fun y_ : (Int × Int × Str) => (D.tup [(D.v (V.int y_.1)), (D.v (V.int y_.2.1)), (D.v (V.str y_.2.2))]))) an8 hp9 hl10 nl12 (fun _ _ _ q_ => q_.2.1) hM ⟨wd_cell hW nl12, keep_cell nl12 Keep.refl, mo_newL (ds := []) hW nl12 repL_nil, Nat.le_refl _, Rx.Ext.keep (Rx.Ext.new nl12) hp⟩ ?_ ?_
    · skip
      rintro x22 u23 n13 ys14 k15 H27 hn ⟨hW, hk16, mu17, ln18, hp⟩ h24 hM Nx21 hN19
      replace h_cells := rep_keep hk16 (rep_new nl12 h_cells)
      apply rep_gtup h24 rfl
      intro vs28 hv29
      obtain ⟨u30, us31, rfl, h32, hv33⟩ := repL_uncons hv29
      obtain rfl := of_v h32
      obtain ⟨u34, us35, rfl, h36, hv37⟩ := repL_uncons hv33
      obtain rfl := of_v h36
      obtain ⟨u38, us39, rfl, h40, hv41⟩ := repL_uncons hv37
      obtain rfl := of_v h40
      obtain rfl := repL_empty hv41
      refine ⟨_, _, rfl, ?_⟩
      refine ⟨_, _, rfl, ?_⟩
      refine ⟨_, _, rfl, ?_⟩
      refine ⟨rfl, ?_⟩
      refine ⟨rfl, ?_⟩
      refine tyes_of ?_
      refine ⟨_, rfl, ?_⟩
      refine ⟨_, rfl, ?_⟩
      refine ⟨_, rfl, ?_⟩
      refine ⟨(by show 3 ≤ sizeLine; decide), ?_⟩
      intro p42 n46
      have e43 := Rx.Ext.new (H := H27) (o := (HO.tup [V.int x22.1, V.int x22.2.1, V.str x22.2.2])) n46
      have hp44 : upd H27 p42 (HO.tup [V.int x22.1, V.int x22.2.1, V.str x22.2.2]) p42 = some (HO.tup [V.int x22.1, V.int x22.2.1, V.str x22.2.2]) := upd_same
      generalize upd H27 p42 (HO.tup [V.int x22.1, V.int x22.2.1, V.str x22.2.2]) = H47 at e43 hp44 ⊢
      have h45 : rep (L11 :: ms) H47 (D.tup [(D.v (V.int x22.1)), (D.v (V.int x22.2.1)), (D.v (V.str x22.2.2))]) (.ref p42) := rep_tup_mk hW n46 e43 hp44 (repL_cons rep_v (repL_cons rep_v (repL_cons rep_v repL_nil)))
      replace h_cells := rep_ext e43 h_cells
      replace hk16 := keep_ext e43 hk16
      replace h24 := rep_ext e43 h24
      replace mu17 := mo_ext e43 mu17
      replace hp := Rx.Ext.keep e43 hp
      replace hW := hW.ret0 e43
      refine mo_end mu17 hn (by rw [List.length_map]; exact ln18) fun vs48 hr49 => ?_
      have mk51 := mo_setL mu17 (repL_snoc (e := (fun y_ : (Int × Int × Str) => (D.tup [(D.v (V.int y_.1)), (D.v (V.int y_.2.1)), (D.v (V.str y_.2.2))]))) (xs := ys14) (y := (x22.1, x22.2.1, x22.2.2)) hr49 h45)
      replace h_cells := rep_put (o := .lst (vs48 ++ [(V.ref p42)])) mu17.im h_cells
      replace hk16 := keep_put (o := .lst (vs48 ++ [(V.ref p42)])) mu17.im hk16
      replace h24 := rep_put (o := .lst (vs48 ++ [(V.ref p42)])) mu17.im h24
      replace h45 := rep_put (o := .lst (vs48 ++ [(V.ref p42)])) mu17.im h45
      replace hp := at_put (o := .lst (vs48 ++ [(V.ref p42)])) hp mu17
      replace hW := wd_put (o := .lst (vs48 ++ [(V.ref p42)])) hW mu17
      replace mu17 := mk51
      generalize upd H47 L11 (.lst (vs48 ++ [(V.ref p42)])) = H52 at *
      replace mu17 : MutO (L11 :: ms) [] H_0 H52 L11 (D.lst ((ys14 ++ [(x22.1, x22.2.1, x22.2.2)]).map (fun y_ : (Int × Int × Str) => (D.tup [(D.v (V.int y_.1)), (D.v (V.int y_.2.1)), (D.v (V.str y_.2.2))])))) := mu17
      clear mk51
      exact hN19 (x22.1, x22.2.1, x22.2.2) _ hM ⟨hW, hk16, mu17, by rw [List.length_append]; exact Nat.add_le_add_right ln18 1, hp⟩
    · skip
      rintro n13 ys53 H54 hM ⟨hW, hk16, mu17, ln18, hp⟩
      replace h_cells := rep_keep hk16 (rep_new nl12 h_cells)
      clear hk16 ln18
      have h55 := mo_rep_dr dr_here nm26 mu17
      replace hW := wd_dr dr_here mu17.hp hW
      replace h_cells := rep_dr dr_here h_cells
      clear mu17
      obtain ⟨g59, hM⟩ := hM
      apply rep_sortTr (xs := ys53) h55 g59
      intro ys56 zs60 hpm57 hst58 hr61
      replace hM := hM ys56 hpm57 hst58
      intro p62 n66
      have e63 := Rx.Ext.new (H := H54) (o := (HO.lst (zs60))) n66
      have hp64 : upd H54 p62 (HO.lst (zs60)) p62 = some (HO.lst (zs60)) := upd_same
      generalize upd H54 p62 (HO.lst (zs60)) = H67 at e63 hp64 ⊢
      have h65 : rep ms H67 (D.lst (ys56.map (fun y_ : (Int × Int × Str) => (D.tup [(D.v (V.int y_.1)), (D.v (V.int y_.2.1)), (D.v (V.str y_.2.2))])))) (.ref p62) := rep_lst_mk hW n66 e63 hp64 hr61
      replace h_cells := rep_ext e63 h_cells
      replace h55 := rep_ext e63 h55
      replace hp := Rx.Ext.keep e63 hp
      replace hW := hW.ret0 e63
      apply rep_tupOf (ds := ys56.map (fun y_ : (Int × Int × Str) => (D.tup [(D.v (V.int y_.1)), (D.v (V.int y_.2.1)), (D.v (V.str y_.2.2))]))) h65
      intro ys68 hr69
      intro p70 np71
      have e72 := Rx.Ext.new (H := H67) (o := (HO.tup ys68)) np71
      have hp73 : upd H67 p70 (HO.tup ys68) p70 = some (HO.tup ys68) := upd_same
      generalize upd H67 p70 (HO.tup ys68) = H75 at e72 hp73 ⊢
      have h74 : rep ms H75 (D.tup (ys56.map (fun y_ : (Int × Int × Str) => (D.tup [(D.v (V.int y_.1)), (D.v (V.int y_.2.1)), (D.v (V.str y_.2.2))])))) (.ref p70) := rep_tup_mk hW np71 e72 hp73 hr69
      replace h_cells := rep_ext e72 h_cells
      replace h55 := rep_ext e72 h55
      replace h65 := rep_ext e72 h65
      replace hp := Rx.Ext.keep e72 hp
      replace hW := hW.ret0 e72
      refine ⟨_, rfl, p_, A.c_Picture, dx_, _, rfl, hp, T.cl_Picture, T.na_Picture__cells, (by first | decide | simp), ?_⟩
      have z76 : putF ("_cells" : Str) ((V.ref p70)) (List.zip ([] : List Str) ([] : List V)) = List.zip [("_cells" : Str)] [(V.ref p70)] := putF_zip (ns := ([] : List Str)) (us := ([] : List V)) rfl (nin_of (by decide +kernel))
      replace h_cells := rep_put (o := .ins A.c_Picture dx_ (putF ("_cells" : Str) ((V.ref p70)) (List.zip ([] : List Str) ([] : List V)))) pm_ h_cells
      replace h55 := rep_put (o := .ins A.c_Picture dx_ (putF ("_cells" : Str) ((V.ref p70)) (List.zip ([] : List Str) ([] : List V)))) pm_ h55
      replace h65 := rep_put (o := .ins A.c_Picture dx_ (putF ("_cells" : Str) ((V.ref p70)) (List.zip ([] : List Str) ([] : List V)))) pm_ h65
      replace h74 := rep_put (o := .ins A.c_Picture dx_ (putF ("_cells" : Str) ((V.ref p70)) (List.zip ([] : List Str) ([] : List V)))) pm_ h74
      replace hK := ki_put (o := .ins A.c_Picture dx_ (putF ("_cells" : Str) ((V.ref p70)) (List.zip ([] : List Str) ([] : List V)))) hK hW
      replace hW := wd_at (p := p_) (o := .ins A.c_Picture dx_ (putF ("_cells" : Str) ((V.ref p70)) (List.zip ([] : List Str) ([] : List V)))) hW
      replace hp : upd H75 p_ (.ins A.c_Picture dx_ (putF ("_cells" : Str) ((V.ref p70)) (List.zip ([] : List Str) ([] : List V)))) p_ = some (.ins A.c_Picture dx_ (putF ("_cells" : Str) ((V.ref p70)) (List.zip ([] : List Str) ([] : List V)))) := upd_same
      generalize upd H75 p_ (.ins A.c_Picture dx_ (putF ("_cells" : Str) ((V.ref p70)) (List.zip ([] : List Str) ([] : List V)))) = H77 at *
      rw [z76] at hp
      exact hQ ys56 [(V.ref p70)] _ hM (ki_wd hK hW) hp rfl (repL_cons h74 repL_nil)
theorem make_Picture_init_nvtiis {ms ps : List Addr} {cs : List (Addr × List V)} {H0 H : Hp} {A : Ad} {v_cells : V} {x_cells : (List (Int × Int × Str))} {KM : (List (Int × Int × Str)) → Prop} {Q : Addr → Hp → Prop} {E : XK} (hW : Wd ms ps cs H0 H) (h_cells : rep ms H (D.tup (x_cells.map (fun y_ : (Int × Int × Str) => (D.tup [(D.v (V.int y_.1)), (D.v (V.int y_.2.1)), (D.v (V.str y_.2.2))])))) v_cells) (hM : M_Picture_init_nvtiis x_cells KM)
    (k : ∀ (x : Addr) (H1 : Hp) (r : (List (Int × Int × Str))), KM r → Rx.Ext H H1 → rep ms H1 (ePicture A r) (.ref x) → Q x H1) :
    ∀ x dx, H x = none → H dx = none → dx ≠ x → sp_Picture_init_nvtiis A (.ref x :: ([v_cells] ++ [])) (upd (upd H dx (.own x)) x (.ins A.c_Picture dx [])) (fun v H2 => v = .non ∧ Q x H2) E := by
  intro x dx nx ndx ne
  exact ⟨x :: ms, x, dx, v_cells, x_cells, KM, rfl, wd_new hW nx ndx, List.mem_cons_self, upd_same, mem_new nx h_cells ndx, hM, fun r us H1 hr hK hp hl hu => ⟨rfl, k x H1 r hr (ext_new hK nx ndx) (rep_insW hW nx hp hl hu)⟩⟩
def M_contrary_marks (x_marks : Str) (KM : Str → Prop) : Prop :=
  ((Rx.signs x_marks).length < 100000 ∧ mapC (fun (x12 : Str) (k5 : Str → Prop) => (∃ c18 : Str, wd_CONTRARIES.lookup x12 = some c18 ∧ (k5 c18))) (Rx.signs x_marks) [] fun ys25 => ((ys25.map (·.length)).sum + ys25.length * ("" : Str).length ≤ 16777216 ∧ (KM (Txt.join ("" : Str) ys25))))
def sp_contrary_marks (A : Ad) : Sp := fun vs H Q _ => ∃ (ms : List Addr) (x_marks : Str) (KM : Str → Prop), vs = [V.str x_marks] ∧ Wd ms [] [] H H ∧ M_contrary_marks x_marks KM ∧ ∀ (r : Str) (u : V) (H1 : Hp), KM r → Ret [] H H1 → rep ms H1 (D.v (V.str r)) u → Q u H1
set_option maxHeartbeats 16000000 in
theorem ok_contrary_marks {P : Program} {w : World} {K : PySem.W.Frag} {mg : Str → Option Value} {base : Heap} {A : Ad} (T : Txt w K mg A) : FnOk P w K mg base CX0 1 A.a_contrary_marks A.d_contrary_marks ["marks"] (sp_contrary_marks A) := by
  refine T.F_contrary_marks.ok sc_contrary_marks (fun vs H Q E h => ?_) (fun cdv A_ outer s_ H_0 vs Q E hr h => ?_)
  · obtain ⟨ms, x_marks, KM, rfl, _⟩ := h
    rfl
  · obtain ⟨ms, x_marks, KM, rfl, hW, hM, hQ⟩ := h
    unfold M_contrary_marks at hM
    refine ⟨_, (pss_one (ps_ret (pe_join pe_str (pe_lc (own := [("mark", 1)]) (g := gName 1) rfl sc_contrary_marks.nd (pi_str (pv 0)) (blkOk_by (N := ["marks", "mark"]) (sc := defScope s_contrary_marks) (by decide +kernel)) (fun _ _ _ _ _ => pg_name (i := 1) sc_contrary_marks.nd rfl (by first | exact Or.inl rfl | exact Or.inr rfl)) (fun _ _ _ _ _ => pts_nil) (fun _ _ _ _ _ => (pe_ix (ix_kdictW (K := K) (w := w) rfl rfl) (pe_glob (v := .ref A.wd_CONTRARIES) (by rfl) T.g_CONTRARIES rfl) (pv 1) (fun _ _ => rfl))))))), ?_⟩
    refine ⟨⟨_, rfl⟩, ?_⟩
    refine ⟨_, rfl, ?_⟩
    refine ⟨_, rfl, ?_⟩
    refine fun L1 nl2 => ?_
    have nm16 := nm_new hW nl2
    refine lc_strG (L := L1) (fun n_ ys_ h_ => Wd (L1 :: ms) [] [] H_0 h_ ∧ Keep (L1 :: ms) H_0 h_ ∧ MutO (L1 :: ms) [] H_0 h_ L1 (D.lst (ys_.map (fun y_ : Str => (D.v (V.str y_))))) ∧ ys_.length ≤ n_) hM ⟨wd_cell hW nl2, keep_cell nl2 Keep.refl, mo_newL (ds := []) hW nl2 repL_nil, Nat.le_refl _⟩ ?_ ?_
    · skip
      rintro x12  n3 ys4 k5 H17 hn ⟨hW, hk6, mu7, ln8⟩ hM Nx11 hN9
      refine ⟨rfl, ?_⟩
      refine tyes_of ?_
      refine ⟨_, rfl, ?_⟩
      obtain ⟨c18, h19, hM⟩ := hM
      apply rep_ixD T.kd_CONTRARIES h19
      refine mo_end mu7 hn (by rw [List.length_map]; exact ln8) fun vs20 hr21 => ?_
      have mk23 := mo_setL mu7 (repL_snoc (e := (fun y_ : Str => (D.v (V.str y_)))) (xs := ys4) (y := c18) hr21 rep_v)
      replace hk6 := keep_put (o := .lst (vs20 ++ [V.str c18])) mu7.im hk6
      replace hW := wd_put (o := .lst (vs20 ++ [V.str c18])) hW mu7
      replace mu7 := mk23
      generalize upd H17 L1 (.lst (vs20 ++ [V.str c18])) = H24 at *
      replace mu7 : MutO (L1 :: ms) [] H_0 H24 L1 (D.lst ((ys4 ++ [c18]).map (fun y_ : Str => (D.v (V.str y_))))) := mu7
      clear mk23
      exact hN9 c18 _ hM ⟨hW, hk6, mu7, by rw [List.length_append]; exact Nat.add_le_add_right ln8 1⟩
    · skip
      rintro n3 ys25 H26 hM ⟨hW, hk6, mu7, ln8⟩
      clear hk6 ln8
      have h27 := mo_rep_dr dr_here nm16 mu7
      replace hW := wd_dr dr_here mu7.hp hW
      clear mu7
      obtain ⟨g28, hM⟩ := hM
      apply rep_join (a := ("" : Str)) (ys := ys25) h27 g28
      exact hQ (Txt.join ("" : Str) ys25) _ _ hM hW.out rep_v
def M_Picture_contrary (x_self : (List (Int × Int × Str))) (KM : (List (Int × Int × Str)) → Prop) : Prop :=
  (x_self.length < 100000 ∧ mapC (fun (x19 : (Int × Int × Str)) (k12 : (Int × Int × Str) → Prop) => (M_contrary_marks x19.2.2 fun r39 => (k12 (x19.1, x19.2.1, r39)))) x_self [] fun ys55 => (M_Picture_init ys55 fun r61 => (KM r61)))
def sp_Picture_contrary (A : Ad) : Sp := fun vs H Q _ => ∃ (ms : List Addr) (v_self : V) (x_self : (List (Int × Int × Str))) (KM : (List (Int × Int × Str)) → Prop), vs = [v_self] ∧ Wd ms [] [] H H ∧ rep ms H (ePicture A x_self) v_self ∧ M_Picture_contrary x_self KM ∧ ∀ (r : (List (Int × Int × Str))) (u : V) (H1 : Hp), KM r → Ret [] H H1 → rep ms H1 (ePicture A r) u → Q u H1
set_option maxHeartbeats 16000000 in
theorem ok_Picture_contrary {P : Program} {w : World} {K : PySem.W.Frag} {mg : Str → Option Value} {base : Heap} {A : Ad} (T : Txt w K mg A) : FnOk P w K mg base CX0 7 A.a_Picture_contrary A.d_Picture_contrary ["self"] (sp_Picture_contrary A) := by
  refine T.F_Picture_contrary.ok sc_Picture_contrary (fun vs H Q E h => ?_) (fun cdv A_ outer s_ H_0 vs Q E hr h => ?_)
  · obtain ⟨ms, v_self, x_self, KM, rfl, _⟩ := h
    rfl
  · obtain ⟨ms, v_self, x_self, KM, rfl, hW, h_self, hM, hQ⟩ := h
    unfold M_Picture_contrary at hM
    refine ⟨_, (pss_one (ps_ret (pe_make T.mk_Picture (ok_Picture_init T) (hr.mono (by decide)) (by rfl) T.g_Picture T.b_Picture_init .nil pass0 (pa_cons (pe_lc (own := [("team", 1), ("later", 2), ("mark", 3)]) (g := (gTup K 3 (gCons (gName 1) (gCons (gName 2) (gCons (gName 3) gNil))))) rfl sc_Picture_contrary.nd (pi_tup (pe_fld (pv 0) rfl)) (blkOk_by (N := ["self", "team", "later", "mark"]) (sc := defScope s_Picture_contrary) (by decide +kernel)) (fun _ _ _ _ _ => (pg_tup rfl (pgs_cons (pg_name (i := 1) sc_Picture_contrary.nd rfl (by first | exact Or.inl rfl | exact Or.inr rfl)) (pgs_cons (pg_name (i := 2) sc_Picture_contrary.nd rfl (by first | exact Or.inl rfl | exact Or.inr rfl)) (pgs_cons (pg_name (i := 3) sc_Picture_contrary.nd rfl (by first | exact Or.inl rfl | exact Or.inr rfl)) pgs_nil))))) (fun _ _ _ _ _ => pts_nil) (fun _ _ _ _ _ => (pe_tup (pa_cons (pv 1) (pa_cons (pv 2) (pa_cons (pe_call (ok_contrary_marks T) (hr.mono (by decide)) (by rfl) T.g_contrary_marks T.F_contrary_marks.kp T.b_contrary_marks .nil pass0 (pa_cons (pv 3) pa_nil)) pa_nil)))))) pa_nil)))), ?_⟩
    refine ⟨_, rfl, ?_⟩
    apply rep_fld (j := 0) h_self T.cl_Picture T.na_Picture__cells nd_Picture rfl rfl
    intro u2 h1
    apply rep_iterT h1
    intro a3 xs4 _ an5 hp6 hl7
    refine fun L8 nl9 => ?_
    have nm23 := nm_new hW nl9
    refine lc_tupG (L := L8) (fun n_ ys_ h_ => Wd (L8 :: ms) [] [] H_0 h_ ∧ Keep (L8 :: ms) H_0 h_ ∧ MutO (L8 :: ms) [] H_0 h_ L8 (D.lst (ys_.map (fun y_ : (Int × Int × Str) => (D.tup [(D.v (V.int y_.1)), (D.v (V.int y_.2.1)), (D.v (V.str y_.2.2))])))) ∧ ys_.length ≤ n_) (items := x_self) (e := (fun y_ : (Int × Int × Str) => (D.tup [(D.v (V.int y_.1)), (D.v (V.int y_.2.1)), (D.v (V.str y_.2.2))]))) an5 hp6 hl7 nl9 (fun _ _ _ q_ => q_.2.1) hM ⟨wd_cell hW nl9, keep_cell nl9 Keep.refl, mo_newL (ds := []) hW nl9 repL_nil, Nat.le_refl _⟩ ?_ ?_
    · skip
      rintro x19 u20 n10 ys11 k12 H24 hn ⟨hW, hk13, mu14, ln15⟩ h21 hM Nx18 hN16
      replace h_self := rep_keep hk13 (rep_new nl9 h_self)
      replace h1 := rep_keep hk13 (rep_new nl9 h1)
      apply rep_gtup h21 rfl
      intro vs25 hv26
      obtain ⟨u27, us28, rfl, h29, hv30⟩ := repL_uncons hv26
      obtain rfl := of_v h29
      obtain ⟨u31, us32, rfl, h33, hv34⟩ := repL_uncons hv30
      obtain rfl := of_v h33
      obtain ⟨u35, us36, rfl, h37, hv38⟩ := repL_uncons hv34
      obtain rfl := of_v h37
      obtain rfl := repL_empty hv38
      refine ⟨_, _, rfl, ?_⟩
      refine ⟨_, _, rfl, ?_⟩
      refine ⟨_, _, rfl, ?_⟩
      refine ⟨rfl, ?_⟩
      refine ⟨rfl, ?_⟩
      refine tyes_of ?_
      refine ⟨_, rfl, ?_⟩
      refine ⟨_, rfl, ?_⟩
      refine ⟨_, rfl, ?_⟩
      refine ⟨(L8 :: ms), x19.2.2, _, rfl, hW.enter0, hM, fun r39 u42 H43 hM e41 h40 => ?_⟩
      replace h_self := rep_ext e41 h_self
      replace h1 := rep_ext e41 h1
      replace hk13 := keep_ext e41 hk13
      replace h21 := rep_ext e41 h21
      replace mu14 := mo_ext e41 mu14
      replace hW := hW.ret0 e41
      obtain rfl := of_v h40
      refine ⟨(by show 3 ≤ sizeLine; decide), ?_⟩
      intro p44 n48
      have e45 := Rx.Ext.new (H := H43) (o := (HO.tup [V.int x19.1, V.int x19.2.1, V.str r39])) n48
      have hp46 : upd H43 p44 (HO.tup [V.int x19.1, V.int x19.2.1, V.str r39]) p44 = some (HO.tup [V.int x19.1, V.int x19.2.1, V.str r39]) := upd_same
      generalize upd H43 p44 (HO.tup [V.int x19.1, V.int x19.2.1, V.str r39]) = H49 at e45 hp46 ⊢
      have h47 : rep (L8 :: ms) H49 (D.tup [(D.v (V.int x19.1)), (D.v (V.int x19.2.1)), (D.v (V.str r39))]) (.ref p44) := rep_tup_mk hW n48 e45 hp46 (repL_cons rep_v (repL_cons rep_v (repL_cons rep_v repL_nil)))
      replace h_self := rep_ext e45 h_self
      replace h1 := rep_ext e45 h1
      replace hk13 := keep_ext e45 hk13
      replace h21 := rep_ext e45 h21
      replace mu14 := mo_ext e45 mu14
      replace hW := hW.ret0 e45
      refine mo_end mu14 hn (by rw [List.length_map]; exact ln15) fun vs50 hr51 => ?_
      have mk53 := mo_setL mu14 (repL_snoc (e := (fun y_ : (Int × Int × Str) => (D.tup [(D.v (V.int y_.1)), (D.v (V.int y_.2.1)), (D.v (V.str y_.2.2))]))) (xs := ys11) (y := (x19.1, x19.2.1, r39)) hr51 h47)
      replace h_self := rep_put (o := .lst (vs50 ++ [(V.ref p44)])) mu14.im h_self
      replace h1 := rep_put (o := .lst (vs50 ++ [(V.ref p44)])) mu14.im h1
      replace hk13 := keep_put (o := .lst (vs50 ++ [(V.ref p44)])) mu14.im hk13
      replace h21 := rep_put (o := .lst (vs50 ++ [(V.ref p44)])) mu14.im h21
      replace h47 := rep_put (o := .lst (vs50 ++ [(V.ref p44)])) mu14.im h47
      replace hW := wd_put (o := .lst (vs50 ++ [(V.ref p44)])) hW mu14
      replace mu14 := mk53
      generalize upd H49 L8 (.lst (vs50 ++ [(V.ref p44)])) = H54 at *
      replace mu14 : MutO (L8 :: ms) [] H_0 H54 L8 (D.lst ((ys11 ++ [(x19.1, x19.2.1, r39)]).map (fun y_ : (Int × Int × Str) => (D.tup [(D.v (V.int y_.1)), (D.v (V.int y_.2.1)), (D.v (V.str y_.2.2))])))) := mu14
      clear mk53
      exact hN16 (x19.1, x19.2.1, r39) _ hM ⟨hW, hk13, mu14, by rw [List.length_append]; exact Nat.add_le_add_right ln15 1⟩
    · skip
      rintro n10 ys55 H56 hM ⟨hW, hk13, mu14, ln15⟩
      replace h_self := rep_keep hk13 (rep_new nl9 h_self)
      replace h1 := rep_keep hk13 (rep_new nl9 h1)
      clear hk13 ln15
      have h57 := mo_rep_dr dr_here nm23 mu14
      replace hW := wd_dr dr_here mu14.hp hW
      replace h_self := rep_dr dr_here h_self
      replace h1 := rep_dr dr_here h1
      clear mu14
      conv => whnf
      apply make_Picture_init (ms := ms) hW h57 hM
      intro p58 H62 r61 hM e60 h59
      replace h_self := rep_ext e60 h_self
      replace h1 := rep_ext e60 h1
      replace h57 := rep_ext e60 h57
      replace hW := hW.ret0 e60
      exact hQ r61 _ _ hM hW.out h59
def M_Picture_eq (x_self : (List (Int × Int × Str))) (x_other : (List (Int × Int × Str))) (KM : Bool → Prop) : Prop :=
  (((plainD (D.tup (x_self.map (fun y_ : (Int × Int × Str) => (D.tup [(D.v (V.int y_.1)), (D.v (V.int y_.2.1)), (D.v (V.str y_.2.2))])))) = true ∧ plainD (D.tup (x_other.map (fun y_ : (Int × Int × Str) => (D.tup [(D.v (V.int y_.1)), (D.v (V.int y_.2.1)), (D.v (V.str y_.2.2))])))) = true ∧ SeqAt.shaped (pyOf (D.tup (x_self.map (fun y_ : (Int × Int × Str) => (D.tup [(D.v (V.int y_.1)), (D.v (V.int y_.2.1)), (D.v (V.str y_.2.2))]))))) = true ∧ SeqAt.shaped (pyOf (D.tup (x_other.map (fun y_ : (Int × Int × Str) => (D.tup [(D.v (V.int y_.1)), (D.v (V.int y_.2.1)), (D.v (V.str y_.2.2))]))))) = true)) ∧ (KM (PyData.eqv (pyOf (D.tup (x_self.map (fun y_ : (Int × Int × Str) => (D.tup [(D.v (V.int y_.1)), (D.v (V.int y_.2.1)), (D.v (V.str y_.2.2))]))))) (pyOf (D.tup (x_other.map (fun y_ : (Int × Int × Str) => (D.tup [(D.v (V.int y_.1)), (D.v (V.int y_.2.1)), (D.v (V.str y_.2.2))]))))))))
def sp_Picture_eq (A : Ad) : Sp := fun vs H Q _ => ∃ (ms : List Addr) (v_self : V) (v_other : V) (x_self : (List (Int × Int × Str))) (x_other : (List (Int × Int × Str))) (KM : Bool → Prop), vs = [v_self, v_other] ∧ Wd ms [] [] H H ∧ rep ms H (ePicture A x_self) v_self ∧ rep ms H (ePicture A x_other) v_other ∧ M_Picture_eq x_self x_other KM ∧ ∀ (r : Bool) (u : V) (H1 : Hp), KM r → Ret [] H H1 → rep ms H1 (D.v (V.bl r)) u → Q u H1
set_option maxHeartbeats 16000000 in
theorem ok_Picture_eq {P : Program} {w : World} {K : PySem.W.Frag} {mg : Str → Option Value} {base : Heap} {A : Ad} (T : Txt w K mg A) : FnOk P w K mg base CX0 1 A.a_Picture_eq A.d_Picture_eq ["self", "other"] (sp_Picture_eq A) := by
  refine T.F_Picture_eq.ok sc_Picture_eq (fun vs H Q E h => ?_) (fun cdv A_ outer s_ H_0 vs Q E hr h => ?_)
  · obtain ⟨ms, v_self, v_other, x_self, x_other, KM, rfl, _⟩ := h
    rfl
  · obtain ⟨ms, v_self, v_other, x_self, x_other, KM, rfl, hW, h_self, h_other, hM, hQ⟩ := h
    unfold M_Picture_eq at hM
    refine ⟨_, (pss_one (ps_ret (pe_and (pe_callB (call_isiK (K := K) rfl) (by rfl) T.z_isinstance (by decide +kernel) (pa_cons (pv 1) (pa_cons (pe_glob (v := .ref A.c_Picture) (by rfl) T.g_Picture rfl) pa_nil))) (pe_one (pe_cmpR (op_eqDK (K := K) rfl hr.units) (pe_fld (pv 0) rfl) (pe_fld (pv 1) rfl) (nomark _)))))), ?_⟩
    refine ⟨_, rfl, ?_⟩
    apply rep_isi h_other T.ic_Picture
    refine ⟨_, rfl, ?_⟩
    refine iteT ?_
    refine ⟨_, rfl, ?_⟩
    apply rep_fld (j := 0) h_self T.cl_Picture T.na_Picture__cells nd_Picture rfl rfl
    intro u2 h1
    refine ⟨_, rfl, ?_⟩
    apply rep_fld (j := 0) h_other T.cl_Picture T.na_Picture__cells nd_Picture rfl rfl
    intro u4 h3
    obtain ⟨g5, hM⟩ := hM
    apply rep_eqD (d := (D.tup (x_self.map (fun y_ : (Int × Int × Str) => (D.tup [(D.v (V.int y_.1)), (D.v (V.int y_.2.1)), (D.v (V.str y_.2.2))]))))) (e := (D.tup (x_other.map (fun y_ : (Int × Int × Str) => (D.tup [(D.v (V.int y_.1)), (D.v (V.int y_.2.1)), (D.v (V.str y_.2.2))]))))) h1 h3 g5.1 g5.2.1 g5.2.2.1 g5.2.2.2
    exact hQ (PyData.eqv (pyOf (D.tup (x_self.map (fun y_ : (Int × Int × Str) => (D.tup [(D.v (V.int y_.1)), (D.v (V.int y_.2.1)), (D.v (V.str y_.2.2))]))))) (pyOf (D.tup (x_other.map (fun y_ : (Int × Int × Str) => (D.tup [(D.v (V.int y_.1)), (D.v (V.int y_.2.1)), (D.v (V.str y_.2.2))])))))) _ _ hM hW.out rep_v
def M_Picture_eq_oPictureD (x_self : (List (Int × Int × Str))) (x_other : D) (KM : Bool → Prop) : Prop :=
  (noI x_other = true ∧ (KM false))
def sp_Picture_eq_oPictureD (A : Ad) : Sp := fun vs H Q _ => ∃ (ms : List Addr) (v_self : V) (v_other : V) (x_self : (List (Int × Int × Str))) (x_other : D) (KM : Bool → Prop), vs = [v_self, v_other] ∧ Wd ms [] [] H H ∧ rep ms H (ePicture A x_self) v_self ∧ rep ms H x_other v_other ∧ M_Picture_eq_oPictureD x_self x_other KM ∧ ∀ (r : Bool) (u : V) (H1 : Hp), KM r → Ret [] H H1 → rep ms H1 (D.v (V.bl r)) u → Q u H1
set_option maxHeartbeats 16000000 in
theorem ok_Picture_eq_oPictureD {P : Program} {w : World} {K : PySem.W.Frag} {mg : Str → Option Value} {base : Heap} {A : Ad} (T : Txt w K mg A) : FnOk P w K mg base CX0 1 A.a_Picture_eq A.d_Picture_eq ["self", "other"] (sp_Picture_eq_oPictureD A) := by
  refine T.F_Picture_eq.ok sc_Picture_eq (fun vs H Q E h => ?_) (fun cdv A_ outer s_ H_0 vs Q E hr h => ?_)
  · obtain ⟨ms, v_self, v_other, x_self, x_other, KM, rfl, _⟩ := h
    rfl
  · obtain ⟨ms, v_self, v_other, x_self, x_other, KM, rfl, hW, h_self, h_other, hM, hQ⟩ := h
    unfold M_Picture_eq_oPictureD at hM
    refine ⟨_, (pss_one (ps_ret (pe_and (pe_callB (call_isiK (K := K) rfl) (by rfl) T.z_isinstance (by decide +kernel) (pa_cons (pv 1) (pa_cons (pe_glob (v := .ref A.c_Picture) (by rfl) T.g_Picture rfl) pa_nil))) (pe_one pe_never)))), ?_⟩
    refine ⟨_, rfl, ?_⟩
    obtain ⟨g1, hM⟩ := hM
    apply rep_isN2 (d := x_other) h_other g1 T.in_Picture
    refine ⟨_, rfl, ?_⟩
    refine iteF ?_
    exact hQ false _ _ hM hW.out rep_v
def M_right (KM : Bool → Prop) : Prop :=
  (M_some_cells  fun r1 => (M_Picture_init r1 fun r24 => (M_bent r1 fun r26 => ((r1.map (fun y_ : (Int × Int × Str) => (D.tup [(D.v (V.int y_.1)), (D.v (V.int y_.2.1)), (D.v (V.str y_.2.2))]))).length < 16777216 ∧ (0 ≤ (0 : Int) ∧ Int.toNat (0 : Int) < ((r1.map (fun y_ : (Int × Int × Str) => (D.tup [(D.v (V.int y_.1)), (D.v (V.int y_.2.1)), (D.v (V.str y_.2.2))]))) ++ [(D.v V.non)]).length ∧ (M_told_right r24 r1 fun r61 => (if (!r61) = true then (KM false) else (M_Picture_init_nvtiis (r1.reverse) fun r85 => (M_told_right r85 r1 fun r87 => (if (!r87) = true then (KM false) else (r1.length < 100000 ∧ mapC (fun (x108 : (Int × Int × Str)) (k101 : (Int × Int × Str) → Prop) => (M_other x108.2.2 fun r128 => (k101 (x108.1, x108.2.1, r128)))) r1 [] fun ys144 => (M_Picture_contrary r24 fun r147 => (M_told_right r147 ys144 fun r152 => (if (!r152) = true then (KM false) else (M_Picture_contrary r24 fun r157 => (M_Picture_init ys144 fun r165 => (M_Picture_eq r157 r165 fun r167 => (if (!r167) = true then (KM false) else (M_Picture_contrary r24 fun r172 => (M_Picture_contrary r172 fun r177 => (M_Picture_eq r177 r24 fun r182 => (if (!r182) = true then (KM false) else (M_Picture_contrary r24 fun r187 => (M_Picture_eq r24 r187 fun r192 => (if r192 = true then (KM false) else (M_Picture_init (r1.reverse) fun r208 => (M_Picture_eq r24 r208 fun r210 => (if (!r210) = true then (KM false) else (if (Option.isSome r26) = true then (∃ y215, r26 = some y215 ∧ (M_Picture_init y215 fun r221 => (M_Picture_eq r221 r24 fun r223 => (if r223 = true then (KM false) else (M_told_right r221 y215 fun r228 => (if (!r228) = true then (KM false) else (M_Picture_cells r24 fun r234 => (M_Picture_repr r24 fun r248 => (M_Picture_str r24 fun r253 => (([(D.v V.non), (D.tup (r234.map (fun y_ : (Int × Int × Str) => (D.tup [(D.v (V.int y_.1)), (D.v (V.int y_.2.1)), (D.v (V.str y_.2.2))])))), (D.lst (r1.map (fun y_ : (Int × Int × Str) => (D.tup [(D.v (V.int y_.1)), (D.v (V.int y_.2.1)), (D.v (V.str y_.2.2))])))), (D.v (V.str r248)), (D.v (V.str r253)), (D.v (V.int (0 : Int)))] : List D).length < 100000 ∧ mapC (fun (x280 : D) (k273 : Bool → Prop) => (noI x280 = true ∧ (M_Picture_eq_oPictureD r24 x280 fun r287 => (k273 r287)))) ([(D.v V.non), (D.tup (r234.map (fun y_ : (Int × Int × Str) => (D.tup [(D.v (V.int y_.1)), (D.v (V.int y_.2.1)), (D.v (V.str y_.2.2))])))), (D.lst (r1.map (fun y_ : (Int × Int × Str) => (D.tup [(D.v (V.int y_.1)), (D.v (V.int y_.2.1)), (D.v (V.str y_.2.2))])))), (D.v (V.str r248)), (D.v (V.str r253)), (D.v (V.int (0 : Int)))] : List D) [] fun ys297 => (if (List.any ys297 id) = true then (KM false) else (M_told_right r24 r1 fun r300 => (KM r300))))))))))))) else (M_Picture_cells r24 fun r306 => (M_Picture_repr r24 fun r320 => (M_Picture_str r24 fun r325 => (([(D.v V.non), (D.tup (r306.map (fun y_ : (Int × Int × Str) => (D.tup [(D.v (V.int y_.1)), (D.v (V.int y_.2.1)), (D.v (V.str y_.2.2))])))), (D.lst (r1.map (fun y_ : (Int × Int × Str) => (D.tup [(D.v (V.int y_.1)), (D.v (V.int y_.2.1)), (D.v (V.str y_.2.2))])))), (D.v (V.str r320)), (D.v (V.str r325)), (D.v (V.int (0 : Int)))] : List D).length < 100000 ∧ mapC (fun (x352 : D) (k345 : Bool → Prop) => (noI x352 = true ∧ (M_Picture_eq_oPictureD r24 x352 fun r359 => (k345 r359)))) ([(D.v V.non), (D.tup (r306.map (fun y_ : (Int × Int × Str) => (D.tup [(D.v (V.int y_.1)), (D.v (V.int y_.2.1)), (D.v (V.str y_.2.2))])))), (D.lst (r1.map (fun y_ : (Int × Int × Str) => (D.tup [(D.v (V.int y_.1)), (D.v (V.int y_.2.1)), (D.v (V.str y_.2.2))])))), (D.v (V.str r320)), (D.v (V.str r325)), (D.v (V.int (0 : Int)))] : List D) [] fun ys369 => (if (List.any ys369 id) = true then (KM false) else (M_told_right r24 r1 fun r372 => (KM r372))))))))))))))))))))))))))))))))))))
def sp_right (A : Ad) : Sp := fun vs H Q _ => ∃ (ms : List Addr) (ap : Addr) (KM : Bool → Prop), vs = [.ref ap] ∧ Wd ms [ap] [] H H ∧ M_right  KM ∧ ∀ (r : Bool) (u : V) (H1 : Hp), KM r → Ret [ap] H H1 → rep ms H1 (D.v (V.bl r)) u → Q u H1
set_option maxHeartbeats 16000000 in
theorem ok_right {P : Program} {w : World} {K : PySem.W.Frag} {mg : Str → Option Value} {base : Heap} {A : Ad} (T : Txt w K mg A) : FnG P w K mg base 8 A.a_right A.d_right ["_law_pot_here"] (sp_right A) := by
  refine okG T.F_right sc_right (fun vs H Q E h => ?_) (fun cdv A_ outer s_ H_0 vs Q E gu hr h => ?_)
  · obtain ⟨ms, ap, KM, rfl, _⟩ := h
    rfl
  · obtain ⟨ms, ap, KM, rfl, hW, hM, hQ⟩ := h
    unfold M_right at hM
    refine ⟨_, (pss_cons (ps_set (i := 1) sc_right.nd rfl (by first | exact Or.inl rfl | exact Or.inr rfl) (pe_call (ok_some_cells T) (hr.mono (by decide)) (by rfl) T.g_some_cells T.F_some_cells.kp T.b_some_cells .nil pass0 (pa_cons (pv 0) pa_nil))) (pss_cons (ps_set (i := 2) sc_right.nd rfl (by first | exact Or.inl rfl | exact Or.inr rfl) (pe_callTy (call_list_ofK (K := K) rfl) (by rfl) T.z_list (by decide +kernel) (pa_cons (pv 1) pa_nil))) (pss_cons (ps_asg (pe_tup (pa_cons (pe_make T.mk_Picture (ok_Picture_init T) (hr.mono (by decide)) (by rfl) T.g_Picture T.b_Picture_init .nil pass0 (pa_cons (pv 2) pa_nil)) (pa_cons (pe_call (ok_bent T) (hr.mono (by decide)) (by rfl) T.g_bent T.F_bent.kp T.b_bent .nil pass0 (pa_cons (pv 0) (pa_cons (pv 1) pa_nil))) pa_nil))) (pg_tup rfl (pgs_cons (pg_name (i := 3) sc_right.nd rfl (by first | exact Or.inl rfl | exact Or.inr rfl)) (pgs_cons (pg_name (i := 4) sc_right.nd rfl (by first | exact Or.inl rfl | exact Or.inr rfl)) pgs_nil)))) (pss_cons (ps_expr (pe_bmK (K := K) rfl PySem.F.plainAttrs_list PySem.F.slot_list_append PySem.F.type_list_append mt_append (pv 2) (pa_cons pe_non pa_nil))) (pss_cons (ps_asg pe_non (pg_sub (pv 2) pe_int set_list)) (pss_cons (ps_if (PW.pt (pw_or (pt_not (pt_val (pe_callG (ok_told_right T) gu (hr.mono (by decide)) (by rfl) T.g_told_right T.F_told_right.kp T.b_told_right (pa_cons (pv 3) (pa_cons (pv 1) pa_nil))))) (pw_or1 (pt_not (pt_val (pe_callG (ok_told_right T) gu (hr.mono (by decide)) (by rfl) T.g_told_right T.F_told_right.kp T.b_told_right (pa_cons (pe_makeK0 T.mk_Picture (ok_Picture_init_nvtiis T) (hr.mono (by decide)) (by rfl) T.g_Picture T.k_Picture_init_cells pass0 (pk_cons (pe_callTy (call_tuple_ofK (K := K) rfl) (by rfl) T.z_tuple (by decide +kernel) (pa_cons (pe_revL (pv 1)) pa_nil)) pk_nil)) (pa_cons (pv 1) pa_nil)))))))) (pss_one (ps_ret pe_bl)) pss_nil) (pss_cons (ps_setLc (i := 5) (own := [("_law_who", 7), ("_law_later", 8), ("_law_mark", 9)]) (g := (gTup K 3 (gCons (gName 7) (gCons (gName 8) (gCons (gName 9) gNil))))) rfl sc_right.nd rfl rfl (sw_true rfl rfl rfl (by decide +kernel)) (pi_list (pv 1)) (blkOk_by (N := ["_law_pot_here", "_law_some", "_law_given", "_law_shape", "_law_bent_here", "_law_turned_now", "_law_mate", "_law_who", "_law_later", "_law_mark", "_law_thing"]) (sc := defScope s_right) (by decide +kernel)) (fun _ _ _ _ _ => (pg_tup rfl (pgs_cons (pg_name (i := 7) sc_right.nd rfl (by first | exact Or.inl rfl | exact Or.inr rfl)) (pgs_cons (pg_name (i := 8) sc_right.nd rfl (by first | exact Or.inl rfl | exact Or.inr rfl)) (pgs_cons (pg_name (i := 9) sc_right.nd rfl (by first | exact Or.inl rfl | exact Or.inr rfl)) pgs_nil))))) (fun _ _ _ _ _ => pts_nil) (fun _ _ _ _ _ => (pe_tup (pa_cons (pv 7) (pa_cons (pv 8) (pa_cons (pe_call (ok_other T) (hr.mono (by decide)) (by rfl) T.g_other T.F_other.kp T.b_other .nil pass0 (pa_cons (pv 9) pa_nil)) pa_nil)))))) (pss_cons (ps_if (PW.pt (pw_or (pt_not (pt_val (pe_callG (ok_told_right T) gu (hr.mono (by decide)) (by rfl) T.g_told_right T.F_told_right.kp T.b_told_right (pa_cons (pe_meth0 (pv 3) T.cl_Picture T.m_Picture_contrary (ok_Picture_contrary T) (hr.mono (by decide)) T.b_Picture_contrary .nil pass0) (pa_cons (pv 5) pa_nil))))) (pw_or1 (pt_cmpR (op_neOwn (ok_Picture_eq T) (hr.mono (by decide)) T.oe_Picture T.on_Picture T.b_Picture_eq pass0) (pe_meth0 (pv 3) T.cl_Picture T.m_Picture_contrary (ok_Picture_contrary T) (hr.mono (by decide)) T.b_Picture_contrary .nil pass0) (pe_make T.mk_Picture (ok_Picture_init T) (hr.mono (by decide)) (by rfl) T.g_Picture T.b_Picture_init .nil pass0 (pa_cons (pv 5) pa_nil)) (nomark _))))) (pss_one (ps_ret pe_bl)) pss_nil) (pss_cons (ps_if (PW.pt (pw_or (pt_cmpR (op_neOwn (ok_Picture_eq T) (hr.mono (by decide)) T.oe_Picture T.on_Picture T.b_Picture_eq pass0) (pe_meth0 (pe_meth0 (pv 3) T.cl_Picture T.m_Picture_contrary (ok_Picture_contrary T) (hr.mono (by decide)) T.b_Picture_contrary .nil pass0) T.cl_Picture T.m_Picture_contrary (ok_Picture_contrary T) (hr.mono (by decide)) T.b_Picture_contrary .nil pass0) (pv 3) (nomark _)) (pw_or (pt_cmpR (op_eqOwn (ok_Picture_eq T) (hr.mono (by decide)) T.oe_Picture T.b_Picture_eq pass0) (pv 3) (pe_meth0 (pv 3) T.cl_Picture T.m_Picture_contrary (ok_Picture_contrary T) (hr.mono (by decide)) T.b_Picture_contrary .nil pass0) (nomark _)) (pw_or1 (pt_cmpR (op_neOwn (ok_Picture_eq T) (hr.mono (by decide)) T.oe_Picture T.on_Picture T.b_Picture_eq pass0) (pv 3) (pe_make T.mk_Picture (ok_Picture_init T) (hr.mono (by decide)) (by rfl) T.g_Picture T.b_Picture_init .nil pass0 (pa_cons (pe_revL (pv 1)) pa_nil)) (nomark _)))))) (pss_one (ps_ret pe_bl)) pss_nil) (pss_cons (ps_if (pt_cmpR op_notN (pv 4) pe_non (nomark _)) (pss_cons (ps_set (i := 6) sc_right.nd rfl (by first | exact Or.inl rfl | exact Or.inr rfl) (pe_make T.mk_Picture (ok_Picture_init T) (hr.mono (by decide)) (by rfl) T.g_Picture T.b_Picture_init .nil pass0 (pa_cons (pv 4) pa_nil))) (pss_one (ps_if (PW.pt (pw_or (pt_cmpR (op_eqOwn (ok_Picture_eq T) (hr.mono (by decide)) T.oe_Picture T.b_Picture_eq pass0) (pv 6) (pv 3) (nomark _)) (pw_or1 (pt_not (pt_val (pe_callG (ok_told_right T) gu (hr.mono (by decide)) (by rfl) T.g_told_right T.F_told_right.kp T.b_told_right (pa_cons (pv 6) (pa_cons (pv 4) pa_nil)))))))) (pss_one (ps_ret pe_bl)) pss_nil))) pss_nil) (pss_cons (ps_if (pt_val (pe_callB (cr_anyK (K := K) rfl rfl) (by rfl) T.z_any (by decide +kernel) (pa_cons (pe_lc (own := [("_law_thing", 10)]) (g := gName 10) rfl sc_right.nd (pi_list (pe_lst (pa_cons pe_non (pa_cons (pe_prop (pv 3) T.cl_Picture T.p_Picture_cells (ok_Picture_cells T) (hr.mono (by decide)) T.b_Picture_cells .nil pass0 rfl) (pa_cons (pe_callTy (call_list_ofK (K := K) rfl) (by rfl) T.z_list (by decide +kernel) (pa_cons (pv 1) pa_nil)) (pa_cons (pe_callB (call_reprOwnG (ok_Picture_repr T) gu (hr.mono (by decide)) T.ow_Picture_repr T.b_Picture_repr) (by rfl) T.z_repr (by decide +kernel) (pa_cons (pv 3) pa_nil)) (pa_cons (pe_callTy (call_strOwn (ok_Picture_str T) (hr.mono (by decide)) T.ow_Picture_str T.b_Picture_str pass0) (by rfl) T.z_str (by decide +kernel) (pa_cons (pv 3) pa_nil)) (pa_cons pe_int pa_nil)))))))) (blkOk_by (N := ["_law_pot_here", "_law_some", "_law_given", "_law_shape", "_law_bent_here", "_law_turned_now", "_law_mate", "_law_who", "_law_later", "_law_mark", "_law_thing"]) (sc := defScope s_right) (by decide +kernel)) (fun _ _ _ _ _ => pg_name (i := 10) sc_right.nd rfl (by first | exact Or.inl rfl | exact Or.inr rfl)) (fun _ _ _ _ _ => pts_nil) (fun _ _ _ _ _ => (pe_cmpR (op_eqOwnA (K := K) rfl (ok_Picture_eq_oPictureD T) (hr.mono (by decide)) T.oe_Picture T.b_Picture_eq pass0) (pv 3) (pv 10) (nomark _)))) pa_nil))) (pss_one (ps_ret pe_bl)) pss_nil) (pss_one (ps_ret (pe_callG (ok_told_right T) gu (hr.mono (by decide)) (by rfl) T.g_told_right T.F_told_right.kp T.b_told_right (pa_cons (pv 3) (pa_cons (pv 1) pa_nil)))))))))))))))), ?_⟩
    refine ⟨_, rfl, ?_⟩
    refine ⟨ms, ap, _, rfl, hW.enterP, hM, fun r1 u4 H5 hM e3 h2 => ?_⟩
    replace hW := hW.retP e3
    refine ⟨_, rfl, ?_⟩
    apply rep_listL h2
    intro ys6 hr7
    intro L14 nl15
    have nm16 := nm_new hW nl15
    have mu17 := mo_newL (ds := r1.map (fun y_ : (Int × Int × Str) => (D.tup [(D.v (V.int y_.1)), (D.v (V.int y_.2.1)), (D.v (V.str y_.2.2))]))) (vs := ys6) hW nl15 hr7
    replace h2 := rep_cell (o := .lst ys6) nl15 h2
    replace hW := wd_cell (o := .lst ys6) hW nl15
    generalize upd H5 L14 (.lst ys6) = H18 at *
    replace mu17 : MutO (L14 :: ms) [ap] H_0 H18 L14 (D.lst (r1.map (fun y_ : (Int × Int × Str) => (D.tup [(D.v (V.int y_.1)), (D.v (V.int y_.2.1)), (D.v (V.str y_.2.2))])))) := mu17
    refine ⟨_, rfl, ?_⟩
    have h19 := mo_rep_dr dr_here nm16 mu17
    have hW20 := wd_dr dr_here mu17.hp hW
    conv => whnf
    apply make_Picture_init hW20 h19 hM
    intro p21 H25 r24 hM e23 h22
    clear hW20 h19
    replace h2 := rep_ext e23 h2
    replace mu17 := mo_ext e23 mu17
    replace hW := hW.ret0 e23
    replace h22 := rep_liftO dr_here mu17.isMo _ _ (by show noM (D.ins _ _ [D.tup _]) = true; simp only [noM, noMs, Bool.and_true]; exact noMs_mapT (fun _ => rfl) _) h22
    refine ⟨_, rfl, ?_⟩
    refine ⟨_, rfl, ?_⟩
    refine ⟨(L14 :: ms), ap, _, r1, _, rfl, hW.enterP, h2, hM, fun r26 u29 H30 hM e28 h27 => ?_⟩
    replace h2 := rep_ret hW e28 h2
    replace h22 := rep_ret hW e28 h22
    replace mu17 := mo_ret hW e28 mu17
    replace hW := hW.retP e28
    refine ⟨(by show 2 ≤ sizeLine; decide), ?_⟩
    intro p31 n35
    have e32 := Rx.Ext.new (H := H30) (o := (HO.tup [(V.ref p21), u29])) n35
    have hp33 : upd H30 p31 (HO.tup [(V.ref p21), u29]) p31 = some (HO.tup [(V.ref p21), u29]) := upd_same
    generalize upd H30 p31 (HO.tup [(V.ref p21), u29]) = H36 at e32 hp33 ⊢
    have h34 : rep (L14 :: ms) H36 (D.tup [(ePicture A r24), (encO (fun y_ : (List (Int × Int × Str)) => (D.lst (y_.map (fun y_ : (Int × Int × Str) => (D.tup [(D.v (V.int y_.1)), (D.v (V.int y_.2.1)), (D.v (V.str y_.2.2))]))))) r26)]) (.ref p31) := rep_tup_mk hW n35 e32 hp33 (repL_cons h22 (repL_cons h27 repL_nil))
    replace h2 := rep_ext e32 h2
    replace h22 := rep_ext e32 h22
    replace h27 := rep_ext e32 h27
    replace mu17 := mo_ext e32 mu17
    replace hW := hW.ret0 e32
    apply rep_gtup h34 rfl
    intro vs37 hv38
    obtain ⟨u39, us40, rfl, h41, hv42⟩ := repL_uncons hv38
    obtain ⟨u43, us44, rfl, h45, hv46⟩ := repL_uncons hv42
    obtain rfl := repL_empty hv46
    refine ⟨_, _, rfl, ?_⟩
    refine ⟨_, _, rfl, ?_⟩
    refine ⟨rfl, ?_⟩
    refine ⟨_, rfl, ?_⟩
    refine ⟨mo_tyL mu17, ?_⟩
    obtain ⟨g47, hM⟩ := hM
    replace mu17 := mo_dyn (e := (fun y_ : (Int × Int × Str) => (D.tup [(D.v (V.int y_.1)), (D.v (V.int y_.2.1)), (D.v (V.str y_.2.2))]))) (xs := r1) mu17
    apply mo_appU mu17 (by rw [List.length_map]; exact g47)
    intro vs48 hr50
    have mk52 := mo_setL mu17 (repL_snoc (e := (fun y_ : D => y_)) (xs := (r1.map (fun y_ : (Int × Int × Str) => (D.tup [(D.v (V.int y_.1)), (D.v (V.int y_.2.1)), (D.v (V.str y_.2.2))])))) (y := (D.v V.non)) hr50 rep_v)
    replace h2 := rep_put (o := .lst (vs48 ++ [V.non])) mu17.im h2
    replace h22 := rep_put (o := .lst (vs48 ++ [V.non])) mu17.im h22
    replace h27 := rep_put (o := .lst (vs48 ++ [V.non])) mu17.im h27
    replace h34 := rep_put (o := .lst (vs48 ++ [V.non])) mu17.im h34
    replace h41 := rep_put (o := .lst (vs48 ++ [V.non])) mu17.im h41
    replace h45 := rep_put (o := .lst (vs48 ++ [V.non])) mu17.im h45
    replace hW := wd_put (o := .lst (vs48 ++ [V.non])) hW mu17
    replace mu17 := mk52
    generalize upd H36 L14 (.lst (vs48 ++ [V.non])) = H53 at *
    replace mu17 : MutO (L14 :: ms) [ap] H_0 H53 L14 (D.lst (((r1.map (fun y_ : (Int × Int × Str) => (D.tup [(D.v (V.int y_.1)), (D.v (V.int y_.2.1)), (D.v (V.str y_.2.2))]))) ++ [(D.v V.non)]).map (fun y_ : D => y_))) := mu17
    clear mk52
    refine ⟨_, rfl, ?_⟩
    obtain ⟨g54, g55, hM⟩ := hM
    apply mo_setU (e := (fun y_ : D => y_)) (xs := ((r1.map (fun y_ : (Int × Int × Str) => (D.tup [(D.v (V.int y_.1)), (D.v (V.int y_.2.1)), (D.v (V.str y_.2.2))]))) ++ [(D.v V.non)])) mu17 g54 g55
    intro vs56 hr57
    have mk58 := mo_setL mu17 (repL_set (e := (fun y_ : D => y_)) (y := (D.v V.non)) (Int.toNat (0 : Int)) hr57 rep_v)
    replace h2 := rep_put (o := .lst (vs56.set (Int.toNat (0 : Int)) (V.non))) mu17.im h2
    replace h22 := rep_put (o := .lst (vs56.set (Int.toNat (0 : Int)) (V.non))) mu17.im h22
    replace h27 := rep_put (o := .lst (vs56.set (Int.toNat (0 : Int)) (V.non))) mu17.im h27
    replace h34 := rep_put (o := .lst (vs56.set (Int.toNat (0 : Int)) (V.non))) mu17.im h34
    replace h41 := rep_put (o := .lst (vs56.set (Int.toNat (0 : Int)) (V.non))) mu17.im h41
    replace h45 := rep_put (o := .lst (vs56.set (Int.toNat (0 : Int)) (V.non))) mu17.im h45
    replace hW := wd_put (o := .lst (vs56.set (Int.toNat (0 : Int)) (V.non))) hW mu17
    replace mu17 := mk58
    generalize upd H53 L14 (.lst (vs56.set (Int.toNat (0 : Int)) (V.non))) = H59 at *
    replace mu17 : MutO (L14 :: ms) [ap] H_0 H59 L14 (D.lst ((((r1.map (fun y_ : (Int × Int × Str) => (D.tup [(D.v (V.int y_.1)), (D.v (V.int y_.2.1)), (D.v (V.str y_.2.2))]))) ++ [(D.v V.non)]).set (Int.toNat (0 : Int)) (D.v V.non)).map (fun y_ : D => y_))) := mu17
    clear mk58
    have h60 := mo_rep_dr dr_here nm16 mu17
    replace hW := wd_dr dr_here mu17.hp hW
    replace h2 := rep_dr dr_here h2
    replace h22 := rep_dr dr_here h22
    replace h27 := rep_dr dr_here h27
    replace h34 := rep_dr dr_here h34
    replace h41 := rep_dr dr_here h41
    replace h45 := rep_dr dr_here h45
    clear mu17
    refine ⟨_, rfl, ?_⟩
    refine ⟨_, rfl, ?_⟩
    refine ⟨ms, _, _, r24, r1, _, rfl, hW.enter0, h41, h2, hM, fun r61 u64 H65 hM e63 h62 => ?_⟩
    replace h2 := rep_ext e63 h2
    replace h22 := rep_ext e63 h22
    replace h27 := rep_ext e63 h27
    replace h34 := rep_ext e63 h34
    replace h41 := rep_ext e63 h41
    replace h45 := rep_ext e63 h45
    replace h60 := rep_ext e63 h60
    replace hW := hW.ret0 e63
    obtain rfl := of_v h62
    refine ⟨_, rfl, ?_⟩
    refine ite3 hM (fun hM => ?_) (fun hM => ?_)
    · skip
      refine iteT ?_
      exact hQ false _ _ hM hW.out rep_v
    · skip
      refine ⟨_, rfl, ?_⟩
      apply rep_lsU h2
      intro vs66 hr67
      intro p68 n72
      have e69 := Rx.Ext.new (H := H65) (o := (HO.lst (vs66.reverse))) n72
      have hp70 : upd H65 p68 (HO.lst (vs66.reverse)) p68 = some (HO.lst (vs66.reverse)) := upd_same
      generalize upd H65 p68 (HO.lst (vs66.reverse)) = H73 at e69 hp70 ⊢
      have h71 : rep ms H73 (D.lst ((r1.reverse).map (fun y_ : (Int × Int × Str) => (D.tup [(D.v (V.int y_.1)), (D.v (V.int y_.2.1)), (D.v (V.str y_.2.2))])))) (.ref p68) := rep_lst_mk hW n72 e69 hp70 (repL_revM (e := (fun y_ : (Int × Int × Str) => (D.tup [(D.v (V.int y_.1)), (D.v (V.int y_.2.1)), (D.v (V.str y_.2.2))]))) (xs := r1) hr67)
      replace h2 := rep_ext e69 h2
      replace h22 := rep_ext e69 h22
      replace h27 := rep_ext e69 h27
      replace h34 := rep_ext e69 h34
      replace h41 := rep_ext e69 h41
      replace h45 := rep_ext e69 h45
      replace h60 := rep_ext e69 h60
      replace hW := hW.ret0 e69
      apply rep_tupOf (ds := (r1.reverse).map (fun y_ : (Int × Int × Str) => (D.tup [(D.v (V.int y_.1)), (D.v (V.int y_.2.1)), (D.v (V.str y_.2.2))]))) h71
      intro ys74 hr75
      intro p76 np77
      have e78 := Rx.Ext.new (H := H73) (o := (HO.tup ys74)) np77
      have hp79 : upd H73 p76 (HO.tup ys74) p76 = some (HO.tup ys74) := upd_same
      generalize upd H73 p76 (HO.tup ys74) = H81 at e78 hp79 ⊢
      have h80 : rep ms H81 (D.tup ((r1.reverse).map (fun y_ : (Int × Int × Str) => (D.tup [(D.v (V.int y_.1)), (D.v (V.int y_.2.1)), (D.v (V.str y_.2.2))])))) (.ref p76) := rep_tup_mk hW np77 e78 hp79 hr75
      replace h2 := rep_ext e78 h2
      replace h22 := rep_ext e78 h22
      replace h27 := rep_ext e78 h27
      replace h34 := rep_ext e78 h34
      replace h41 := rep_ext e78 h41
      replace h45 := rep_ext e78 h45
      replace h60 := rep_ext e78 h60
      replace h71 := rep_ext e78 h71
      replace hW := hW.ret0 e78
      refine ⟨rfl, rfl, ?_⟩
      apply make_Picture_init_nvtiis (ms := ms) hW h80 hM
      intro p82 H86 r85 hM e84 h83
      replace h2 := rep_ext e84 h2
      replace h22 := rep_ext e84 h22
      replace h27 := rep_ext e84 h27
      replace h34 := rep_ext e84 h34
      replace h41 := rep_ext e84 h41
      replace h45 := rep_ext e84 h45
      replace h60 := rep_ext e84 h60
      replace h71 := rep_ext e84 h71
      replace h80 := rep_ext e84 h80
      replace hW := hW.ret0 e84
      refine ⟨_, rfl, ?_⟩
      refine ⟨ms, _, _, r85, r1, _, rfl, hW.enter0, h83, h2, hM, fun r87 u90 H91 hM e89 h88 => ?_⟩
      replace h2 := rep_ext e89 h2
      replace h22 := rep_ext e89 h22
      replace h27 := rep_ext e89 h27
      replace h34 := rep_ext e89 h34
      replace h41 := rep_ext e89 h41
      replace h45 := rep_ext e89 h45
      replace h60 := rep_ext e89 h60
      replace h71 := rep_ext e89 h71
      replace h80 := rep_ext e89 h80
      replace h83 := rep_ext e89 h83
      replace hW := hW.ret0 e89
      obtain rfl := of_v h88
      refine ⟨_, rfl, ?_⟩
      refine ite3 hM (fun hM => ?_) (fun hM => ?_)
      · skip
        exact hQ false _ _ hM hW.out rep_v
      · skip
        refine ⟨_, rfl, ?_⟩
        apply rep_iter h2
        intro a92 xs93 _ an94 hp95 hl96
        refine fun L97 nl98 => ?_
        have nm112 := nm_new hW nl98
        refine lc_listG (L := L97) (fun n_ ys_ h_ => Wd (L97 :: ms) [ap] [] H_0 h_ ∧ Keep (L97 :: ms) H91 h_ ∧ MutO (L97 :: ms) [ap] H_0 h_ L97 (D.lst (ys_.map (fun y_ : (Int × Int × Str) => (D.tup [(D.v (V.int y_.1)), (D.v (V.int y_.2.1)), (D.v (V.str y_.2.2))])))) ∧ ys_.length ≤ n_) (items := r1) (e := (fun y_ : (Int × Int × Str) => (D.tup [(D.v (V.int y_.1)), (D.v (V.int y_.2.1)), (D.v (V.str y_.2.2))]))) an94 hp95 hl96 nl98 (fun _ _ _ q_ => q_.2.1) hM ⟨wd_cell hW nl98, keep_cell nl98 Keep.refl, mo_newL (ds := []) hW nl98 repL_nil, Nat.le_refl _⟩ ?_ ?_
        · skip
          rintro x108 u109 n99 ys100 k101 H113 hn ⟨hW, hk102, mu103, ln104⟩ h110 hM Nx107 hN105
          replace h2 := rep_keep hk102 (rep_new nl98 h2)
          replace h22 := rep_keep hk102 (rep_new nl98 h22)
          replace h27 := rep_keep hk102 (rep_new nl98 h27)
          replace h34 := rep_keep hk102 (rep_new nl98 h34)
          replace h41 := rep_keep hk102 (rep_new nl98 h41)
          replace h45 := rep_keep hk102 (rep_new nl98 h45)
          replace h60 := rep_keep hk102 (rep_new nl98 h60)
          replace h71 := rep_keep hk102 (rep_new nl98 h71)
          replace h80 := rep_keep hk102 (rep_new nl98 h80)
          replace h83 := rep_keep hk102 (rep_new nl98 h83)
          apply rep_gtup h110 rfl
          intro vs114 hv115
          obtain ⟨u116, us117, rfl, h118, hv119⟩ := repL_uncons hv115
          obtain rfl := of_v h118
          obtain ⟨u120, us121, rfl, h122, hv123⟩ := repL_uncons hv119
          obtain rfl := of_v h122
          obtain ⟨u124, us125, rfl, h126, hv127⟩ := repL_uncons hv123
          obtain rfl := of_v h126
          obtain rfl := repL_empty hv127
          refine ⟨_, _, rfl, ?_⟩
          refine ⟨_, _, rfl, ?_⟩
          refine ⟨_, _, rfl, ?_⟩
          refine ⟨rfl, ?_⟩
          refine ⟨rfl, ?_⟩
          refine tyes_of ?_
          refine ⟨_, rfl, ?_⟩
          refine ⟨_, rfl, ?_⟩
          refine ⟨_, rfl, ?_⟩
          refine ⟨(L97 :: ms), x108.2.2, _, rfl, hW.enter0, hM, fun r128 u131 H132 hM e130 h129 => ?_⟩
          replace h2 := rep_ext e130 h2
          replace h22 := rep_ext e130 h22
          replace h27 := rep_ext e130 h27
          replace h34 := rep_ext e130 h34
          replace h41 := rep_ext e130 h41
          replace h45 := rep_ext e130 h45
          replace h60 := rep_ext e130 h60
          replace h71 := rep_ext e130 h71
          replace h80 := rep_ext e130 h80
          replace h83 := rep_ext e130 h83
          replace hk102 := keep_ext e130 hk102
          replace h110 := rep_ext e130 h110
          replace mu103 := mo_ext e130 mu103
          replace hW := hW.ret0 e130
          obtain rfl := of_v h129
          refine ⟨(by show 3 ≤ sizeLine; decide), ?_⟩
          intro p133 n137
          have e134 := Rx.Ext.new (H := H132) (o := (HO.tup [V.int x108.1, V.int x108.2.1, V.str r128])) n137
          have hp135 : upd H132 p133 (HO.tup [V.int x108.1, V.int x108.2.1, V.str r128]) p133 = some (HO.tup [V.int x108.1, V.int x108.2.1, V.str r128]) := upd_same
          generalize upd H132 p133 (HO.tup [V.int x108.1, V.int x108.2.1, V.str r128]) = H138 at e134 hp135 ⊢
          have h136 : rep (L97 :: ms) H138 (D.tup [(D.v (V.int x108.1)), (D.v (V.int x108.2.1)), (D.v (V.str r128))]) (.ref p133) := rep_tup_mk hW n137 e134 hp135 (repL_cons rep_v (repL_cons rep_v (repL_cons rep_v repL_nil)))
          replace h2 := rep_ext e134 h2
          replace h22 := rep_ext e134 h22
          replace h27 := rep_ext e134 h27
          replace h34 := rep_ext e134 h34
          replace h41 := rep_ext e134 h41
          replace h45 := rep_ext e134 h45
          replace h60 := rep_ext e134 h60
          replace h71 := rep_ext e134 h71
          replace h80 := rep_ext e134 h80
          replace h83 := rep_ext e134 h83
          replace hk102 := keep_ext e134 hk102
          replace h110 := rep_ext e134 h110
          replace mu103 := mo_ext e134 mu103
          replace hW := hW.ret0 e134
          refine mo_end mu103 hn (by rw [List.length_map]; exact ln104) fun vs139 hr140 => ?_
          have mk142 := mo_setL mu103 (repL_snoc (e := (fun y_ : (Int × Int × Str) => (D.tup [(D.v (V.int y_.1)), (D.v (V.int y_.2.1)), (D.v (V.str y_.2.2))]))) (xs := ys100) (y := (x108.1, x108.2.1, r128)) hr140 h136)
          replace h2 := rep_put (o := .lst (vs139 ++ [(V.ref p133)])) mu103.im h2
          replace h22 := rep_put (o := .lst (vs139 ++ [(V.ref p133)])) mu103.im h22
          replace h27 := rep_put (o := .lst (vs139 ++ [(V.ref p133)])) mu103.im h27
          replace h34 := rep_put (o := .lst (vs139 ++ [(V.ref p133)])) mu103.im h34
          replace h41 := rep_put (o := .lst (vs139 ++ [(V.ref p133)])) mu103.im h41
          replace h45 := rep_put (o := .lst (vs139 ++ [(V.ref p133)])) mu103.im h45
          replace h60 := rep_put (o := .lst (vs139 ++ [(V.ref p133)])) mu103.im h60
          replace h71 := rep_put (o := .lst (vs139 ++ [(V.ref p133)])) mu103.im h71
          replace h80 := rep_put (o := .lst (vs139 ++ [(V.ref p133)])) mu103.im h80
          replace h83 := rep_put (o := .lst (vs139 ++ [(V.ref p133)])) mu103.im h83
          replace hk102 := keep_put (o := .lst (vs139 ++ [(V.ref p133)])) mu103.im hk102
          replace h110 := rep_put (o := .lst (vs139 ++ [(V.ref p133)])) mu103.im h110
          replace h136 := rep_put (o := .lst (vs139 ++ [(V.ref p133)])) mu103.im h136
          replace hW := wd_put (o := .lst (vs139 ++ [(V.ref p133)])) hW mu103
          replace mu103 := mk142
          generalize upd H138 L97 (.lst (vs139 ++ [(V.ref p133)])) = H143 at *
          replace mu103 : MutO (L97 :: ms) [ap] H_0 H143 L97 (D.lst ((ys100 ++ [(x108.1, x108.2.1, r128)]).map (fun y_ : (Int × Int × Str) => (D.tup [(D.v (V.int y_.1)), (D.v (V.int y_.2.1)), (D.v (V.str y_.2.2))])))) := mu103
          clear mk142
          exact hN105 (x108.1, x108.2.1, r128) _ hM ⟨hW, hk102, mu103, by rw [List.length_append]; exact Nat.add_le_add_right ln104 1⟩
        · skip
          rintro n99 ys144 H145 hM ⟨hW, hk102, mu103, ln104⟩
          replace h2 := rep_keep hk102 (rep_new nl98 h2)
          replace h22 := rep_keep hk102 (rep_new nl98 h22)
          replace h27 := rep_keep hk102 (rep_new nl98 h27)
          replace h34 := rep_keep hk102 (rep_new nl98 h34)
          replace h41 := rep_keep hk102 (rep_new nl98 h41)
          replace h45 := rep_keep hk102 (rep_new nl98 h45)
          replace h60 := rep_keep hk102 (rep_new nl98 h60)
          replace h71 := rep_keep hk102 (rep_new nl98 h71)
          replace h80 := rep_keep hk102 (rep_new nl98 h80)
          replace h83 := rep_keep hk102 (rep_new nl98 h83)
          clear hk102 ln104
          have h146 := mo_rep_dr dr_here nm112 mu103
          replace hW := wd_dr dr_here mu103.hp hW
          replace h2 := rep_dr dr_here h2
          replace h22 := rep_dr dr_here h22
          replace h27 := rep_dr dr_here h27
          replace h34 := rep_dr dr_here h34
          replace h41 := rep_dr dr_here h41
          replace h45 := rep_dr dr_here h45
          replace h60 := rep_dr dr_here h60
          replace h71 := rep_dr dr_here h71
          replace h80 := rep_dr dr_here h80
          replace h83 := rep_dr dr_here h83
          clear mu103
          refine ⟨_, rfl, ?_⟩
          apply rep_meth (m := "contrary") h41 (by decide +kernel)
          refine ⟨ms, _, r24, _, rfl, hW.enter0, h41, hM, fun r147 u150 H151 hM e149 h148 => ?_⟩
          replace h2 := rep_ext e149 h2
          replace h22 := rep_ext e149 h22
          replace h27 := rep_ext e149 h27
          replace h34 := rep_ext e149 h34
          replace h41 := rep_ext e149 h41
          replace h45 := rep_ext e149 h45
          replace h60 := rep_ext e149 h60
          replace h71 := rep_ext e149 h71
          replace h80 := rep_ext e149 h80
          replace h83 := rep_ext e149 h83
          replace h146 := rep_ext e149 h146
          replace hW := hW.ret0 e149
          refine ⟨_, rfl, ?_⟩
          refine ⟨ms, _, _, r147, ys144, _, rfl, hW.enter0, h148, h146, hM, fun r152 u155 H156 hM e154 h153 => ?_⟩
          replace h2 := rep_ext e154 h2
          replace h22 := rep_ext e154 h22
          replace h27 := rep_ext e154 h27
          replace h34 := rep_ext e154 h34
          replace h41 := rep_ext e154 h41
          replace h45 := rep_ext e154 h45
          replace h60 := rep_ext e154 h60
          replace h71 := rep_ext e154 h71
          replace h80 := rep_ext e154 h80
          replace h83 := rep_ext e154 h83
          replace h146 := rep_ext e154 h146
          replace h148 := rep_ext e154 h148
          replace hW := hW.ret0 e154
          obtain rfl := of_v h153
          refine ⟨_, rfl, ?_⟩
          refine ite3 hM (fun hM => ?_) (fun hM => ?_)
          · skip
            refine iteT ?_
            exact hQ false _ _ hM hW.out rep_v
          · skip
            refine ⟨_, rfl, ?_⟩
            apply rep_meth (m := "contrary") h41 (by decide +kernel)
            refine ⟨ms, _, r24, _, rfl, hW.enter0, h41, hM, fun r157 u160 H161 hM e159 h158 => ?_⟩
            replace h2 := rep_ext e159 h2
            replace h22 := rep_ext e159 h22
            replace h27 := rep_ext e159 h27
            replace h34 := rep_ext e159 h34
            replace h41 := rep_ext e159 h41
            replace h45 := rep_ext e159 h45
            replace h60 := rep_ext e159 h60
            replace h71 := rep_ext e159 h71
            replace h80 := rep_ext e159 h80
            replace h83 := rep_ext e159 h83
            replace h146 := rep_ext e159 h146
            replace h148 := rep_ext e159 h148
            replace hW := hW.ret0 e159
            refine ⟨_, rfl, ?_⟩
            conv => whnf
            apply make_Picture_init (ms := ms) hW h146 hM
            intro p162 H166 r165 hM e164 h163
            replace h2 := rep_ext e164 h2
            replace h22 := rep_ext e164 h22
            replace h27 := rep_ext e164 h27
            replace h34 := rep_ext e164 h34
            replace h41 := rep_ext e164 h41
            replace h45 := rep_ext e164 h45
            replace h60 := rep_ext e164 h60
            replace h71 := rep_ext e164 h71
            replace h80 := rep_ext e164 h80
            replace h83 := rep_ext e164 h83
            replace h146 := rep_ext e164 h146
            replace h148 := rep_ext e164 h148
            replace h158 := rep_ext e164 h158
            replace hW := hW.ret0 e164
            apply rep_neOwn h158 h163
            refine ⟨ms, _, _, r157, r165, _, rfl, hW.enter0, h158, h163, hM, fun r167 u170 H171 hM e169 h168 => ?_⟩
            replace h2 := rep_ext e169 h2
            replace h22 := rep_ext e169 h22
            replace h27 := rep_ext e169 h27
            replace h34 := rep_ext e169 h34
            replace h41 := rep_ext e169 h41
            replace h45 := rep_ext e169 h45
            replace h60 := rep_ext e169 h60
            replace h71 := rep_ext e169 h71
            replace h80 := rep_ext e169 h80
            replace h83 := rep_ext e169 h83
            replace h146 := rep_ext e169 h146
            replace h148 := rep_ext e169 h148
            replace h158 := rep_ext e169 h158
            replace h163 := rep_ext e169 h163
            replace hW := hW.ret0 e169
            obtain rfl := of_v h168
            refine ⟨_, rfl, ?_⟩
            refine ⟨_, rfl, ?_⟩
            refine ite3 hM (fun hM => ?_) (fun hM => ?_)
            · skip
              exact hQ false _ _ hM hW.out rep_v
            · skip
              refine ⟨_, rfl, ?_⟩
              apply rep_meth (m := "contrary") h41 (by decide +kernel)
              refine ⟨ms, _, r24, _, rfl, hW.enter0, h41, hM, fun r172 u175 H176 hM e174 h173 => ?_⟩
              replace h2 := rep_ext e174 h2
              replace h22 := rep_ext e174 h22
              replace h27 := rep_ext e174 h27
              replace h34 := rep_ext e174 h34
              replace h41 := rep_ext e174 h41
              replace h45 := rep_ext e174 h45
              replace h60 := rep_ext e174 h60
              replace h71 := rep_ext e174 h71
              replace h80 := rep_ext e174 h80
              replace h83 := rep_ext e174 h83
              replace h146 := rep_ext e174 h146
              replace h148 := rep_ext e174 h148
              replace h158 := rep_ext e174 h158
              replace h163 := rep_ext e174 h163
              replace hW := hW.ret0 e174
              apply rep_meth (m := "contrary") h173 (by decide +kernel)
              refine ⟨ms, _, r172, _, rfl, hW.enter0, h173, hM, fun r177 u180 H181 hM e179 h178 => ?_⟩
              replace h2 := rep_ext e179 h2
              replace h22 := rep_ext e179 h22
              replace h27 := rep_ext e179 h27
              replace h34 := rep_ext e179 h34
              replace h41 := rep_ext e179 h41
              replace h45 := rep_ext e179 h45
              replace h60 := rep_ext e179 h60
              replace h71 := rep_ext e179 h71
              replace h80 := rep_ext e179 h80
              replace h83 := rep_ext e179 h83
              replace h146 := rep_ext e179 h146
              replace h148 := rep_ext e179 h148
              replace h158 := rep_ext e179 h158
              replace h163 := rep_ext e179 h163
              replace h173 := rep_ext e179 h173
              replace hW := hW.ret0 e179
              refine ⟨_, rfl, ?_⟩
              apply rep_neOwn h178 h41
              refine ⟨ms, _, _, r177, r24, _, rfl, hW.enter0, h178, h41, hM, fun r182 u185 H186 hM e184 h183 => ?_⟩
              replace h2 := rep_ext e184 h2
              replace h22 := rep_ext e184 h22
              replace h27 := rep_ext e184 h27
              replace h34 := rep_ext e184 h34
              replace h41 := rep_ext e184 h41
              replace h45 := rep_ext e184 h45
              replace h60 := rep_ext e184 h60
              replace h71 := rep_ext e184 h71
              replace h80 := rep_ext e184 h80
              replace h83 := rep_ext e184 h83
              replace h146 := rep_ext e184 h146
              replace h148 := rep_ext e184 h148
              replace h158 := rep_ext e184 h158
              replace h163 := rep_ext e184 h163
              replace h173 := rep_ext e184 h173
              replace h178 := rep_ext e184 h178
              replace hW := hW.ret0 e184
              obtain rfl := of_v h183
              refine ⟨_, rfl, ?_⟩
              refine ⟨_, rfl, ?_⟩
              refine ite3 hM (fun hM => ?_) (fun hM => ?_)
              · skip
                refine iteT ?_
                exact hQ false _ _ hM hW.out rep_v
              · skip
                refine ⟨_, rfl, ?_⟩
                refine ⟨_, rfl, ?_⟩
                apply rep_meth (m := "contrary") h41 (by decide +kernel)
                refine ⟨ms, _, r24, _, rfl, hW.enter0, h41, hM, fun r187 u190 H191 hM e189 h188 => ?_⟩
                replace h2 := rep_ext e189 h2
                replace h22 := rep_ext e189 h22
                replace h27 := rep_ext e189 h27
                replace h34 := rep_ext e189 h34
                replace h41 := rep_ext e189 h41
                replace h45 := rep_ext e189 h45
                replace h60 := rep_ext e189 h60
                replace h71 := rep_ext e189 h71
                replace h80 := rep_ext e189 h80
                replace h83 := rep_ext e189 h83
                replace h146 := rep_ext e189 h146
                replace h148 := rep_ext e189 h148
                replace h158 := rep_ext e189 h158
                replace h163 := rep_ext e189 h163
                replace h173 := rep_ext e189 h173
                replace h178 := rep_ext e189 h178
                replace hW := hW.ret0 e189
                apply rep_eqOwn h41 h188
                refine ⟨ms, _, _, r24, r187, _, rfl, hW.enter0, h41, h188, hM, fun r192 u195 H196 hM e194 h193 => ?_⟩
                replace h2 := rep_ext e194 h2
                replace h22 := rep_ext e194 h22
                replace h27 := rep_ext e194 h27
                replace h34 := rep_ext e194 h34
                replace h41 := rep_ext e194 h41
                replace h45 := rep_ext e194 h45
                replace h60 := rep_ext e194 h60
                replace h71 := rep_ext e194 h71
                replace h80 := rep_ext e194 h80
                replace h83 := rep_ext e194 h83
                replace h146 := rep_ext e194 h146
                replace h148 := rep_ext e194 h148
                replace h158 := rep_ext e194 h158
                replace h163 := rep_ext e194 h163
                replace h173 := rep_ext e194 h173
                replace h178 := rep_ext e194 h178
                replace h188 := rep_ext e194 h188
                replace hW := hW.ret0 e194
                obtain rfl := of_v h193
                refine ⟨_, rfl, ?_⟩
                refine ⟨_, rfl, ?_⟩
                refine ite3 hM (fun hM => ?_) (fun hM => ?_)
                · skip
                  refine iteT ?_
                  exact hQ false _ _ hM hW.out rep_v
                · skip
                  refine ⟨_, rfl, ?_⟩
                  refine ⟨_, rfl, ?_⟩
                  apply rep_lsU h2
                  intro vs197 hr198
                  intro p199 n203
                  have e200 := Rx.Ext.new (H := H196) (o := (HO.lst (vs197.reverse))) n203
                  have hp201 : upd H196 p199 (HO.lst (vs197.reverse)) p199 = some (HO.lst (vs197.reverse)) := upd_same
                  generalize upd H196 p199 (HO.lst (vs197.reverse)) = H204 at e200 hp201 ⊢
                  have h202 : rep ms H204 (D.lst ((r1.reverse).map (fun y_ : (Int × Int × Str) => (D.tup [(D.v (V.int y_.1)), (D.v (V.int y_.2.1)), (D.v (V.str y_.2.2))])))) (.ref p199) := rep_lst_mk hW n203 e200 hp201 (repL_revM (e := (fun y_ : (Int × Int × Str) => (D.tup [(D.v (V.int y_.1)), (D.v (V.int y_.2.1)), (D.v (V.str y_.2.2))]))) (xs := r1) hr198)
                  replace h2 := rep_ext e200 h2
                  replace h22 := rep_ext e200 h22
                  replace h27 := rep_ext e200 h27
                  replace h34 := rep_ext e200 h34
                  replace h41 := rep_ext e200 h41
                  replace h45 := rep_ext e200 h45
                  replace h60 := rep_ext e200 h60
                  replace h71 := rep_ext e200 h71
                  replace h80 := rep_ext e200 h80
                  replace h83 := rep_ext e200 h83
                  replace h146 := rep_ext e200 h146
                  replace h148 := rep_ext e200 h148
                  replace h158 := rep_ext e200 h158
                  replace h163 := rep_ext e200 h163
                  replace h173 := rep_ext e200 h173
                  replace h178 := rep_ext e200 h178
                  replace h188 := rep_ext e200 h188
                  replace hW := hW.ret0 e200
                  conv => whnf
                  apply make_Picture_init (ms := ms) hW h202 hM
                  intro p205 H209 r208 hM e207 h206
                  replace h2 := rep_ext e207 h2
                  replace h22 := rep_ext e207 h22
                  replace h27 := rep_ext e207 h27
                  replace h34 := rep_ext e207 h34
                  replace h41 := rep_ext e207 h41
                  replace h45 := rep_ext e207 h45
                  replace h60 := rep_ext e207 h60
                  replace h71 := rep_ext e207 h71
                  replace h80 := rep_ext e207 h80
                  replace h83 := rep_ext e207 h83
                  replace h146 := rep_ext e207 h146
                  replace h148 := rep_ext e207 h148
                  replace h158 := rep_ext e207 h158
                  replace h163 := rep_ext e207 h163
                  replace h173 := rep_ext e207 h173
                  replace h178 := rep_ext e207 h178
                  replace h188 := rep_ext e207 h188
                  replace h202 := rep_ext e207 h202
                  replace hW := hW.ret0 e207
                  apply rep_neOwn h41 h206
                  refine ⟨ms, _, _, r24, r208, _, rfl, hW.enter0, h41, h206, hM, fun r210 u213 H214 hM e212 h211 => ?_⟩
                  replace h2 := rep_ext e212 h2
                  replace h22 := rep_ext e212 h22
                  replace h27 := rep_ext e212 h27
                  replace h34 := rep_ext e212 h34
                  replace h41 := rep_ext e212 h41
                  replace h45 := rep_ext e212 h45
                  replace h60 := rep_ext e212 h60
                  replace h71 := rep_ext e212 h71
                  replace h80 := rep_ext e212 h80
                  replace h83 := rep_ext e212 h83
                  replace h146 := rep_ext e212 h146
                  replace h148 := rep_ext e212 h148
                  replace h158 := rep_ext e212 h158
                  replace h163 := rep_ext e212 h163
                  replace h173 := rep_ext e212 h173
                  replace h178 := rep_ext e212 h178
                  replace h188 := rep_ext e212 h188
                  replace h202 := rep_ext e212 h202
                  replace h206 := rep_ext e212 h206
                  replace hW := hW.ret0 e212
                  obtain rfl := of_v h211
                  refine ⟨_, rfl, ?_⟩
                  refine ⟨_, rfl, ?_⟩
                  refine ite3 hM (fun hM => ?_) (fun hM => ?_)
                  · skip
                    exact hQ false _ _ hM hW.out rep_v
                  · skip
                    refine ⟨_, rfl, ?_⟩
                    refine ⟨rfl, ?_⟩
                    rw [rep_isSomeL (fun _ => ⟨_, rfl⟩) h45]
                    refine ⟨_, rfl, ?_⟩
                    refine ite3 hM (fun hM => ?_) (fun hM => ?_)
                    · skip
                      obtain ⟨y215, hy216, hM⟩ := hM
                      have h217 := rep_some hy216 h45
                      refine ⟨_, rfl, ?_⟩
                      conv => whnf
                      apply make_Picture_init (ms := ms) hW h217 hM
                      intro p218 H222 r221 hM e220 h219
                      replace h2 := rep_ext e220 h2
                      replace h22 := rep_ext e220 h22
                      replace h27 := rep_ext e220 h27
                      replace h34 := rep_ext e220 h34
                      replace h41 := rep_ext e220 h41
                      replace h45 := rep_ext e220 h45
                      replace h60 := rep_ext e220 h60
                      replace h71 := rep_ext e220 h71
                      replace h80 := rep_ext e220 h80
                      replace h83 := rep_ext e220 h83
                      replace h146 := rep_ext e220 h146
                      replace h148 := rep_ext e220 h148
                      replace h158 := rep_ext e220 h158
                      replace h163 := rep_ext e220 h163
                      replace h173 := rep_ext e220 h173
                      replace h178 := rep_ext e220 h178
                      replace h188 := rep_ext e220 h188
                      replace h202 := rep_ext e220 h202
                      replace h206 := rep_ext e220 h206
                      replace h217 := rep_ext e220 h217
                      replace hW := hW.ret0 e220
                      refine ⟨_, rfl, ?_⟩
                      refine ⟨_, rfl, ?_⟩
                      apply rep_eqOwn h219 h41
                      refine ⟨ms, _, _, r221, r24, _, rfl, hW.enter0, h219, h41, hM, fun r223 u226 H227 hM e225 h224 => ?_⟩
                      replace h2 := rep_ext e225 h2
                      replace h22 := rep_ext e225 h22
                      replace h27 := rep_ext e225 h27
                      replace h34 := rep_ext e225 h34
                      replace h41 := rep_ext e225 h41
                      replace h45 := rep_ext e225 h45
                      replace h60 := rep_ext e225 h60
                      replace h71 := rep_ext e225 h71
                      replace h80 := rep_ext e225 h80
                      replace h83 := rep_ext e225 h83
                      replace h146 := rep_ext e225 h146
                      replace h148 := rep_ext e225 h148
                      replace h158 := rep_ext e225 h158
                      replace h163 := rep_ext e225 h163
                      replace h173 := rep_ext e225 h173
                      replace h178 := rep_ext e225 h178
                      replace h188 := rep_ext e225 h188
                      replace h202 := rep_ext e225 h202
                      replace h206 := rep_ext e225 h206
                      replace h217 := rep_ext e225 h217
                      replace h219 := rep_ext e225 h219
                      replace hW := hW.ret0 e225
                      obtain rfl := of_v h224
                      refine ⟨_, rfl, ?_⟩
                      refine ⟨_, rfl, ?_⟩
                      refine ite3 hM (fun hM => ?_) (fun hM => ?_)
                      · skip
                        refine iteT ?_
                        exact hQ false _ _ hM hW.out rep_v
                      · skip
                        refine ⟨_, rfl, ?_⟩
                        refine ⟨_, rfl, ?_⟩
                        refine ⟨ms, _, _, r221, y215, _, rfl, hW.enter0, h219, h217, hM, fun r228 u231 H232 hM e230 h229 => ?_⟩
                        replace h2 := rep_ext e230 h2
                        replace h22 := rep_ext e230 h22
                        replace h27 := rep_ext e230 h27
                        replace h34 := rep_ext e230 h34
                        replace h41 := rep_ext e230 h41
                        replace h45 := rep_ext e230 h45
                        replace h60 := rep_ext e230 h60
                        replace h71 := rep_ext e230 h71
                        replace h80 := rep_ext e230 h80
                        replace h83 := rep_ext e230 h83
                        replace h146 := rep_ext e230 h146
                        replace h148 := rep_ext e230 h148
                        replace h158 := rep_ext e230 h158
                        replace h163 := rep_ext e230 h163
                        replace h173 := rep_ext e230 h173
                        replace h178 := rep_ext e230 h178
                        replace h188 := rep_ext e230 h188
                        replace h202 := rep_ext e230 h202
                        replace h206 := rep_ext e230 h206
                        replace h217 := rep_ext e230 h217
                        replace h219 := rep_ext e230 h219
                        replace hW := hW.ret0 e230
                        obtain rfl := of_v h229
                        refine ⟨_, rfl, ?_⟩
                        refine ite3 hM (fun hM => ?_) (fun hM => ?_)
                        · skip
                          exact hQ false _ _ hM hW.out rep_v
                        · skip
                          refine ⟨_, rfl, ?_⟩
                          apply rep_prop h41
                          intro _ h233
                          refine ⟨ms, _, r24, _, rfl, hW.enter0, h233, hM, fun r234 u237 H238 hM e236 h235 => ?_⟩
                          replace h2 := rep_ext e236 h2
                          replace h22 := rep_ext e236 h22
                          replace h27 := rep_ext e236 h27
                          replace h34 := rep_ext e236 h34
                          replace h41 := rep_ext e236 h41
                          replace h45 := rep_ext e236 h45
                          replace h60 := rep_ext e236 h60
                          replace h71 := rep_ext e236 h71
                          replace h80 := rep_ext e236 h80
                          replace h83 := rep_ext e236 h83
                          replace h146 := rep_ext e236 h146
                          replace h148 := rep_ext e236 h148
                          replace h158 := rep_ext e236 h158
                          replace h163 := rep_ext e236 h163
                          replace h173 := rep_ext e236 h173
                          replace h178 := rep_ext e236 h178
                          replace h188 := rep_ext e236 h188
                          replace h202 := rep_ext e236 h202
                          replace h206 := rep_ext e236 h206
                          replace h217 := rep_ext e236 h217
                          replace h219 := rep_ext e236 h219
                          replace hW := hW.ret0 e236
                          refine ⟨_, rfl, ?_⟩
                          apply rep_listL h2
                          intro ys239 hr240
                          intro p241 n242
                          have e243 := Rx.Ext.new (H := H238) (o := (HO.lst ys239)) n242
                          have hp244 : upd H238 p241 (HO.lst ys239) p241 = some (HO.lst ys239) := upd_same
                          generalize upd H238 p241 (HO.lst ys239) = H247 at e243 hp244 ⊢
                          have h245 : rep ms H247 (D.lst (r1.map (fun y_ : (Int × Int × Str) => (D.tup [(D.v (V.int y_.1)), (D.v (V.int y_.2.1)), (D.v (V.str y_.2.2))])))) (.ref p241) := rep_lst_mk hW n242 e243 hp244 hr240
                          replace h2 := rep_ext e243 h2
                          replace h22 := rep_ext e243 h22
                          replace h27 := rep_ext e243 h27
                          replace h34 := rep_ext e243 h34
                          replace h41 := rep_ext e243 h41
                          replace h45 := rep_ext e243 h45
                          replace h60 := rep_ext e243 h60
                          replace h71 := rep_ext e243 h71
                          replace h80 := rep_ext e243 h80
                          replace h83 := rep_ext e243 h83
                          replace h146 := rep_ext e243 h146
                          replace h148 := rep_ext e243 h148
                          replace h158 := rep_ext e243 h158
                          replace h163 := rep_ext e243 h163
                          replace h173 := rep_ext e243 h173
                          replace h178 := rep_ext e243 h178
                          replace h188 := rep_ext e243 h188
                          replace h202 := rep_ext e243 h202
                          replace h206 := rep_ext e243 h206
                          replace h217 := rep_ext e243 h217
                          replace h219 := rep_ext e243 h219
                          replace h235 := rep_ext e243 h235
                          replace hW := hW.ret0 e243
                          refine ⟨_, rfl, ?_⟩
                          apply rep_ownText h41
                          refine ⟨ms, _, r24, _, rfl, hW.enter0, h41, hM, fun r248 u251 H252 hM e250 h249 => ?_⟩
                          replace h2 := rep_ext e250 h2
                          replace h22 := rep_ext e250 h22
                          replace h27 := rep_ext e250 h27
                          replace h34 := rep_ext e250 h34
                          replace h41 := rep_ext e250 h41
                          replace h45 := rep_ext e250 h45
                          replace h60 := rep_ext e250 h60
                          replace h71 := rep_ext e250 h71
                          replace h80 := rep_ext e250 h80
                          replace h83 := rep_ext e250 h83
                          replace h146 := rep_ext e250 h146
                          replace h148 := rep_ext e250 h148
                          replace h158 := rep_ext e250 h158
                          replace h163 := rep_ext e250 h163
                          replace h173 := rep_ext e250 h173
                          replace h178 := rep_ext e250 h178
                          replace h188 := rep_ext e250 h188
                          replace h202 := rep_ext e250 h202
                          replace h206 := rep_ext e250 h206
                          replace h217 := rep_ext e250 h217
                          replace h219 := rep_ext e250 h219
                          replace h235 := rep_ext e250 h235
                          replace h245 := rep_ext e250 h245
                          replace hW := hW.ret0 e250
                          obtain rfl := of_v h249
                          refine ⟨_, rfl, ?_⟩
                          refine ⟨_, rfl, ?_⟩
                          apply rep_ownText h41
                          refine ⟨ms, _, r24, _, rfl, hW.enter0, h41, hM, fun r253 u256 H257 hM e255 h254 => ?_⟩
                          replace h2 := rep_ext e255 h2
                          replace h22 := rep_ext e255 h22
                          replace h27 := rep_ext e255 h27
                          replace h34 := rep_ext e255 h34
                          replace h41 := rep_ext e255 h41
                          replace h45 := rep_ext e255 h45
                          replace h60 := rep_ext e255 h60
                          replace h71 := rep_ext e255 h71
                          replace h80 := rep_ext e255 h80
                          replace h83 := rep_ext e255 h83
                          replace h146 := rep_ext e255 h146
                          replace h148 := rep_ext e255 h148
                          replace h158 := rep_ext e255 h158
                          replace h163 := rep_ext e255 h163
                          replace h173 := rep_ext e255 h173
                          replace h178 := rep_ext e255 h178
                          replace h188 := rep_ext e255 h188
                          replace h202 := rep_ext e255 h202
                          replace h206 := rep_ext e255 h206
                          replace h217 := rep_ext e255 h217
                          replace h219 := rep_ext e255 h219
                          replace h235 := rep_ext e255 h235
                          replace h245 := rep_ext e255 h245
                          replace hW := hW.ret0 e255
                          obtain rfl := of_v h254
                          refine ⟨_, rfl, ?_⟩
                          refine ⟨(by show 6 ≤ sizeLine; decide), ?_⟩
                          intro p258 n262
                          have e259 := Rx.Ext.new (H := H257) (o := (HO.lst [V.non, u237, (V.ref p241), V.str r248, V.str r253, V.int (0 : Int)])) n262
                          have hp260 : upd H257 p258 (HO.lst [V.non, u237, (V.ref p241), V.str r248, V.str r253, V.int (0 : Int)]) p258 = some (HO.lst [V.non, u237, (V.ref p241), V.str r248, V.str r253, V.int (0 : Int)]) := upd_same
                          generalize upd H257 p258 (HO.lst [V.non, u237, (V.ref p241), V.str r248, V.str r253, V.int (0 : Int)]) = H263 at e259 hp260 ⊢
                          have h261 : rep ms H263 (D.lst (([(D.v V.non), (D.tup (r234.map (fun y_ : (Int × Int × Str) => (D.tup [(D.v (V.int y_.1)), (D.v (V.int y_.2.1)), (D.v (V.str y_.2.2))])))), (D.lst (r1.map (fun y_ : (Int × Int × Str) => (D.tup [(D.v (V.int y_.1)), (D.v (V.int y_.2.1)), (D.v (V.str y_.2.2))])))), (D.v (V.str r248)), (D.v (V.str r253)), (D.v (V.int (0 : Int)))] : List D).map (fun y_ : D => y_))) (.ref p258) := rep_lst_mk hW n262 e259 hp260 (repL_cons rep_v (repL_cons h235 (repL_cons h245 (repL_cons rep_v (repL_cons rep_v (repL_cons rep_v repL_nil))))))
                          replace h2 := rep_ext e259 h2
                          replace h22 := rep_ext e259 h22
                          replace h27 := rep_ext e259 h27
                          replace h34 := rep_ext e259 h34
                          replace h41 := rep_ext e259 h41
                          replace h45 := rep_ext e259 h45
                          replace h60 := rep_ext e259 h60
                          replace h71 := rep_ext e259 h71
                          replace h80 := rep_ext e259 h80
                          replace h83 := rep_ext e259 h83
                          replace h146 := rep_ext e259 h146
                          replace h148 := rep_ext e259 h148
                          replace h158 := rep_ext e259 h158
                          replace h163 := rep_ext e259 h163
                          replace h173 := rep_ext e259 h173
                          replace h178 := rep_ext e259 h178
                          replace h188 := rep_ext e259 h188
                          replace h202 := rep_ext e259 h202
                          replace h206 := rep_ext e259 h206
                          replace h217 := rep_ext e259 h217
                          replace h219 := rep_ext e259 h219
                          replace h235 := rep_ext e259 h235
                          replace h245 := rep_ext e259 h245
                          replace hW := hW.ret0 e259
                          apply rep_iter h261
                          intro a264 xs265 _ an266 hp267 hl268
                          refine fun L269 nl270 => ?_
                          have nm284 := nm_new hW nl270
                          refine lc_listG (L := L269) (fun n_ ys_ h_ => Wd (L269 :: ms) [ap] [] H_0 h_ ∧ Keep (L269 :: ms) H263 h_ ∧ MutO (L269 :: ms) [ap] H_0 h_ L269 (D.lst (ys_.map (fun y_ : Bool => (D.v (V.bl y_))))) ∧ ys_.length ≤ n_) (items := ([(D.v V.non), (D.tup (r234.map (fun y_ : (Int × Int × Str) => (D.tup [(D.v (V.int y_.1)), (D.v (V.int y_.2.1)), (D.v (V.str y_.2.2))])))), (D.lst (r1.map (fun y_ : (Int × Int × Str) => (D.tup [(D.v (V.int y_.1)), (D.v (V.int y_.2.1)), (D.v (V.str y_.2.2))])))), (D.v (V.str r248)), (D.v (V.str r253)), (D.v (V.int (0 : Int)))] : List D)) (e := (fun y_ : D => y_)) an266 hp267 hl268 nl270 (fun _ _ _ q_ => q_.2.1) hM ⟨wd_cell hW nl270, keep_cell nl270 Keep.refl, mo_newL (ds := []) hW nl270 repL_nil, Nat.le_refl _⟩ ?_ ?_
                          · skip
                            rintro x280 u281 n271 ys272 k273 H285 hn ⟨hW, hk274, mu275, ln276⟩ h282 hM Nx279 hN277
                            replace h2 := rep_keep hk274 (rep_new nl270 h2)
                            replace h22 := rep_keep hk274 (rep_new nl270 h22)
                            replace h27 := rep_keep hk274 (rep_new nl270 h27)
                            replace h34 := rep_keep hk274 (rep_new nl270 h34)
                            replace h41 := rep_keep hk274 (rep_new nl270 h41)
                            replace h45 := rep_keep hk274 (rep_new nl270 h45)
                            replace h60 := rep_keep hk274 (rep_new nl270 h60)
                            replace h71 := rep_keep hk274 (rep_new nl270 h71)
                            replace h80 := rep_keep hk274 (rep_new nl270 h80)
                            replace h83 := rep_keep hk274 (rep_new nl270 h83)
                            replace h146 := rep_keep hk274 (rep_new nl270 h146)
                            replace h148 := rep_keep hk274 (rep_new nl270 h148)
                            replace h158 := rep_keep hk274 (rep_new nl270 h158)
                            replace h163 := rep_keep hk274 (rep_new nl270 h163)
                            replace h173 := rep_keep hk274 (rep_new nl270 h173)
                            replace h178 := rep_keep hk274 (rep_new nl270 h178)
                            replace h188 := rep_keep hk274 (rep_new nl270 h188)
                            replace h202 := rep_keep hk274 (rep_new nl270 h202)
                            replace h206 := rep_keep hk274 (rep_new nl270 h206)
                            replace h217 := rep_keep hk274 (rep_new nl270 h217)
                            replace h219 := rep_keep hk274 (rep_new nl270 h219)
                            replace h235 := rep_keep hk274 (rep_new nl270 h235)
                            replace h245 := rep_keep hk274 (rep_new nl270 h245)
                            replace h261 := rep_keep hk274 (rep_new nl270 h261)
                            refine ⟨rfl, ?_⟩
                            refine tyes_of ?_
                            refine ⟨_, rfl, ?_⟩
                            refine ⟨_, rfl, ?_⟩
                            obtain ⟨g286, hM⟩ := hM
                            apply rep_eqOwnA h41 h282 g286
                            refine ⟨(L269 :: ms), _, _, r24, x280, _, rfl, hW.enter0, h41, h282, hM, fun r287 u290 H291 hM e289 h288 => ?_⟩
                            replace h2 := rep_ext e289 h2
                            replace h22 := rep_ext e289 h22
                            replace h27 := rep_ext e289 h27
                            replace h34 := rep_ext e289 h34
                            replace h41 := rep_ext e289 h41
                            replace h45 := rep_ext e289 h45
                            replace h60 := rep_ext e289 h60
                            replace h71 := rep_ext e289 h71
                            replace h80 := rep_ext e289 h80
                            replace h83 := rep_ext e289 h83
                            replace h146 := rep_ext e289 h146
                            replace h148 := rep_ext e289 h148
                            replace h158 := rep_ext e289 h158
                            replace h163 := rep_ext e289 h163
                            replace h173 := rep_ext e289 h173
                            replace h178 := rep_ext e289 h178
                            replace h188 := rep_ext e289 h188
                            replace h202 := rep_ext e289 h202
                            replace h206 := rep_ext e289 h206
                            replace h217 := rep_ext e289 h217
                            replace h219 := rep_ext e289 h219
                            replace h235 := rep_ext e289 h235
                            replace h245 := rep_ext e289 h245
                            replace h261 := rep_ext e289 h261
                            replace hk274 := keep_ext e289 hk274
                            replace h282 := rep_ext e289 h282
                            replace mu275 := mo_ext e289 mu275
                            replace hW := hW.ret0 e289
                            obtain rfl := of_v h288
                            refine ⟨_, rfl, ?_⟩
                            refine mo_end mu275 hn (by rw [List.length_map]; exact ln276) fun vs292 hr293 => ?_
                            have mk295 := mo_setL mu275 (repL_snoc (e := (fun y_ : Bool => (D.v (V.bl y_)))) (xs := ys272) (y := r287) hr293 rep_v)
                            replace h2 := rep_put (o := .lst (vs292 ++ [V.bl r287])) mu275.im h2
                            replace h22 := rep_put (o := .lst (vs292 ++ [V.bl r287])) mu275.im h22
                            replace h27 := rep_put (o := .lst (vs292 ++ [V.bl r287])) mu275.im h27
                            replace h34 := rep_put (o := .lst (vs292 ++ [V.bl r287])) mu275.im h34
                            replace h41 := rep_put (o := .lst (vs292 ++ [V.bl r287])) mu275.im h41
                            replace h45 := rep_put (o := .lst (vs292 ++ [V.bl r287])) mu275.im h45
                            replace h60 := rep_put (o := .lst (vs292 ++ [V.bl r287])) mu275.im h60
                            replace h71 := rep_put (o := .lst (vs292 ++ [V.bl r287])) mu275.im h71
                            replace h80 := rep_put (o := .lst (vs292 ++ [V.bl r287])) mu275.im h80
                            replace h83 := rep_put (o := .lst (vs292 ++ [V.bl r287])) mu275.im h83
                            replace h146 := rep_put (o := .lst (vs292 ++ [V.bl r287])) mu275.im h146
                            replace h148 := rep_put (o := .lst (vs292 ++ [V.bl r287])) mu275.im h148
                            replace h158 := rep_put (o := .lst (vs292 ++ [V.bl r287])) mu275.im h158
                            replace h163 := rep_put (o := .lst (vs292 ++ [V.bl r287])) mu275.im h163
                            replace h173 := rep_put (o := .lst (vs292 ++ [V.bl r287])) mu275.im h173
                            replace h178 := rep_put (o := .lst (vs292 ++ [V.bl r287])) mu275.im h178
                            replace h188 := rep_put (o := .lst (vs292 ++ [V.bl r287])) mu275.im h188
                            replace h202 := rep_put (o := .lst (vs292 ++ [V.bl r287])) mu275.im h202
                            replace h206 := rep_put (o := .lst (vs292 ++ [V.bl r287])) mu275.im h206
                            replace h217 := rep_put (o := .lst (vs292 ++ [V.bl r287])) mu275.im h217
                            replace h219 := rep_put (o := .lst (vs292 ++ [V.bl r287])) mu275.im h219
                            replace h235 := rep_put (o := .lst (vs292 ++ [V.bl r287])) mu275.im h235
                            replace h245 := rep_put (o := .lst (vs292 ++ [V.bl r287])) mu275.im h245
                            replace h261 := rep_put (o := .lst (vs292 ++ [V.bl r287])) mu275.im h261
                            replace hk274 := keep_put (o := .lst (vs292 ++ [V.bl r287])) mu275.im hk274
                            replace h282 := rep_put (o := .lst (vs292 ++ [V.bl r287])) mu275.im h282
                            replace hW := wd_put (o := .lst (vs292 ++ [V.bl r287])) hW mu275
                            replace mu275 := mk295
                            generalize upd H291 L269 (.lst (vs292 ++ [V.bl r287])) = H296 at *
                            replace mu275 : MutO (L269 :: ms) [ap] H_0 H296 L269 (D.lst ((ys272 ++ [r287]).map (fun y_ : Bool => (D.v (V.bl y_))))) := mu275
                            clear mk295
                            exact hN277 r287 _ hM ⟨hW, hk274, mu275, by rw [List.length_append]; exact Nat.add_le_add_right ln276 1⟩
                          · skip
                            rintro n271 ys297 H298 hM ⟨hW, hk274, mu275, ln276⟩
                            replace h2 := rep_keep hk274 (rep_new nl270 h2)
                            replace h22 := rep_keep hk274 (rep_new nl270 h22)
                            replace h27 := rep_keep hk274 (rep_new nl270 h27)
                            replace h34 := rep_keep hk274 (rep_new nl270 h34)
                            replace h41 := rep_keep hk274 (rep_new nl270 h41)
                            replace h45 := rep_keep hk274 (rep_new nl270 h45)
                            replace h60 := rep_keep hk274 (rep_new nl270 h60)
                            replace h71 := rep_keep hk274 (rep_new nl270 h71)
                            replace h80 := rep_keep hk274 (rep_new nl270 h80)
                            replace h83 := rep_keep hk274 (rep_new nl270 h83)
                            replace h146 := rep_keep hk274 (rep_new nl270 h146)
                            replace h148 := rep_keep hk274 (rep_new nl270 h148)
                            replace h158 := rep_keep hk274 (rep_new nl270 h158)
                            replace h163 := rep_keep hk274 (rep_new nl270 h163)
                            replace h173 := rep_keep hk274 (rep_new nl270 h173)
                            replace h178 := rep_keep hk274 (rep_new nl270 h178)
                            replace h188 := rep_keep hk274 (rep_new nl270 h188)
                            replace h202 := rep_keep hk274 (rep_new nl270 h202)
                            replace h206 := rep_keep hk274 (rep_new nl270 h206)
                            replace h217 := rep_keep hk274 (rep_new nl270 h217)
                            replace h219 := rep_keep hk274 (rep_new nl270 h219)
                            replace h235 := rep_keep hk274 (rep_new nl270 h235)
                            replace h245 := rep_keep hk274 (rep_new nl270 h245)
                            replace h261 := rep_keep hk274 (rep_new nl270 h261)
                            clear hk274 ln276
                            have h299 := mo_rep_dr dr_here nm284 mu275
                            replace hW := wd_dr dr_here mu275.hp hW
                            replace h2 := rep_dr dr_here h2
                            replace h22 := rep_dr dr_here h22
                            replace h27 := rep_dr dr_here h27
                            replace h34 := rep_dr dr_here h34
                            replace h41 := rep_dr dr_here h41
                            replace h45 := rep_dr dr_here h45
                            replace h60 := rep_dr dr_here h60
                            replace h71 := rep_dr dr_here h71
                            replace h80 := rep_dr dr_here h80
                            replace h83 := rep_dr dr_here h83
                            replace h146 := rep_dr dr_here h146
                            replace h148 := rep_dr dr_here h148
                            replace h158 := rep_dr dr_here h158
                            replace h163 := rep_dr dr_here h163
                            replace h173 := rep_dr dr_here h173
                            replace h178 := rep_dr dr_here h178
                            replace h188 := rep_dr dr_here h188
                            replace h202 := rep_dr dr_here h202
                            replace h206 := rep_dr dr_here h206
                            replace h217 := rep_dr dr_here h217
                            replace h219 := rep_dr dr_here h219
                            replace h235 := rep_dr dr_here h235
                            replace h245 := rep_dr dr_here h245
                            replace h261 := rep_dr dr_here h261
                            clear mu275
                            apply rep_all h299
                            refine ⟨_, rfl, ?_⟩
                            refine ite3 hM (fun hM => ?_) (fun hM => ?_)
                            · skip
                              exact hQ false _ _ hM hW.out rep_v
                            · skip
                              refine ⟨_, rfl, ?_⟩
                              refine ⟨_, rfl, ?_⟩
                              refine ⟨ms, _, _, r24, r1, _, rfl, hW.enter0, h41, h2, hM, fun r300 u303 H304 hM e302 h301 => ?_⟩
                              replace h2 := rep_ext e302 h2
                              replace h22 := rep_ext e302 h22
                              replace h27 := rep_ext e302 h27
                              replace h34 := rep_ext e302 h34
                              replace h41 := rep_ext e302 h41
                              replace h45 := rep_ext e302 h45
                              replace h60 := rep_ext e302 h60
                              replace h71 := rep_ext e302 h71
                              replace h80 := rep_ext e302 h80
                              replace h83 := rep_ext e302 h83
                              replace h146 := rep_ext e302 h146
                              replace h148 := rep_ext e302 h148
                              replace h158 := rep_ext e302 h158
                              replace h163 := rep_ext e302 h163
                              replace h173 := rep_ext e302 h173
                              replace h178 := rep_ext e302 h178
                              replace h188 := rep_ext e302 h188
                              replace h202 := rep_ext e302 h202
                              replace h206 := rep_ext e302 h206
                              replace h217 := rep_ext e302 h217
                              replace h219 := rep_ext e302 h219
                              replace h235 := rep_ext e302 h235
                              replace h245 := rep_ext e302 h245
                              replace h261 := rep_ext e302 h261
                              replace h299 := rep_ext e302 h299
                              replace hW := hW.ret0 e302
                              obtain rfl := of_v h301
                              exact hQ r300 _ _ hM hW.out rep_v
                    · skip
                      refine ⟨_, rfl, ?_⟩
                      apply rep_prop h41
                      intro _ h305
                      refine ⟨ms, _, r24, _, rfl, hW.enter0, h305, hM, fun r306 u309 H310 hM e308 h307 => ?_⟩
                      replace h2 := rep_ext e308 h2
                      replace h22 := rep_ext e308 h22
                      replace h27 := rep_ext e308 h27
                      replace h34 := rep_ext e308 h34
                      replace h41 := rep_ext e308 h41
                      replace h45 := rep_ext e308 h45
                      replace h60 := rep_ext e308 h60
                      replace h71 := rep_ext e308 h71
                      replace h80 := rep_ext e308 h80
                      replace h83 := rep_ext e308 h83
                      replace h146 := rep_ext e308 h146
                      replace h148 := rep_ext e308 h148
                      replace h158 := rep_ext e308 h158
                      replace h163 := rep_ext e308 h163
                      replace h173 := rep_ext e308 h173
                      replace h178 := rep_ext e308 h178
                      replace h188 := rep_ext e308 h188
                      replace h202 := rep_ext e308 h202
                      replace h206 := rep_ext e308 h206
                      replace hW := hW.ret0 e308
                      refine ⟨_, rfl, ?_⟩
                      apply rep_listL h2
                      intro ys311 hr312
                      intro p313 n314
                      have e315 := Rx.Ext.new (H := H310) (o := (HO.lst ys311)) n314
                      have hp316 : upd H310 p313 (HO.lst ys311) p313 = some (HO.lst ys311) := upd_same
                      generalize upd H310 p313 (HO.lst ys311) = H319 at e315 hp316 ⊢
                      have h317 : rep ms H319 (D.lst (r1.map (fun y_ : (Int × Int × Str) => (D.tup [(D.v (V.int y_.1)), (D.v (V.int y_.2.1)), (D.v (V.str y_.2.2))])))) (.ref p313) := rep_lst_mk hW n314 e315 hp316 hr312
                      replace h2 := rep_ext e315 h2
                      replace h22 := rep_ext e315 h22
                      replace h27 := rep_ext e315 h27
                      replace h34 := rep_ext e315 h34
                      replace h41 := rep_ext e315 h41
                      replace h45 := rep_ext e315 h45
                      replace h60 := rep_ext e315 h60
                      replace h71 := rep_ext e315 h71
                      replace h80 := rep_ext e315 h80
                      replace h83 := rep_ext e315 h83
                      replace h146 := rep_ext e315 h146
                      replace h148 := rep_ext e315 h148
                      replace h158 := rep_ext e315 h158
                      replace h163 := rep_ext e315 h163
                      replace h173 := rep_ext e315 h173
                      replace h178 := rep_ext e315 h178
                      replace h188 := rep_ext e315 h188
                      replace h202 := rep_ext e315 h202
                      replace h206 := rep_ext e315 h206
                      replace h307 := rep_ext e315 h307
                      replace hW := hW.ret0 e315
                      refine ⟨_, rfl, ?_⟩
                      apply rep_ownText h41
                      refine ⟨ms, _, r24, _, rfl, hW.enter0, h41, hM, fun r320 u323 H324 hM e322 h321 => ?_⟩
                      replace h2 := rep_ext e322 h2
                      replace h22 := rep_ext e322 h22
                      replace h27 := rep_ext e322 h27
                      replace h34 := rep_ext e322 h34
                      replace h41 := rep_ext e322 h41
                      replace h45 := rep_ext e322 h45
                      replace h60 := rep_ext e322 h60
                      replace h71 := rep_ext e322 h71
                      replace h80 := rep_ext e322 h80
                      replace h83 := rep_ext e322 h83
                      replace h146 := rep_ext e322 h146
                      replace h148 := rep_ext e322 h148
                      replace h158 := rep_ext e322 h158
                      replace h163 := rep_ext e322 h163
                      replace h173 := rep_ext e322 h173
                      replace h178 := rep_ext e322 h178
                      replace h188 := rep_ext e322 h188
                      replace h202 := rep_ext e322 h202
                      replace h206 := rep_ext e322 h206
                      replace h307 := rep_ext e322 h307
                      replace h317 := rep_ext e322 h317
                      replace hW := hW.ret0 e322
                      obtain rfl := of_v h321
                      refine ⟨_, rfl, ?_⟩
                      refine ⟨_, rfl, ?_⟩
                      apply rep_ownText h41
                      refine ⟨ms, _, r24, _, rfl, hW.enter0, h41, hM, fun r325 u328 H329 hM e327 h326 => ?_⟩
                      replace h2 := rep_ext e327 h2
                      replace h22 := rep_ext e327 h22
                      replace h27 := rep_ext e327 h27
                      replace h34 := rep_ext e327 h34
                      replace h41 := rep_ext e327 h41
                      replace h45 := rep_ext e327 h45
                      replace h60 := rep_ext e327 h60
                      replace h71 := rep_ext e327 h71
                      replace h80 := rep_ext e327 h80
                      replace h83 := rep_ext e327 h83
                      replace h146 := rep_ext e327 h146
                      replace h148 := rep_ext e327 h148
                      replace h158 := rep_ext e327 h158
                      replace h163 := rep_ext e327 h163
                      replace h173 := rep_ext e327 h173
                      replace h178 := rep_ext e327 h178
                      replace h188 := rep_ext e327 h188
                      replace h202 := rep_ext e327 h202
                      replace h206 := rep_ext e327 h206
                      replace h307 := rep_ext e327 h307
                      replace h317 := rep_ext e327 h317
                      replace hW := hW.ret0 e327
                      obtain rfl := of_v h326
                      refine ⟨_, rfl, ?_⟩
                      refine ⟨(by show 6 ≤ sizeLine; decide), ?_⟩
                      intro p330 n334
                      have e331 := Rx.Ext.new (H := H329) (o := (HO.lst [V.non, u309, (V.ref p313), V.str r320, V.str r325, V.int (0 : Int)])) n334
                      have hp332 : upd H329 p330 (HO.lst [V.non, u309, (V.ref p313), V.str r320, V.str r325, V.int (0 : Int)]) p330 = some (HO.lst [V.non, u309, (V.ref p313), V.str r320, V.str r325, V.int (0 : Int)]) := upd_same
                      generalize upd H329 p330 (HO.lst [V.non, u309, (V.ref p313), V.str r320, V.str r325, V.int (0 : Int)]) = H335 at e331 hp332 ⊢
                      have h333 : rep ms H335 (D.lst (([(D.v V.non), (D.tup (r306.map (fun y_ : (Int × Int × Str) => (D.tup [(D.v (V.int y_.1)), (D.v (V.int y_.2.1)), (D.v (V.str y_.2.2))])))), (D.lst (r1.map (fun y_ : (Int × Int × Str) => (D.tup [(D.v (V.int y_.1)), (D.v (V.int y_.2.1)), (D.v (V.str y_.2.2))])))), (D.v (V.str r320)), (D.v (V.str r325)), (D.v (V.int (0 : Int)))] : List D).map (fun y_ : D => y_))) (.ref p330) := rep_lst_mk hW n334 e331 hp332 (repL_cons rep_v (repL_cons h307 (repL_cons h317 (repL_cons rep_v (repL_cons rep_v (repL_cons rep_v repL_nil))))))
                      replace h2 := rep_ext e331 h2
                      replace h22 := rep_ext e331 h22
                      replace h27 := rep_ext e331 h27
                      replace h34 := rep_ext e331 h34
                      replace h41 := rep_ext e331 h41
                      replace h45 := rep_ext e331 h45
                      replace h60 := rep_ext e331 h60
                      replace h71 := rep_ext e331 h71
                      replace h80 := rep_ext e331 h80
                      replace h83 := rep_ext e331 h83
                      replace h146 := rep_ext e331 h146
                      replace h148 := rep_ext e331 h148
                      replace h158 := rep_ext e331 h158
                      replace h163 := rep_ext e331 h163
                      replace h173 := rep_ext e331 h173
                      replace h178 := rep_ext e331 h178
                      replace h188 := rep_ext e331 h188
                      replace h202 := rep_ext e331 h202
                      replace h206 := rep_ext e331 h206
                      replace h307 := rep_ext e331 h307
                      replace h317 := rep_ext e331 h317
                      replace hW := hW.ret0 e331
                      apply rep_iter h333
                      intro a336 xs337 _ an338 hp339 hl340
                      refine fun L341 nl342 => ?_
                      have nm356 := nm_new hW nl342
                      refine lc_listG (L := L341) (fun n_ ys_ h_ => Wd (L341 :: ms) [ap] [] H_0 h_ ∧ Keep (L341 :: ms) H335 h_ ∧ MutO (L341 :: ms) [ap] H_0 h_ L341 (D.lst (ys_.map (fun y_ : Bool => (D.v (V.bl y_))))) ∧ ys_.length ≤ n_) (items := ([(D.v V.non), (D.tup (r306.map (fun y_ : (Int × Int × Str) => (D.tup [(D.v (V.int y_.1)), (D.v (V.int y_.2.1)), (D.v (V.str y_.2.2))])))), (D.lst (r1.map (fun y_ : (Int × Int × Str) => (D.tup [(D.v (V.int y_.1)), (D.v (V.int y_.2.1)), (D.v (V.str y_.2.2))])))), (D.v (V.str r320)), (D.v (V.str r325)), (D.v (V.int (0 : Int)))] : List D)) (e := (fun y_ : D => y_)) an338 hp339 hl340 nl342 (fun _ _ _ q_ => q_.2.1) hM ⟨wd_cell hW nl342, keep_cell nl342 Keep.refl, mo_newL (ds := []) hW nl342 repL_nil, Nat.le_refl _⟩ ?_ ?_
                      · skip
                        rintro x352 u353 n343 ys344 k345 H357 hn ⟨hW, hk346, mu347, ln348⟩ h354 hM Nx351 hN349
                        replace h2 := rep_keep hk346 (rep_new nl342 h2)
                        replace h22 := rep_keep hk346 (rep_new nl342 h22)
                        replace h27 := rep_keep hk346 (rep_new nl342 h27)
                        replace h34 := rep_keep hk346 (rep_new nl342 h34)
                        replace h41 := rep_keep hk346 (rep_new nl342 h41)
                        replace h45 := rep_keep hk346 (rep_new nl342 h45)
                        replace h60 := rep_keep hk346 (rep_new nl342 h60)
                        replace h71 := rep_keep hk346 (rep_new nl342 h71)
                        replace h80 := rep_keep hk346 (rep_new nl342 h80)
                        replace h83 := rep_keep hk346 (rep_new nl342 h83)
                        replace h146 := rep_keep hk346 (rep_new nl342 h146)
                        replace h148 := rep_keep hk346 (rep_new nl342 h148)
                        replace h158 := rep_keep hk346 (rep_new nl342 h158)
                        replace h163 := rep_keep hk346 (rep_new nl342 h163)
                        replace h173 := rep_keep hk346 (rep_new nl342 h173)
                        replace h178 := rep_keep hk346 (rep_new nl342 h178)
                        replace h188 := rep_keep hk346 (rep_new nl342 h188)
                        replace h202 := rep_keep hk346 (rep_new nl342 h202)
                        replace h206 := rep_keep hk346 (rep_new nl342 h206)
                        replace h307 := rep_keep hk346 (rep_new nl342 h307)
                        replace h317 := rep_keep hk346 (rep_new nl342 h317)
                        replace h333 := rep_keep hk346 (rep_new nl342 h333)
                        refine ⟨rfl, ?_⟩
                        refine tyes_of ?_
                        refine ⟨_, rfl, ?_⟩
                        refine ⟨_, rfl, ?_⟩
                        obtain ⟨g358, hM⟩ := hM
                        apply rep_eqOwnA h41 h354 g358
                        refine ⟨(L341 :: ms), _, _, r24, x352, _, rfl, hW.enter0, h41, h354, hM, fun r359 u362 H363 hM e361 h360 => ?_⟩
                        replace h2 := rep_ext e361 h2
                        replace h22 := rep_ext e361 h22
                        replace h27 := rep_ext e361 h27
                        replace h34 := rep_ext e361 h34
                        replace h41 := rep_ext e361 h41
                        replace h45 := rep_ext e361 h45
                        replace h60 := rep_ext e361 h60
                        replace h71 := rep_ext e361 h71
                        replace h80 := rep_ext e361 h80
                        replace h83 := rep_ext e361 h83
                        replace h146 := rep_ext e361 h146
                        replace h148 := rep_ext e361 h148
                        replace h158 := rep_ext e361 h158
                        replace h163 := rep_ext e361 h163
                        replace h173 := rep_ext e361 h173
                        replace h178 := rep_ext e361 h178
                        replace h188 := rep_ext e361 h188
                        replace h202 := rep_ext e361 h202
                        replace h206 := rep_ext e361 h206
                        replace h307 := rep_ext e361 h307
                        replace h317 := rep_ext e361 h317
                        replace h333 := rep_ext e361 h333
                        replace hk346 := keep_ext e361 hk346
                        replace h354 := rep_ext e361 h354
                        replace mu347 := mo_ext e361 mu347
                        replace hW := hW.ret0 e361
                        obtain rfl := of_v h360
                        refine ⟨_, rfl, ?_⟩
                        refine mo_end mu347 hn (by rw [List.length_map]; exact ln348) fun vs364 hr365 => ?_
                        have mk367 := mo_setL mu347 (repL_snoc (e := (fun y_ : Bool => (D.v (V.bl y_)))) (xs := ys344) (y := r359) hr365 rep_v)
                        replace h2 := rep_put (o := .lst (vs364 ++ [V.bl r359])) mu347.im h2
                        replace h22 := rep_put (o := .lst (vs364 ++ [V.bl r359])) mu347.im h22
                        replace h27 := rep_put (o := .lst (vs364 ++ [V.bl r359])) mu347.im h27
                        replace h34 := rep_put (o := .lst (vs364 ++ [V.bl r359])) mu347.im h34
                        replace h41 := rep_put (o := .lst (vs364 ++ [V.bl r359])) mu347.im h41
                        replace h45 := rep_put (o := .lst (vs364 ++ [V.bl r359])) mu347.im h45
                        replace h60 := rep_put (o := .lst (vs364 ++ [V.bl r359])) mu347.im h60
                        replace h71 := rep_put (o := .lst (vs364 ++ [V.bl r359])) mu347.im h71
                        replace h80 := rep_put (o := .lst (vs364 ++ [V.bl r359])) mu347.im h80
                        replace h83 := rep_put (o := .lst (vs364 ++ [V.bl r359])) mu347.im h83
                        replace h146 := rep_put (o := .lst (vs364 ++ [V.bl r359])) mu347.im h146
                        replace h148 := rep_put (o := .lst (vs364 ++ [V.bl r359])) mu347.im h148
                        replace h158 := rep_put (o := .lst (vs364 ++ [V.bl r359])) mu347.im h158
                        replace h163 := rep_put (o := .lst (vs364 ++ [V.bl r359])) mu347.im h163
                        replace h173 := rep_put (o := .lst (vs364 ++ [V.bl r359])) mu347.im h173
                        replace h178 := rep_put (o := .lst (vs364 ++ [V.bl r359])) mu347.im h178
                        replace h188 := rep_put (o := .lst (vs364 ++ [V.bl r359])) mu347.im h188
                        replace h202 := rep_put (o := .lst (vs364 ++ [V.bl r359])) mu347.im h202
                        replace h206 := rep_put (o := .lst (vs364 ++ [V.bl r359])) mu347.im h206
                        replace h307 := rep_put (o := .lst (vs364 ++ [V.bl r359])) mu347.im h307
                        replace h317 := rep_put (o := .lst (vs364 ++ [V.bl r359])) mu347.im h317
                        replace h333 := rep_put (o := .lst (vs364 ++ [V.bl r359])) mu347.im h333
                        replace hk346 := keep_put (o := .lst (vs364 ++ [V.bl r359])) mu347.im hk346
                        replace h354 := rep_put (o := .lst (vs364 ++ [V.bl r359])) mu347.im h354
                        replace hW := wd_put (o := .lst (vs364 ++ [V.bl r359])) hW mu347
                        replace mu347 := mk367
                        generalize upd H363 L341 (.lst (vs364 ++ [V.bl r359])) = H368 at *
                        replace mu347 : MutO (L341 :: ms) [ap] H_0 H368 L341 (D.lst ((ys344 ++ [r359]).map (fun y_ : Bool => (D.v (V.bl y_))))) := mu347
                        clear mk367
                        exact hN349 r359 _ hM ⟨hW, hk346, mu347, by rw [List.length_append]; exact Nat.add_le_add_right ln348 1⟩
                      · skip
                        rintro n343 ys369 H370 hM ⟨hW, hk346, mu347, ln348⟩
                        replace h2 := rep_keep hk346 (rep_new nl342 h2)
                        replace h22 := rep_keep hk346 (rep_new nl342 h22)
                        replace h27 := rep_keep hk346 (rep_new nl342 h27)
                        replace h34 := rep_keep hk346 (rep_new nl342 h34)
                        replace h41 := rep_keep hk346 (rep_new nl342 h41)
                        replace h45 := rep_keep hk346 (rep_new nl342 h45)
                        replace h60 := rep_keep hk346 (rep_new nl342 h60)
                        replace h71 := rep_keep hk346 (rep_new nl342 h71)
                        replace h80 := rep_keep hk346 (rep_new nl342 h80)
                        replace h83 := rep_keep hk346 (rep_new nl342 h83)
                        replace h146 := rep_keep hk346 (rep_new nl342 h146)
                        replace h148 := rep_keep hk346 (rep_new nl342 h148)
                        replace h158 := rep_keep hk346 (rep_new nl342 h158)
                        replace h163 := rep_keep hk346 (rep_new nl342 h163)
                        replace h173 := rep_keep hk346 (rep_new nl342 h173)
                        replace h178 := rep_keep hk346 (rep_new nl342 h178)
                        replace h188 := rep_keep hk346 (rep_new nl342 h188)
                        replace h202 := rep_keep hk346 (rep_new nl342 h202)
                        replace h206 := rep_keep hk346 (rep_new nl342 h206)
                        replace h307 := rep_keep hk346 (rep_new nl342 h307)
                        replace h317 := rep_keep hk346 (rep_new nl342 h317)
                        replace h333 := rep_keep hk346 (rep_new nl342 h333)
                        clear hk346 ln348
                        have h371 := mo_rep_dr dr_here nm356 mu347
                        replace hW := wd_dr dr_here mu347.hp hW
                        replace h2 := rep_dr dr_here h2
                        replace h22 := rep_dr dr_here h22
                        replace h27 := rep_dr dr_here h27
                        replace h34 := rep_dr dr_here h34
                        replace h41 := rep_dr dr_here h41
                        replace h45 := rep_dr dr_here h45
                        replace h60 := rep_dr dr_here h60
                        replace h71 := rep_dr dr_here h71
                        replace h80 := rep_dr dr_here h80
                        replace h83 := rep_dr dr_here h83
                        replace h146 := rep_dr dr_here h146
                        replace h148 := rep_dr dr_here h148
                        replace h158 := rep_dr dr_here h158
                        replace h163 := rep_dr dr_here h163
                        replace h173 := rep_dr dr_here h173
                        replace h178 := rep_dr dr_here h178
                        replace h188 := rep_dr dr_here h188
                        replace h202 := rep_dr dr_here h202
                        replace h206 := rep_dr dr_here h206
                        replace h307 := rep_dr dr_here h307
                        replace h317 := rep_dr dr_here h317
                        replace h333 := rep_dr dr_here h333
                        clear mu347
                        apply rep_all h371
                        refine ⟨_, rfl, ?_⟩
                        refine ite3 hM (fun hM => ?_) (fun hM => ?_)
                        · skip
                          exact hQ false _ _ hM hW.out rep_v
                        · skip
                          refine ⟨_, rfl, ?_⟩
                          refine ⟨_, rfl, ?_⟩
                          refine ⟨ms, _, _, r24, r1, _, rfl, hW.enter0, h41, h2, hM, fun r372 u375 H376 hM e374 h373 => ?_⟩
                          replace h2 := rep_ext e374 h2
                          replace h22 := rep_ext e374 h22
                          replace h27 := rep_ext e374 h27
                          replace h34 := rep_ext e374 h34
                          replace h41 := rep_ext e374 h41
                          replace h45 := rep_ext e374 h45
                          replace h60 := rep_ext e374 h60
                          replace h71 := rep_ext e374 h71
                          replace h80 := rep_ext e374 h80
                          replace h83 := rep_ext e374 h83
                          replace h146 := rep_ext e374 h146
                          replace h148 := rep_ext e374 h148
                          replace h158 := rep_ext e374 h158
                          replace h163 := rep_ext e374 h163
                          replace h173 := rep_ext e374 h173
                          replace h178 := rep_ext e374 h178
                          replace h188 := rep_ext e374 h188
                          replace h202 := rep_ext e374 h202
                          replace h206 := rep_ext e374 h206
                          replace h307 := rep_ext e374 h307
                          replace h317 := rep_ext e374 h317
                          replace h333 := rep_ext e374 h333
                          replace h371 := rep_ext e374 h371
                          replace hW := hW.ret0 e374
                          obtain rfl := of_v h373
                          exact hQ r372 _ _ hM hW.out rep_v
/-! ### the pot of a cell, and the law -/
def sp_pot (K : PySem.W.Frag) : Sp := fun vs H Q _ => ∃ (a : Addr) (ns : List Int) (k : Int), vs = [.ref a, .int k] ∧ SqL K H a (ns.map V.int) ∧ ns.length ≤ 63 ∧ 0 ≤ k ∧ k ≤ 100 ∧
  ∀ (p : Addr) (H1 : Hp) (i j : Int), H p = none → Rx.Ext H H1 → H1 p = some (.lst [.int i, .int j]) → j.natAbs < 4294967296 → Q (.ref p) H1
theorem ok_pot {P : Program} {w : World} {K : PySem.W.Frag} {mg : Str → Option Value} {base : Heap} {A : Ad} (T : Txt w K mg A) : FnOk P w K mg base CX0 1 A.a_pot A.d_pot ["_law_script", "_law_k"] (sp_pot K) := by
  refine T.F_pot.ok sc_pot (fun vs H Q E h => ?_) (fun cdv A_ outer s_ H_0 vs Q E hr h => ?_)
  · obtain ⟨a, ns, k, rfl, _⟩ := h
    rfl
  · obtain ⟨a, ns, k, rfl, hS, hl, k0, k1, hQ⟩ := h
    refine ⟨_, pss_cons (ps_set (i := 2) sc_pot.nd rfl (.inl rfl) (pe_ifExp (pt_cmpR op_lt (pv 1) (pe_callB call_len (by rfl) T.z_len PySem.boot_len (pa_cons (pv 0) pa_nil)) (nomark _))
        (pe_callB call_abs (by rfl) T.z_abs (by decide +kernel) (pa_cons (pe_ix ix_list (pv 0) (pv 1) (fun _ _ => rfl)) pa_nil)) (pe_op op_add (pe_op op_mul pe_int (pv 1)) pe_int)))
      (pss_one (ps_ret (pe_lst (pa_cons (pe_callB (call_max2 rfl) (by rfl) T.z_max (by decide +kernel) (pa_cons pe_int (pa_cons (pe_op op_sub (pv 2) (pe_op op_pow pe_int pe_int)) pa_nil)))
        (pa_cons (pe_op op_add (pe_op op_mod (pe_op op_mul (pe_callTy call_int1 (by rfl) T.z_int (by decide +kernel) (pa_cons (pe_op op_add (pe_op op_mod (pe_callTy call_int1 (by rfl) T.z_int (by decide +kernel) (pa_cons (pv 2) pa_nil)) pe_int) pe_int) pa_nil))
          (pe_op op_pow (pe_op op_add (pe_op op_mul pe_int (pv 1)) pe_int) pe_int)) pe_int) pe_int) pa_nil))))), ?_⟩
    refine ⟨_, rfl, _, rfl, _, ns.length, rfl, .inl ⟨_, hS, by rw [List.length_map]⟩, _, _, rfl, rfl, _, rfl, ?_⟩
    have fin : ∀ (c : Int) (p : Addr) (x y : Int), H_0 p = none → Q (.ref p) (upd H_0 p (.lst [.int x, .int (y % 2147483477 + 1)])) := fun c p x y np =>
      hQ p _ _ _ np (Rx.Ext.new np) upd_same (by omega)
    refine ite2 (fun c => ?_) (fun c => ?_)
    · have hk : k.toNat < ns.length := by
        have := of_decide_eq_true c
        omega
      refine ⟨_, rfl, _, rfl, a, _, k, .int (ns[k.toNat]), rfl, rfl, hS, at_of (j := k.toNat) (by omega) (by rw [List.getElem?_map, List.getElem?_eq_getElem hk]; rfl), _, rfl, ?_⟩
      refine ⟨_, rfl, _, _, rfl, rfl, ⟨by decide, by decide, by decide⟩, _, _, rfl, rfl, _, _, rfl, _, rfl, .inl ⟨_, rfl, _, _, rfl, rfl, (by show (0 : Int) < 2147483549; decide), _, _, rfl, rfl, .inl ⟨_, rfl, _, rfl, _, _, rfl, rfl, .inl ⟨by decide, by decide⟩, _, _, rfl, rfl, _, _, rfl, rfl, ⟨by decide, by decide, by show (2 * k + 7).natAbs < 2 ^ 64; omega⟩, _, _, rfl, rfl, ?_, _, _, rfl, rfl, (by show (0 : Int) < 2147483477; decide), _, _, rfl, rfl, (by show 2 ≤ sizeLine; decide), fun p np => fin 0 p _ _ np⟩⟩⟩
      exact .inl ⟨by omega, by omega⟩
    · refine ⟨_, rfl, _, _, rfl, rfl, .inl ⟨by decide, by decide⟩, _, _, rfl, rfl, ?_⟩
      refine ⟨_, rfl, _, _, rfl, rfl, ⟨by decide, by decide, by decide⟩, _, _, rfl, rfl, _, _, rfl, _, rfl, .inl ⟨_, rfl, _, _, rfl, rfl, (by show (0 : Int) < 2147483549; decide), _, _, rfl, rfl, .inl ⟨_, rfl, _, rfl, _, _, rfl, rfl, .inl ⟨by decide, by decide⟩, _, _, rfl, rfl, _, _, rfl, rfl, ⟨by decide, by decide, by show (2 * k + 7).natAbs < 2 ^ 64; omega⟩, _, _, rfl, rfl, ?_, _, _, rfl, rfl, (by show (0 : Int) < 2147483477; decide), _, _, rfl, rfl, (by show 2 ≤ sizeLine; decide), fun p np => fin 0 p _ _ np⟩⟩⟩
      exact .inl ⟨by omega, by omega⟩

open Wm
structure WV (w : Str × Str × Str) : Prop where
  h4 : (L w.1).length ≤ 4
  m1 : 1 ≤ (L w.2.1).length
  m4 : (L w.2.1).length ≤ 4
  t4 : (L w.2.2).length ≤ 4
  mh : ∀ c ∈ L w.1, c = 104 ∨ c = 97
  mm : ∀ c ∈ L w.2.1, c = 104 ∨ c = 97
  mt : ∀ c ∈ L w.2.2, c = 104 ∨ c = 97
theorem line_of {z : Str} {n : Nat} (h : (L z).length ≤ n) (hn : n ≤ 100000) : z.length ≤ sizeLine := by
  rw [len_L]
  exact Nat.le_trans h (Nat.le_trans hn (by decide))
theorem line4 {z : Str} (h : (L z).length ≤ 4) : z.length ≤ sizeLine := line_of h (by decide)
theorem at_nat' {α : Type} {xs : List α} {i : Int} {c : α} (h0 : 0 ≤ i) (h : xs[i.toNat]? = some c) : atI xs i = some c := by
  rw [show i = ((i.toNat : Nat) : Int) by omega]
  exact atI_nat h
theorem cm3 {i j : Int} {a : Nat} (ha : i.natAbs < 2 ^ a) (h0 : 0 < a) (hj : j.natAbs < 2 ^ 4) (h : a ≤ 1000) : CMulW i j := wide_mul ha hj h0 (by decide) (by omega)
theorem draw_ok {n : Int} {k : Int → Prop} (h0 : 0 < n) (h1 : n < 1073741824) (q : ∀ d, 0 ≤ d → d < n → k d) : M_draw n k := ⟨⟨h0, h1⟩, q⟩
theorem str1 (c : Nat) : (Str.mk #[c]).length = 1 := rfl
theorem dec_true {p : Prop} [Decidable p] (h : p) : decide p = true := decide_eq_true h
def S (l : List Nat) : Str := ⟨l.toArray⟩
theorem L_S (l : List Nat) : L (S l) = l := L_mk l
theorem S_L (z : Str) : S (L z) = z := mk_L z
abbrev Mk (l : List Nat) : Prop := ∀ c ∈ l, c = 104 ∨ c = 97
def ctrc (c : Nat) : Nat := if c = 104 then 97 else 104
def ctrw (w : Str × Str × Str) : Str × Str × Str := (S ((L w.1).map ctrc), S ((L w.2.1).map ctrc), S ((L w.2.2).map ctrc))
theorem ctrc_mk (c : Nat) : ctrc c = 104 ∨ ctrc c = 97 := by
  unfold ctrc
  split
  · exact .inr rfl
  · exact .inl rfl
theorem ones_sum (l : List Nat) (f : Nat → Nat) : ((l.map fun c => (Str.mk #[f c])).map (·.length)).sum = l.length := by
  induction l with
  | nil => rfl
  | cons c l ih =>
    rw [List.map_cons, List.map_cons, List.sum_cons, ih, str1, List.length_cons]
    omega
theorem ones_join (l : List Nat) (f : Nat → Nat) : L (Txt.join ("" : Str) (l.map fun c => (Str.mk #[f c]))) = l.map f := by
  rw [join_L]
  induction l with
  | nil => rfl
  | cons c l ih =>
    rw [List.map_cons, List.map_cons, List.flatten_cons, L_one, ih]
    rfl
theorem cmarks_ok {z : Str} (h4 : (L z).length ≤ 1000) (hm : Mk (L z)) {k : Str → Prop} (q : k (S ((L z).map ctrc))) : M_contrary_marks z k := by
  unfold M_contrary_marks
  refine ⟨by rw [signs_len]; have : z.cps.size = (L z).length := len_L z; omega, ?_⟩
  refine mapC_ok (fun x : Str => Str.mk #[ctrc (x.cps.getD 0 0)]) (fun x hx k' hk => ?_) ?_
  · obtain ⟨c, hc, rfl⟩ := List.mem_map.mp hx
    rcases hm c hc with rfl | rfl
    · exact ⟨("a" : Str), by decide +kernel, by rw [a_mk]; exact hk⟩
    · exact ⟨("h" : Str), by decide +kernel, by rw [h_mk]; exact hk⟩
  · rw [List.nil_append]
    have e : (Rx.signs z).map (fun x : Str => Str.mk #[ctrc (x.cps.getD 0 0)]) = (L z).map fun c => Str.mk #[ctrc c] := by
      unfold Rx.signs
      rw [List.map_map]
      rfl
    rw [e]
    refine ⟨?_, ?_⟩
    · rw [ones_sum, List.length_map, len_L, L_empty]
      simp only [List.length_nil]
      omega
    · rw [show Txt.join ("" : Str) ((L z).map fun c => Str.mk #[ctrc c]) = S ((L z).map ctrc) from L_ext (by rw [ones_join, L_S])]
      exact q
theorem ctrw_wv {w : Str × Str × Str} (hw : WV w) : WV (ctrw w) := by
  have mk : ∀ l : List Nat, Mk (l.map ctrc) := fun l c hc => by
    obtain ⟨x, _, e⟩ := List.mem_map.mp hc
    rw [← e]
    exact ctrc_mk x
  refine ⟨?_, ?_, ?_, ?_, ?_, ?_, ?_⟩ <;> unfold ctrw <;> simp only [L_S, List.length_map]
  · exact hw.h4
  · exact hw.m1
  · exact hw.m4
  · exact hw.t4
  · exact mk _
  · exact mk _
  · exact mk _
/-! ### data whose text is told -/
structure OkS (d : D) (k n : Nat) : Prop where
  pl : plainD d = true
  sw : (pyOf d).showable = true
  nd : (pyOf d).hasDict = false
  dp : (pyOf d).depth ≤ k
  ln : (pyOf d).shown.length ≤ n
  cl : (pyOf d).canLay0 = true
theorem OkS.rp {d : D} {k n : Nat} (h : OkS d k n) (hk : k ≤ 60) (hn : n ≤ 16777216) : plainD d = true ∧ (pyOf d).showable = true ∧ (pyOf d).hasDict = false ∧ (pyOf d).depth ≤ 60 ∧ (pyOf d).shown.length ≤ sizeLine :=
  ⟨h.pl, h.sw, h.nd, Nat.le_trans h.dp hk, by rw [sizeLine_eq]; exact Nat.le_trans h.ln hn⟩
theorem OkS.sh {d : D} {k n : Nat} (h : OkS d k n) (hk : k ≤ 60) : SeqAt.shaped (pyOf d) = true := by
  unfold SeqAt.shaped
  rw [h.cl, Bool.true_and]
  exact decide_eq_true (by have := h.dp; omega)
theorem OkS.rf {d : D} {k n : Nat} (h : OkS d k n) (hk : k ≤ 60) : PyData.eqv (pyOf d) (pyOf d) = true := SeqAt.eqv_refl _ (SeqAt.canLay_of_shaped (h.sh hk))
theorem OkS.mono {d : D} {k n k' n' : Nat} (h : OkS d k n) (hk : k ≤ k') (hn : n ≤ n') : OkS d k' n' := ⟨h.pl, h.sw, h.nd, Nat.le_trans h.dp hk, Nat.le_trans h.ln hn, h.cl⟩
theorem oks_int {i : Int} (h : i.natAbs < 2 ^ 1920) : OkS (D.v (V.int i)) 1 1921 := by
  have l : i.natAbs.log2 < 1920 := PySem.Flt.log2_lt_of (by decide) h
  refine ⟨rfl, decide_eq_true l, rfl, ?_, int_text_len_1921 l, rfl⟩
  simp [pyOf, PyData.depth]
theorem oks_bl (b : Bool) : OkS (D.v (V.bl b)) 1 5 := by
  cases b <;> exact ⟨rfl, rfl, rfl, by decide, by decide +kernel, rfl⟩
theorem len_app (a b : Str) : (a ++ b).length = a.length + b.length := by
  rw [len_L, len_L, len_L, L_app, List.length_append]
theorem textFrom_le : ∀ {ts : List Str} {i : Nat} {acc : Str} {n : Nat}, (∀ t ∈ ts, t.length ≤ n) → (textFrom i acc ts).length ≤ acc.length + ts.length * (n + 2)
  | [], i, acc, n, _ => by
    show acc.length ≤ acc.length + 0 * (n + 2)
    omega
  | t :: ts, i, acc, n, h => by
    have h1 := h t List.mem_cons_self
    have ih := textFrom_le (ts := ts) (i := i + 1) (acc := acc ++ (if i > 0 then ", " else "" : String) ++ t) (n := n) fun t ht => h t (List.mem_cons_of_mem _ ht)
    show (textFrom (i + 1) (acc ++ (if i > 0 then ", " else "" : String) ++ t) ts).length ≤ _
    refine Nat.le_trans ih ?_
    have e : ((if i > 0 then ", " else "" : String) : Str).length ≤ 2 := by
      split <;> decide +kernel
    rw [len_app, len_app, List.length_cons, Nat.succ_mul]
    omega
theorem shownAll_len : ∀ ds : List D, (PyData.shownAll (pyL ds)).length = ds.length
  | [] => rfl
  | d :: ds => by
    simp only [pyL, PyData.shownAll, List.length_cons, shownAll_len ds]
theorem oks_all {k n : Nat} : ∀ {ds : List D}, (∀ d ∈ ds, OkS d k n) → plainL ds = true ∧ PyData.showableAll (pyL ds) = true ∧ PyData.hasDictAll (pyL ds) = false ∧ PyData.depthAll (pyL ds) ≤ k ∧ (∀ t ∈ PyData.shownAll (pyL ds), t.length ≤ n) ∧ PyData.canLayAll0 (pyL ds) = true
  | [], _ => ⟨rfl, rfl, rfl, by simp [pyL, PyData.depthAll], fun t ht => by simp [pyL, PyData.shownAll] at ht, rfl⟩
  | d :: ds, h => by
    obtain ⟨a1, a2, a3, a4, a5, a6⟩ := oks_all (ds := ds) fun e he => h e (List.mem_cons_of_mem _ he)
    have hd := h d List.mem_cons_self
    refine ⟨?_, ?_, ?_, ?_, ?_, ?_⟩
    · simp only [plainL, hd.pl, a1, Bool.and_self]
    · simp only [pyL, PyData.showableAll, hd.sw, a2, Bool.and_self]
    · simp only [pyL, PyData.hasDictAll, hd.nd, a3, Bool.or_self]
    · simp only [pyL, PyData.depthAll]
      have := hd.dp
      omega
    · intro t ht
      simp only [pyL, PyData.shownAll, List.mem_cons] at ht
      rcases ht with rfl | ht
      · exact hd.ln
      · exact a5 t ht
    · simp only [pyL, PyData.canLayAll0, hd.cl, a6, Bool.and_self]
theorem oks_lst {ds : List D} {k n m : Nat} (h : ∀ d ∈ ds, OkS d k n) (hm : ds.length ≤ m) : OkS (D.lst ds) (k + 1) (m * (n + 2) + 2) := by
  obtain ⟨a1, a2, a3, a4, a5, a6⟩ := oks_all h
  refine ⟨?_, ?_, ?_, ?_, ?_, ?_⟩
  · simp only [plainD]; exact a1
  · simp only [pyOf, PyData.showable]; exact a2
  · simp only [pyOf, PyData.hasDict]; exact a3
  · simp only [pyOf, PyData.depth]; omega
  · simp only [pyOf, PyData.shown]
    unfold listText
    rw [len_app]
    have t := textFrom_le (i := 0) (acc := "[") a5
    rw [shownAll_len] at t
    have l1 : (("[" : String) : Str).length = 1 := by decide +kernel
    have l2 : (("]" : String) : Str).length = 1 := by decide +kernel
    have : ds.length * (n + 2) ≤ m * (n + 2) := Nat.mul_le_mul_right _ hm
    first
      | omega
      | (show (textFrom 0 ("[" : Str) _).length + ("]" : Str).length ≤ _; have l3 : ("[" : Str).length = 1 := by decide +kernel; have l4 : ("]" : Str).length = 1 := by decide +kernel; omega)
  · simp only [pyOf, PyData.canLay0]; exact a6
theorem oks_map {α : Type} {e : α → D} {xs : List α} {k n m : Nat} (h : ∀ x ∈ xs, OkS (e x) k n) (hm : xs.length ≤ m) : OkS (D.lst (xs.map e)) (k + 1) (m * (n + 2) + 2) :=
  oks_lst (fun d hd => by
    obtain ⟨x, hx, rfl⟩ := List.mem_map.mp hd
    exact h x hx) (by rw [List.length_map]; exact hm)
/-! ### models and rules of this law -/
abbrev CT := Int × Int × Str
/-! ### pictures -/
structure CV (c : CT) : Prop where
  a : c.1.natAbs ≤ 5
  l0 : 0 ≤ c.2.1
  l3 : c.2.1 ≤ 3
  mrk : c.2.2 = "h" ∨ c.2.2 = "a"
def apart (a b : CT) : Prop := a.1 = b.1 → a.2.1 = b.2.1 → False
structure PV (x : List CT) : Prop where
  cv : ∀ c ∈ x, CV c
  ap : x.Pairwise apart
  z : ∃ c ∈ x, c.2.1 = 0
  l5 : x.length ≤ 5
theorem PV.perm {x y : List CT} (h : PV x) (p : y.Perm x) : PV y := by
  refine ⟨fun c hc => h.cv c (p.mem_iff.mp hc), ?_, ?_, by rw [p.length_eq]; exact h.l5⟩
  · exact (p.pairwise_iff (fun {a b} ap e1 e2 => ap e1.symm e2.symm)).mpr h.ap
  · obtain ⟨c, hc, e⟩ := h.z
    exact ⟨c, p.mem_iff.mpr hc, e⟩
theorem PV.map {x : List CT} (h : PV x) (f : CT → CT) (fc : ∀ c ∈ x, CV (f c)) (fa : ∀ c d, apart c d → apart (f c) (f d)) (fz : ∀ c, (f c).2.1 = c.2.1) : PV (x.map f) := by
  refine ⟨fun c hc => ?_, ?_, ?_, by rw [List.length_map]; exact h.l5⟩
  · obtain ⟨d, hd, rfl⟩ := List.mem_map.mp hc
    exact fc d hd
  · rw [List.pairwise_map]
    exact h.ap.imp fun {a b} ap => fa a b ap
  · obtain ⟨c, hc, e⟩ := h.z
    exact ⟨f c, List.mem_map.mpr ⟨c, hc, rfl⟩, by rw [fz, e]⟩
theorem iscell_ok {c : CT} (h : CV c) {k : Bool → Prop} (q : k true) : M_is_cell c k := by
  have := h.a
  have := h.l0
  have := h.l3
  unfold M_is_cell M_is_integer M_is_count M_is_integer M_is_mark
  have a5 : (if c.1 < 0 then -c.1 else c.1) ≤ 5 := by split <;> omega
  rw [if_neg (show ¬ (!(decide (V.int (3 : Int) = V.int (3 : Int)))) = true by decide)]
  show if (!(!false)) = true then _ else _
  rw [if_neg (by decide), if_neg (by simpa using a5)]
  show if (!false) = true then _ else _
  rw [if_pos (show (!false) = true from rfl)]
  show if decide (0 ≤ c.2.1) = true then _ else _
  rw [if_pos (decide_eq_true h.l0), if_pos (decide_eq_true h.l3)]
  rcases h.mrk with e | e <;> rw [e]
  · exact ⟨"a", by decide +kernel, q⟩
  · exact ⟨"h", by decide +kernel, q⟩
abbrev TK := List (List Key × Bool)
def kyc (c : CT) : List Key := [Sum.inl c.1, Sum.inl c.2.1]
theorem kyc_ap {a b : CT} (h : apart a b) : kyc a ≠ kyc b := fun e => by
  unfold kyc at e
  simp only [List.cons.injEq, Sum.inl.injEq, and_true] at e
  exact h e.1 e.2
theorem checkfor {k : TK → Prop} (q : ∀ s, k s) : ∀ (cs : List CT) (is : List Int) (s : TK), is.length = cs.length → cs.length + s.length < 16777216 → (∀ c ∈ cs, CV c) → cs.Pairwise apart → (∀ c ∈ cs, hasD s (kyc c) = false) →
    forC (fun (x16 : (Int × (Int × Int × Str))) (s18 : (List (List Key × Bool))) (k19 : ((List (List Key × Bool))) → Prop) => (M_is_cell x16.2 fun r40 => (if (!r40) = true then False else (if (hasD s18 ([Sum.inl x16.2.1, Sum.inl x16.2.2.1] : List Key)) = true then False else (s18.length < 16777216 ∧ (k19 ((putD s18 ([Sum.inl x16.2.1, Sum.inl x16.2.2.1] : List Key) true)))))))) (is.zip cs) s k
  | [], _, s, _, _, _, _, _ => by
    rw [List.zip_nil_right]
    exact q s
  | c :: cs, [], s, h, _, _, _, _ => by simp at h
  | c :: cs, i :: is, s, h, hl, hv, ha, hd => by
    rw [List.zip_cons_cons]
    refine iscell_ok (hv c List.mem_cons_self) ?_
    have hc : hasD s (kyc c) = false := hd c List.mem_cons_self
    rw [List.length_cons] at hl
    show if (!true) = true then False else if hasD s (kyc c) = true then False else _ ∧ _
    rw [if_neg (by decide), if_neg (by rw [hc]; decide)]
    refine ⟨by omega, ?_⟩
    have e : putD s (kyc c) true = s ++ [(kyc c, true)] := by
      unfold putD
      unfold hasD at hc
      rw [if_neg (by rw [hc]; decide)]
    show forC _ (is.zip cs) (putD s (kyc c) true) k
    rw [e]
    refine checkfor q cs is _ (by simpa using h) (by rw [List.length_append, List.length_singleton]; omega) (fun d h => hv d (List.mem_cons_of_mem _ h)) (List.pairwise_cons.mp ha).2 fun d h => ?_
    have h1 := hd d (List.mem_cons_of_mem _ h)
    unfold hasD at h1 ⊢
    rw [List.any_append, h1]
    have := kyc_ap ((List.pairwise_cons.mp ha).1 d h)
    simp [this]
theorem check_ok {x : List CT} (h : PV x) {k : Unit → Prop} (q : k ()) : M_check_cells x k := by
  have l5 := h.l5
  obtain ⟨c, hc, e⟩ := h.z
  have hl : 0 < x.length := List.length_pos_of_mem hc
  unfold M_check_cells M_is_list
  show if (!true) = true then _ else _
  rw [if_neg (by decide), if_neg (by simp; intro z; rw [z] at hl; simp at hl)]
  refine checkfor (fun s => ?_) x _ _ (by rw [rangeI_len]; omega) (by simp; omega) h.cv h.ap (fun _ _ => rfl)
  refine ⟨by omega, ?_⟩
  refine mapC_ok (fun c : CT => c.2.1) (fun c _ k' hk => hk) ?_
  rw [List.nil_append]
  rw [if_neg, if_neg]
  · exact q
  · simp
    omega
  · have : inV (V.int 0) ((x.map fun c : CT => c.2.1).map V.int) = true := inV_int.mpr (List.mem_map.mpr ⟨c, hc, e⟩)
    rw [this]
    decide
theorem pic_ok {x : List CT} (h : PV x) {k : List CT → Prop} (q : ∀ y, y.Perm x → y.Pairwise (fun a b => lxT b a = false) → k y) : M_Picture_init x k := by
  unfold M_Picture_init
  refine check_ok h ⟨by have := h.l5; omega, ?_⟩
  refine mapC_ok (fun c : CT => c) (fun c _ k' hk => hk) ?_
  rw [List.nil_append, List.map_id']
  refine ⟨fun a ha b hb e1 e2 => ?_, fun y p sy => q y p sy⟩
  by_cases n : a = b
  · rw [n]
  · exfalso
    have f : ∀ {l : List CT}, l.Pairwise apart → ∀ a ∈ l, ∀ b ∈ l, a ≠ b → apart a b := fun {l} hp => by
      induction l with
      | nil => intro a ha; exact absurd ha List.not_mem_nil
      | cons c l ih =>
        intro a ha b hb hn
        rw [List.pairwise_cons] at hp
        rcases List.mem_cons.mp ha with e | ga
        · rcases List.mem_cons.mp hb with f | gb
          · exact absurd (e.trans f.symm) hn
          · rw [e]
            exact hp.1 b gb
        · rcases List.mem_cons.mp hb with f | gb
          · rw [f]
            exact fun e1 e2 => hp.1 a ga e1.symm e2.symm
          · exact ih hp.2 a ga b gb hn
    exact f h.ap a ha b hb n e1 e2
/-! ### the bound -/
theorem forC_okN {α S : Type} {body : α → S → (S → Prop) → Prop} {k : S → Prop} (I : Nat → S → Prop) (N : Nat) : ∀ {xs : List α} {i : Nat} {s0 : S}, i + xs.length ≤ N → (∀ x ∈ xs, ∀ (j : Nat) (s : S) (k' : S → Prop), j < N → I j s → (∀ s', I (j + 1) s' → k' s') → body x s k') → I i s0 → (∀ s, I (i + xs.length) s → k s) → forC body xs s0 k
  | [], i, s0, _, _, h, q => q s0 h
  | x :: xs, i, s0, hN, hb, h, q => hb x List.mem_cons_self i s0 _ (by rw [List.length_cons] at hN; omega) h fun s' h' => forC_okN I N (i := i + 1) (by rw [List.length_cons] at hN; omega) (fun y hy => hb y (List.mem_cons_of_mem _ hy)) h' fun s h2 => q s (by rw [List.length_cons, show i + (xs.length + 1) = i + 1 + xs.length by omega]; exact h2)
def hz (x : List CT) : Prop := ∃ c cs, x = c :: cs ∧ c.2.1 = 0
structure GV (n : Nat) (x : List CT) : Prop where
  cv : ∀ c ∈ x, CV c
  ap : x.Pairwise apart
  l : x.length ≤ n
abbrev tp (y : Int × Int) : D := D.tup [(D.v (V.int y.1)), (D.v (V.int y.2))]
theorem tps : ∀ ys : List (Int × Int), plainL (ys.map tp) = true ∧ PyData.canLayAll0 (pyL (ys.map tp)) = true ∧ PyData.depthAll (pyL (ys.map tp)) ≤ 3
  | [] => ⟨rfl, rfl, by simp [pyL, PyData.depthAll]⟩
  | y :: ys => by
    obtain ⟨a, b, c⟩ := tps ys
    refine ⟨?_, ?_, ?_⟩
    · simp only [List.map_cons, plainL, a, Bool.and_true]
      rfl
    · simp only [List.map_cons, pyL, PyData.canLayAll0, b, Bool.and_true]
      rfl
    · simp only [List.map_cons, pyL, PyData.depthAll]
      have : (pyOf (tp y)).depth ≤ 3 := by simp [pyOf, pyL, PyData.depth, PyData.depthAll]
      omega
theorem tp_sh (y : Int × Int) : SeqAt.shaped (pyOf (tp y)) = true := by
  unfold SeqAt.shaped
  have h1 : (pyOf (tp y)).canLay0 = true := rfl
  have h2 : (pyOf (tp y)).depth ≤ 3 := by simp [pyOf, pyL, PyData.depth, PyData.depthAll]
  rw [h1, Bool.true_and]
  exact decide_eq_true (by omega)
theorem tps_sh (ys : List (Int × Int)) : plainD (D.lst (ys.map tp)) = true ∧ SeqAt.shaped (pyOf (D.lst (ys.map tp))) = true := by
  obtain ⟨a, b, c⟩ := tps ys
  refine ⟨by simp only [plainD]; exact a, ?_⟩
  unfold SeqAt.shaped
  have h1 : (pyOf (D.lst (ys.map tp))).canLay0 = true := by simp only [pyOf, PyData.canLay0]; exact b
  have h2 : (pyOf (D.lst (ys.map tp))).depth ≤ 4 := by simp only [pyOf, PyData.depth]; omega
  rw [h1, Bool.true_and]
  exact decide_eq_true (by omega)
theorem in_tps {y : Int × Int} {ys : List (Int × Int)} (h : y ∈ ys) : inDv (tp y) (ys.map tp) = true := by
  unfold inDv
  induction ys with
  | nil => exact absurd h List.not_mem_nil
  | cons x xs ih =>
    simp only [List.map_cons, pyL, List.any_cons]
    rcases List.mem_cons.mp h with rfl | h
    · rw [SeqAt.eqv_refl _ (SeqAt.canLay_of_shaped (tp_sh y)), Bool.true_or]
    · rw [ih h, Bool.or_true]
theorem rangeI_cons {a b : Int} (h : a < b) : rangeI a b = a :: rangeI (a + 1) b := by
  unfold rangeI
  rw [show (b - a).toNat = (b - (a + 1)).toNat + 1 by omega, List.range_succ_eq_map, List.map_cons, List.map_map]
  congr 1
  · omega
  · refine List.map_congr_left fun i _ => ?_
    show a + ((i + 1 : Nat) : Int) = a + 1 + (i : Int)
    omega
/-! ### contraries, and the whole -/
theorem mark_con {z : Str} (h : z = "h" ∨ z = "a") : (L z).length ≤ 1000 ∧ Mk (L z) ∧ (S ((L z).map ctrc) = "h" ∨ S ((L z).map ctrc) = "a") := by
  rcases h with rfl | rfl
  · exact ⟨by decide +kernel, by decide +kernel, .inr (by decide +kernel)⟩
  · exact ⟨by decide +kernel, by decide +kernel, .inl (by decide +kernel)⟩
def ctrp (c : CT) : CT := (c.1, c.2.1, S ((L c.2.2).map ctrc))
theorem two_ok {a b : Int} (ha : a.natAbs < 2 ^ 1920) (hb : b.natAbs < 2 ^ 1920) : OkS (D.lst (([a, b] : List Int).map (fun y_ : Int => (D.v (V.int y_))))) 2 5000 :=
  (oks_map (k := 1) (n := 1921) (m := 2) (fun x hx => by
    simp only [List.mem_cons, List.not_mem_nil, or_false] at hx
    rcases hx with rfl | rfl
    · exact oks_int ha
    · exact oks_int hb) (by simp)).mono (by decide) (by decide)
set_option exponentiation.threshold 3000 in
theorem small_big {a : Int} (h : a.natAbs ≤ 1000) : a.natAbs < 2 ^ 1920 := Nat.lt_of_le_of_lt h (Nat.lt_of_lt_of_le (show 1000 < 2 ^ 10 by decide) (Nat.pow_le_pow_right (by decide) (by decide)))
theorem cut_take' {α : Type} (x : List α) {i : Int} (h0 : 0 ≤ i) (h1 : i ≤ x.length) : cutM x none (some i) = x.take i.toNat := by
  unfold cutM
  rw [HT.sIx_none, List.drop_zero, Nat.sub_zero]
  obtain ⟨n, rfl⟩ : ∃ n : Nat, i = (n : Int) := ⟨i.toNat, by omega⟩
  rw [HT.sIx_nat, Nat.min_eq_left (by omega), Int.toNat_natCast]
theorem PV.take {x : List CT} (h : PV x) (z : hz x) {n : Nat} (hn : 0 < n) : PV (x.take n) := by
  obtain ⟨c, cs, rfl, e⟩ := z
  refine ⟨fun d hd => h.cv d (List.mem_of_mem_take hd), h.ap.sublist (List.take_sublist _ _), ⟨c, ?_, e⟩, ?_⟩
  · obtain ⟨m, rfl⟩ : ∃ m, n = m + 1 := ⟨n - 1, by omega⟩
    rw [List.take_succ_cons]
    exact List.mem_cons_self
  · have := h.l5
    rw [List.length_take]
    omega
theorem sorted_perm : ∀ {xs ys : List Int}, ys.Perm xs → xs.Pairwise (· ≤ ·) → ys.Pairwise (· ≤ ·) → ys = xs := fun {xs ys} p h1 h2 => p.eq_of_pairwise (fun a b _ _ h3 h4 => Int.le_antisymm h3 h4) h2 h1
theorem one_pic : PV [((0 : Int), (0 : Int), ("h" : Str))] := ⟨fun c h => by rw [List.mem_singleton.mp h]; exact ⟨by decide, by decide, by decide, .inl rfl⟩, List.pairwise_singleton _ _, ⟨_, List.mem_singleton.mpr rfl, rfl⟩, by decide⟩

abbrev e3 (y : CT) : D := D.tup [(D.v (V.int y.1)), (D.v (V.int y.2.1)), (D.v (V.str y.2.2))]
/-! ### forC over a range, by the number -/
theorem forC_rng {S : Type} {body : Int → S → (S → Prop) → Prop} {k : S → Prop} (I : Int → S → Prop) : ∀ (n : Nat) {lo hi : Int} {s0 : S}, hi = lo + n → (∀ i s k', lo ≤ i → i < hi → I i s → (∀ s', I (i + 1) s' → k' s') → body i s k') → I lo s0 → (∀ s, I hi s → k s) → forC body (rangeI lo hi) s0 k
  | 0, lo, hi, s0, e, _, h, q => by
    have : hi = lo := by omega
    subst this
    have : rangeI hi hi = [] := by unfold rangeI; simp
    rw [this]
    exact q s0 h
  | n + 1, lo, hi, s0, e, hb, h, q => by
    rw [rangeI_cons (by omega)]
    exact hb lo s0 _ (Int.le_refl _) (by omega) h fun s' h' => forC_rng I n (by omega) (fun i s k' h1 h2 => hb i s k' (by omega) h2) h' q
/-! ### sorted cells -/
def slt (a b : CT) : Prop := a.1 < b.1 ∨ (a.1 = b.1 ∧ a.2.1 < b.2.1)
theorem sorted_eq : ∀ {l1 l2 : List CT}, l1.Pairwise slt → l2.Pairwise slt → (∀ a, a ∈ l1 ↔ a ∈ l2) → l1 = l2
  | [], [], _, _, _ => rfl
  | [], b :: t, _, _, h => absurd ((h b).mpr List.mem_cons_self) List.not_mem_nil
  | a :: t, [], _, _, h => absurd ((h a).mp List.mem_cons_self) List.not_mem_nil
  | a :: t1, b :: t2, p1, p2, h => by
    rw [List.pairwise_cons] at p1 p2
    have e : a = b := by
      rcases List.mem_cons.mp ((h a).mp List.mem_cons_self) with e | h1
      · exact e
      · rcases List.mem_cons.mp ((h b).mpr List.mem_cons_self) with e | h2
        · exact e.symm
        · have s1 := p1.1 b h2
          have s2 := p2.1 a h1
          unfold slt at s1 s2
          omega
    subst e
    congr 1
    refine sorted_eq p1.2 p2.2 fun c => ⟨fun hc => ?_, fun hc => ?_⟩
    · rcases List.mem_cons.mp ((h c).mp (List.mem_cons_of_mem _ hc)) with e | h1
      · have s1 := p1.1 c hc
        rw [e] at s1
        unfold slt at s1
        omega
      · exact h1
    · rcases List.mem_cons.mp ((h c).mpr (List.mem_cons_of_mem _ hc)) with e | h1
      · have s1 := p2.1 c hc
        rw [e] at s1
        unfold slt at s1
        omega
      · exact h1
theorem slt_of {x : List CT} (ap : x.Pairwise apart) (s : x.Pairwise (fun a b => lxT b a = false)) : x.Pairwise slt := by
  refine (ap.and s).imp fun {a b} ⟨h1, h2⟩ => ?_
  have n : ¬ (lxT b a = true) := by rw [h2]; decide
  unfold lxT at n
  rw [SrtO.lexB_iff] at n
  simp only [] at n
  unfold slt
  by_cases e : a.1 = b.1
  · by_cases f : a.2.1 = b.2.1
    · exact (h1 e f).elim
    · omega
  · omega
theorem eqv_tp {p q : Int × Int} : PyData.eqv (pyOf (tp p)) (pyOf (tp q)) = true ↔ p = q := by
  simp only [pyOf, pyL, PyData.eqv, PyData.eqvAll, Bool.and_true, Bool.and_eq_true, beq_iff_eq]
  constructor
  · intro h
    exact Prod.ext h.1 h.2
  · rintro rfl
    exact ⟨rfl, rfl⟩
theorem eqv_e3 {p q : CT} (h : PyData.eqv (pyOf (e3 p)) (pyOf (e3 q)) = true) : p = q := by
  simp only [pyOf, pyL, PyData.eqv, PyData.eqvAll, Bool.and_true, Bool.and_eq_true, beq_iff_eq] at h
  exact Prod.ext h.1 (Prod.ext h.2.1 h.2.2)
theorem eqv_e3s : ∀ {xs ys : List CT}, PyData.eqvAll (pyL (xs.map e3)) (pyL (ys.map e3)) = true → xs = ys
  | [], [], _ => rfl
  | [], y :: ys, h => by simp [pyL, PyData.eqvAll] at h
  | x :: xs, [], h => by simp [pyL, PyData.eqvAll] at h
  | x :: xs, y :: ys, h => by
    simp only [List.map_cons, pyL, PyData.eqvAll, Bool.and_eq_true] at h
    rw [eqv_e3 h.1, eqv_e3s h.2]
theorem inDv_tps {y : Int × Int} {ys : List (Int × Int)} : inDv (tp y) (ys.map tp) = true ↔ y ∈ ys := by
  refine ⟨fun h => ?_, in_tps⟩
  unfold inDv at h
  induction ys with
  | nil => simp [pyL] at h
  | cons x xs ih =>
    simp only [List.map_cons, pyL, List.any_cons, Bool.or_eq_true] at h
    rcases h with h | h
    · rw [eqv_tp.mp h]
      exact List.mem_cons_self
    · exact List.mem_cons_of_mem _ (ih h)
/-! ### the law's own order -/
theorem fm_filter {x : List CT} {p : CT → Prop} [DecidablePred p] {g : CT → Option CT} (hg : ∀ c, g c = if p c then some c else none) : x.filterMap g = x.filter (fun c => decide (p c)) := by
  induction x with
  | nil => rfl
  | cons c x ih =>
    by_cases h : p c
    · rw [List.filterMap_cons_some (by rw [hg, if_pos h]), List.filter_cons_of_pos (by simpa using h), ih]
    · rw [List.filterMap_cons_none (by rw [hg, if_neg h]), List.filter_cons_of_neg (by simpa using h), ih]
theorem order_ok {x y : List CT} (hx : PV x) (hy : y.Perm x) (sy : y.Pairwise (fun a b => lxT b a = false)) {k : List CT → Prop} (q : k y) : M_order x k := by
  have l5 := hx.l5
  unfold M_order
  refine forC_rng (fun w s => s.Pairwise slt ∧ (∀ c, c ∈ s ↔ c ∈ x ∧ c.1 < w) ∧ (s.length : Int) ≤ (w + 5) * 20) 11 rfl (fun w s k' w0 w1 ⟨h1, h2, h3⟩ hk => ?_) ⟨List.Pairwise.nil, fun c => ⟨fun h => absurd h List.not_mem_nil, fun ⟨h, h'⟩ => ?_⟩, by decide⟩ fun s ⟨h1, h2, h3⟩ => ?_
  · refine forC_rng (fun v s => s.Pairwise slt ∧ (∀ c, c ∈ s ↔ c ∈ x ∧ (c.1 < w ∨ (c.1 = w ∧ c.2.1 < v))) ∧ (s.length : Int) ≤ (w + 5) * 20 + v * 5) 4 rfl (fun v t k2 v0 v1 ⟨g1, g2, g3⟩ hk2 => ?_) ⟨h1, fun c => ?_, by omega⟩ fun t ⟨g1, g2, g3⟩ => ?_
    · refine ⟨by omega, ?_⟩
      refine filC_ok (fun c : CT => if (c.1, c.2.1) = (w, v) then some c else none) (fun c hc k3 hk3 => ?_) ?_
      · refine ⟨⟨rfl, rfl, tp_sh (c.1, c.2.1), tp_sh (w, v)⟩, ?_⟩
        by_cases e : (c.1, c.2.1) = (w, v)
        · rw [if_pos e] at hk3
          rw [if_pos (eqv_tp.mpr e)]
          exact hk3
        · rw [if_neg e] at hk3
          rw [if_neg (fun z => e (eqv_tp.mp z))]
          exact hk3
      · rw [List.nil_append, fm_filter (p := fun c : CT => (c.1, c.2.1) = (w, v)) (fun c => rfl)]
        have lf : (x.filter (fun c : CT => decide ((c.1, c.2.1) = (w, v)))).length ≤ x.length := List.length_filter_le _ _
        have hm : ∀ c, c ∈ x.filter (fun c : CT => decide ((c.1, c.2.1) = (w, v))) → c ∈ x ∧ c.1 = w ∧ c.2.1 = v := fun c hc => by
          obtain ⟨a, b⟩ := List.mem_filter.mp hc
          have b := of_decide_eq_true b
          exact ⟨a, (Prod.ext_iff.mp b).1, (Prod.ext_iff.mp b).2⟩
        refine ⟨by omega, hk2 _ ⟨?_, fun c => ?_, ?_⟩⟩
        · rw [List.pairwise_append]
          refine ⟨g1, ?_, fun a ha b hb => ?_⟩
          · refine List.Pairwise.imp_of_mem (fun {a b} ha hb ap => ?_) (hx.ap.sublist List.filter_sublist)
            obtain ⟨_, a1, a2⟩ := hm a ha
            obtain ⟨_, b1, b2⟩ := hm b hb
            exact (ap (a1.trans b1.symm) (a2.trans b2.symm)).elim
          · obtain ⟨_, b1, b2⟩ := hm b hb
            have := ((g2 a).mp ha).2
            unfold slt
            omega
        · rw [List.mem_append, g2]
          constructor
          · rintro (⟨a, b⟩ | h)
            · exact ⟨a, by omega⟩
            · obtain ⟨a, b, d⟩ := hm c h
              exact ⟨a, by omega⟩
          · rintro ⟨a, b⟩
            by_cases e : c.1 = w ∧ c.2.1 = v
            · exact .inr (List.mem_filter.mpr ⟨a, decide_eq_true (by rw [e.1, e.2])⟩)
            · exact .inl ⟨a, by omega⟩
        · rw [List.length_append]
          omega
    · rw [h2]
      constructor
      · rintro ⟨a, b⟩
        exact ⟨a, .inl b⟩
      · rintro ⟨a, b⟩
        have := (hx.cv c a).l0
        exact ⟨a, by omega⟩
    · refine hk t ⟨g1, fun c => ?_, by omega⟩
      rw [g2]
      constructor
      · rintro ⟨a, b⟩
        exact ⟨a, by omega⟩
      · rintro ⟨a, b⟩
        have := (hx.cv c a).l3
        exact ⟨a, by omega⟩
  · have := (hx.cv c h).a
    omega
  · have e : s = y := sorted_eq h1 (slt_of (hx.perm hy).ap sy) fun c => by
      rw [h2, hy.mem_iff]
      constructor
      · exact fun h => h.1
      · intro h
        have := (hx.cv c h).a
        exact ⟨h, by omega⟩
    rw [e]
    exact q
/-! ### texts of cells -/
theorem piled_le : ∀ {ts : List Str} {n : Nat}, (∀ t ∈ ts, t.length ≤ n) → piled ts ≤ ts.length * (n + 2)
  | [], n, _ => by
    rw [piled_nil]
    exact Nat.zero_le _
  | t :: ts, n, h => by
    have := piled_le (ts := ts) (n := n) fun x hx => h x (List.mem_cons_of_mem _ hx)
    have := h t List.mem_cons_self
    rw [piled_cons, List.length_cons, Nat.succ_mul]
    omega
theorem tup_text (ts : List Str) : (tupleText ts).length ≤ piled ts + 2 := by
  have e3 : (((if ts.length == 1 then ",)" else ")" : String) : Str)).length ≤ 2 := by split <;> decide +kernel
  have e1 : ((("(" : String) : Str)).length = 1 := rfl
  unfold tupleText
  rw [strLen_append, strLen_append, e1]
  by_cases h : ts = []
  · subst h
    decide +kernel
  · have := join_length_add ts h
    omega
theorem oks_tup {ds : List D} {k n m : Nat} (h : ∀ d ∈ ds, OkS d k n) (hm : ds.length ≤ m) : OkS (D.tup ds) (k + 1) (m * (n + 2) + 2) := by
  obtain ⟨a1, a2, a3, a4, a5, a6⟩ := oks_all h
  refine ⟨?_, ?_, ?_, ?_, ?_, ?_⟩
  · simp only [plainD]; exact a1
  · simp only [pyOf, PyData.showable]; exact a2
  · simp only [pyOf, PyData.hasDict]; exact a3
  · simp only [pyOf, PyData.depth]; omega
  · simp only [pyOf, PyData.shown]
    have t := tup_text (PyData.shownAll (pyL ds))
    have p := piled_le a5
    rw [shownAll_len] at p
    have : ds.length * (n + 2) ≤ m * (n + 2) := Nat.mul_le_mul_right _ hm
    omega
  · simp only [pyOf, PyData.canLay0]; exact a6
theorem oks_mk {z : Str} (h : z = "h" ∨ z = "a") : OkS (D.v (V.str z)) 1 3 := by
  rcases h with rfl | rfl <;> exact ⟨by decide +kernel, by decide +kernel, by decide +kernel, by decide +kernel, by decide +kernel, by decide +kernel⟩
theorem c1s {c : CT} (h : CV c) : c.1.natAbs < 2 ^ 1920 := small_big (by have := h.a; omega)
theorem c2s {c : CT} (h : CV c) : c.2.1.natAbs < 2 ^ 1920 := small_big (by have := h.l0; have := h.l3; omega)
theorem oks_e3 {c : CT} (h : CV c) : OkS (e3 c) 2 5771 :=
  (oks_tup (k := 1) (n := 1921) (m := 3) (fun d hd => by
    simp only [List.mem_cons, List.not_mem_nil, or_false] at hd
    rcases hd with rfl | rfl | rfl
    · exact oks_int (c1s h)
    · exact oks_int (c2s h)
    · exact (oks_mk h.mrk).mono (by decide) (by decide)) (by simp)).mono (by decide) (by decide)
theorem oks_cl {x : List CT} (h : PV x) : OkS (D.lst (x.map e3)) 3 28867 := oks_map (k := 2) (n := 5771) (m := 5) (fun c hc => oks_e3 (h.cv c hc)) h.l5
theorem oks_ct {x : List CT} (h : PV x) : OkS (D.tup (x.map e3)) 3 28867 := oks_tup (k := 2) (n := 5771) (m := 5) (fun d hd => by
  obtain ⟨c, hc, rfl⟩ := List.mem_map.mp hd
  exact oks_e3 (h.cv c hc)) (by rw [List.length_map]; exact h.l5)
theorem log_of {i : Int} (h : i.natAbs < 2 ^ 1920) : i.natAbs.log2 < 1920 := PySem.Flt.log2_lt_of (by decide) h
theorem txt_le {i : Int} (h : i.natAbs < 2 ^ 1920) : (Str.ofString (toString i)).length ≤ 1921 := (oks_int h).ln
theorem emp_app (a : Str) : Str.empty ++ a = a := L_ext (by
  rw [L_app]
  rfl)
abbrev ctx (c : CT) : Str := ((((Str.ofString (toString (c.1 : Int))) ++ ("@" : Str)) ++ (Str.ofString (toString (c.2.1 : Int)))) ++ ("=" : Str)) ++ c.2.2
theorem mk_len {z : Str} (h : z = "h" ∨ z = "a") : z.length = 1 := by
  rcases h with rfl | rfl <;> decide +kernel
theorem at_len : ("@" : Str).length = 1 := by decide +kernel
theorem eq_len : ("=" : Str).length = 1 := by decide +kernel
theorem ctx_len {c : CT} (h : CV c) : (ctx c).length ≤ 3900 := by
  have a := txt_le (c1s h)
  have b := txt_le (c2s h)
  unfold ctx
  rw [len_app, len_app, len_app, len_app, at_len, eq_len, mk_len h.mrk]
  omega
theorem sum_le {α : Type} {f : α → Nat} {n : Nat} : ∀ {xs : List α}, (∀ x ∈ xs, f x ≤ n) → (xs.map f).sum ≤ xs.length * n
  | [], _ => Nat.zero_le _
  | x :: xs, h => by
    have := sum_le (f := f) (n := n) fun y hy => h y (List.mem_cons_of_mem _ hy)
    have := h x List.mem_cons_self
    rw [List.map_cons, List.sum_cons, List.length_cons, Nat.succ_mul]
    omega
theorem texts_fit {x : List CT} (h : PV x) : ((x.map ctx).map (·.length)).sum + (x.map ctx).length * (" " : Str).length ≤ 16777216 := by
  have e : (" " : Str).length = 1 := by decide +kernel
  have l5 := h.l5
  have s := sum_le (f := fun c : CT => (ctx c).length) (n := 3900) (xs := x) fun c hc => ctx_len (h.cv c hc)
  rw [List.map_map, e, List.length_map]
  have s' : (List.map ((fun x => x.length) ∘ ctx) x).sum ≤ x.length * 3900 := s
  omega
theorem str_ok {x : List CT} (h : PV x) {k : Str → Prop} (q : k (Txt.join (" " : Str) (x.map ctx))) : M_Picture_str x k := by
  unfold M_Picture_str
  refine ⟨by have := h.l5; omega, ?_⟩
  refine mapC_ok ctx (fun c hc k' hk => ?_) ?_
  · have v := h.cv c hc
    have a := txt_le (c1s v)
    have b := txt_le (c2s v)
    have m := mk_len v.mrk
    simp only [emp_app]
    refine ⟨log_of (c1s v), ?_, ?_, log_of (c2s v), ?_, ?_, ?_, ?_, hk⟩ <;> rw [sizeLine_eq]
    · omega
    · rw [len_app, at_len]
      omega
    · rw [len_app, len_app, at_len]
      omega
    · rw [len_app, len_app, len_app, at_len, eq_len]
      omega
    · omega
    · exact Nat.le_trans (ctx_len v) (by decide)
  · rw [List.nil_append]
    exact ⟨texts_fit h, q⟩
theorem span_ok {x : List CT} (h : PV x) {k : Int → Prop} (q : ∀ z, z ∈ x.map (fun c : CT => c.2.1) → (∀ u ∈ x.map (fun c : CT => c.2.1), u ≤ z) → k z) : M_Picture_span x k := by
  unfold M_Picture_span
  refine ⟨by have := h.l5; omega, ?_⟩
  refine mapC_ok (fun c : CT => c.2.1) (fun c hc k' hk => hk) ?_
  rw [List.nil_append]
  obtain ⟨c, hc, _⟩ := h.z
  refine ⟨?_, q⟩
  rw [List.length_map]
  exact List.length_pos_of_mem hc
def rtx (x : List CT) : Str := (("Picture(" : Str) ++ (pyOf (D.lst (x.map e3))).shown) ++ (")" : Str)
theorem rlen {x : List CT} (h : PV x) : ("Picture(" : Str).length + (pyOf (D.lst (x.map e3))).shown.length ≤ sizeLine ∧ (("Picture(" : Str) ++ (pyOf (D.lst (x.map e3))).shown).length + (")" : Str).length ≤ sizeLine := by
  have l1 := (oks_cl h).ln
  have e1 : ("Picture(" : Str).length = 8 := by decide +kernel
  have e2 : (")" : Str).length = 1 := by decide +kernel
  rw [len_app, e1, e2, sizeLine_eq]
  omega
theorem repr_ok {x : List CT} (h : PV x) {k : Str → Prop} (q : k (rtx x)) : M_Picture_repr x k := by
  obtain ⟨r1, r2⟩ := rlen h
  unfold M_Picture_repr
  simp only [emp_app]
  refine ⟨by rw [sizeLine_eq]; decide +kernel, (oks_cl h).rp (by decide) (by decide), ?_, ?_, q⟩
  · rw [len_app]
    exact r1
  · rw [len_app]
    exact r2
theorem told_ok {x y : List CT} (hx : PV x) (hy : y.Perm x) (sy : y.Pairwise (fun a b => lxT b a = false)) {k : Bool → Prop} (q : k true) : M_told_right y x k := by
  have py := hx.perm hy
  have l5 := py.l5
  unfold M_told_right
  refine order_ok hx hy sy ⟨by omega, ?_⟩
  refine mapC_ok ctx (fun c hc k' hk => ?_) ?_
  · have v := py.cv c hc
    have a := txt_le (c1s v)
    have b := txt_le (c2s v)
    have m := mk_len v.mrk
    refine ⟨log_of (c1s v), ?_, log_of (c2s v), ?_, ?_, ?_, hk⟩ <;> rw [sizeLine_eq]
    · rw [at_len]
      omega
    · rw [len_app, at_len]
      omega
    · rw [len_app, len_app, at_len, eq_len]
      omega
    · rw [len_app, len_app, len_app, at_len, eq_len]
      omega
  · rw [List.nil_append]
    refine ⟨texts_fit py, (oks_ct py).rp (by decide) (by decide), (oks_ct py).rp (by decide) (by decide), ?_⟩
    rw [if_neg (by simp)]
    refine span_ok py fun z hz hmax => ?_
    have sz : z.natAbs < 2 ^ 1920 := by
      obtain ⟨c, hc, rfl⟩ := List.mem_map.mp hz
      exact c2s (py.cv c hc)
    refine ⟨(oks_int sz).rp (by decide) (by decide), by omega, ?_⟩
    refine mapC_ok (fun c : CT => c.2.1) (fun c hc k' hk => hk) ?_
    rw [List.nil_append]
    refine ⟨?_, fun u hu humax => ?_⟩
    · obtain ⟨c, hc, _⟩ := py.z
      rw [List.length_map]
      exact List.length_pos_of_mem hc
    · have e : u = z := Int.le_antisymm (hmax u hu) (humax z hz)
      subst e
      refine ⟨(oks_int sz).rp (by decide) (by decide), ?_⟩
      rw [if_neg (by simp)]
      refine str_ok py ?_
      rw [if_pos (by simp)]
      refine repr_ok py ⟨(oks_cl py).rp (by decide) (by decide), (rlen py).1, (rlen py).2, ?_⟩
      have t : (decide (V.str (rtx y) = V.str (((("Picture(" : Str) ++ (pyOf (D.lst (y.map e3))).shown) ++ (")" : Str))))) = true := decide_eq_true rfl
      exact t ▸ q

/-! ### other marks -/
def oth (z : Str) : Str := if z = "h" then "a" else "h"
theorem oth_mk (z : Str) : oth z = "h" ∨ oth z = "a" := by
  unfold oth
  split
  · exact .inr rfl
  · exact .inl rfl
theorem oth_ne {z : Str} (h : z = "h" ∨ z = "a") : oth z ≠ z := by
  rcases h with rfl | rfl <;> decide +kernel
theorem oth_oth {z : Str} (h : z = "h" ∨ z = "a") : oth (oth z) = z := by
  rcases h with rfl | rfl <;> decide +kernel
theorem other_ok {z : Str} {k : Str → Prop} (q : k (oth z)) : M_other z k := by
  unfold M_other
  refine ⟨fun r => r = oth z, ?_, fun r hr => by rw [hr]; exact q⟩
  unfold oth
  by_cases e : z = "h"
  · rw [if_pos (by rw [e]; simp), if_pos e]
  · rw [if_neg (by simpa using e), if_neg e]
theorem ctr_oth {z : Str} (h : z = "h" ∨ z = "a") : S ((L z).map ctrc) = oth z := by
  rcases h with rfl | rfl <;> decide +kernel
def otc (c : CT) : CT := (c.1, c.2.1, oth c.2.2)
theorem PV.otc {x : List CT} (h : PV x) : PV (x.map otc) := h.map Lw.otc (fun c hc => ⟨(h.cv c hc).a, (h.cv c hc).l0, (h.cv c hc).l3, oth_mk _⟩) (fun c d ap => ap) fun c => rfl
theorem pcon_ok {x : List CT} (h : PV x) {k : List CT → Prop} (q : ∀ y, y.Perm (x.map otc) → y.Pairwise (fun a b => lxT b a = false) → k y) : M_Picture_contrary x k := by
  unfold M_Picture_contrary
  refine ⟨by have := h.l5; omega, ?_⟩
  refine mapC_ok otc (fun c hc k' hk => ?_) ?_
  · obtain ⟨a, b, _⟩ := mark_con (h.cv c hc).mrk
    refine cmarks_ok a b ?_
    rw [ctr_oth (h.cv c hc).mrk]
    exact hk
  · rw [List.nil_append]
    exact pic_ok h.otc q
theorem picT_ok {x : List CT} (h : PV x) {k : List CT → Prop} (q : ∀ y, y.Perm x → y.Pairwise (fun a b => lxT b a = false) → k y) : M_Picture_init_nvtiis x k := (pic_ok h q : M_Picture_init x k)
theorem eq_ok {x y : List CT} (hx : PV x) (hy : PV y) {k : Bool → Prop} (q : ∀ b : Bool, (b = true ↔ x = y) → k b) : M_Picture_eq x y k := by
  unfold M_Picture_eq
  refine ⟨⟨(oks_ct hx).pl, (oks_ct hy).pl, (oks_ct hx).sh (by decide), (oks_ct hy).sh (by decide)⟩, q _ ⟨fun h => ?_, fun h => ?_⟩⟩
  · simp only [pyOf, PyData.eqv] at h
    exact eqv_e3s h
  · subst h
    exact (oks_ct hx).rf (by decide)
theorem same_sorted {x y z : List CT} (hx : PV x) (py : y.Perm x) (pz : z.Perm x) (sy : y.Pairwise (fun a b => lxT b a = false)) (sz : z.Pairwise (fun a b => lxT b a = false)) : y = z :=
  sorted_eq (slt_of (hx.perm py).ap sy) (slt_of (hx.perm pz).ap sz) fun c => by rw [py.mem_iff, pz.mem_iff]
/-! ### bent pictures -/
theorem PV.mid {l1 l2 : List CT} {c : CT} (h : PV (l1 ++ c :: l2)) : ∀ d, d ∈ l1 ++ l2 → d.1 = c.1 → d.2.1 = c.2.1 → False := fun d hd e1 e2 => by
  have p := h.ap
  rw [List.pairwise_append, List.pairwise_cons] at p
  rcases List.mem_append.mp hd with hd | hd
  · exact p.2.2 d hd c List.mem_cons_self e1 e2
  · exact p.2.1.1 d hd e1.symm e2.symm
theorem PV.put {l1 l2 : List CT} {c c' : CT} (h : PV (l1 ++ c :: l2)) (cv : CV c') (far : ∀ d, d ∈ l1 ++ l2 → d.1 = c'.1 → d.2.1 = c'.2.1 → False) (hl : c'.2.1 = c.2.1) : PV ((l1 ++ [c']) ++ l2) := by
  have p := h.ap
  rw [List.pairwise_append, List.pairwise_cons] at p
  rw [List.append_assoc, List.singleton_append]
  refine ⟨fun d hd => ?_, ?_, ?_, ?_⟩
  · rcases List.mem_append.mp hd with hd | hd
    · exact h.cv d (List.mem_append.mpr (.inl hd))
    · rcases List.mem_cons.mp hd with rfl | hd
      · exact cv
      · exact h.cv d (List.mem_append.mpr (.inr (List.mem_cons_of_mem _ hd)))
  · rw [List.pairwise_append, List.pairwise_cons]
    refine ⟨p.1, ⟨fun d hd e1 e2 => far d (List.mem_append.mpr (.inr hd)) e1.symm e2.symm, p.2.1.2⟩, fun a ha d hd => ?_⟩
    rcases List.mem_cons.mp hd with rfl | hd
    · exact far a (List.mem_append.mpr (.inl ha))
    · exact p.2.2 a ha d (List.mem_cons_of_mem _ hd)
  · obtain ⟨d, hd, e⟩ := h.z
    rcases List.mem_append.mp hd with hd | hd
    · exact ⟨d, List.mem_append.mpr (.inl hd), e⟩
    · rcases List.mem_cons.mp hd with rfl | hd
      · exact ⟨c', List.mem_append.mpr (.inr List.mem_cons_self), by rw [hl, e]⟩
      · exact ⟨d, List.mem_append.mpr (.inr (List.mem_cons_of_mem _ hd)), e⟩
  · have := h.l5
    rw [List.length_append, List.length_cons] at this ⊢
    exact this
theorem cut_drop' {α : Type} (x : List α) {i : Int} (h0 : 0 ≤ i) (h1 : i ≤ x.length) : cutM x (some i) none = x.drop i.toNat := by
  unfold cutM
  obtain ⟨n, rfl⟩ : ∃ n : Nat, i = (n : Int) := ⟨i.toNat, by omega⟩
  rw [HT.sIx_none, HT.sIx_nat, Nat.min_eq_left (by omega), Int.toNat_natCast]
  exact List.take_of_length_le (by rw [List.length_drop]; exact Nat.le_refl _)
theorem tps_keys (x : List CT) : (x.map fun c : CT => (c.1, c.2.1)).length = x.length := List.length_map _
theorem bent_far {l1 l2 : List CT} {c : CT} {k : Option (List CT) → Prop} (h : PV (l1 ++ c :: l2)) (q0 : k none) (q1 : ∀ z, PV z → ¬ (∀ d, d ∈ z ↔ d ∈ l1 ++ c :: l2) → k (some z)) {n1 n2 : Prop} (hn1 : n1) (hn2 : n2) :
    (l1 ++ c :: l2).length < 100000 ∧ mapC (fun (x163 : (Int × Int × Str)) (k156 : (Int × Int) → Prop) => (k156 (x163.1, x163.2.1))) (l1 ++ c :: l2) [] fun ys182 => ((plainD (tp ((((c.1 + (6 : Int)) % (11 : Int)) - (5 : Int)), c.2.1)) = true ∧ plainD (D.lst (ys182.map tp)) = true ∧ SeqAt.shaped (pyOf (tp ((((c.1 + (6 : Int)) % (11 : Int)) - (5 : Int)), c.2.1))) = true ∧ SeqAt.shaped (pyOf (D.lst (ys182.map tp))) = true) ∧ (if (inDv (tp ((((c.1 + (6 : Int)) % (11 : Int)) - (5 : Int)), c.2.1)) (ys182.map tp)) = true then (k none) else (n1 ∧ (n2 ∧ (k (some ((l1 ++ ([((((c.1 + (6 : Int)) % (11 : Int)) - (5 : Int)), c.2.1, c.2.2)] : List (Int × Int × Str))) ++ l2))))))) := by
  have cv := h.cv c (List.mem_append.mpr (.inr List.mem_cons_self))
  have l5 := h.l5
  refine ⟨by omega, ?_⟩
  refine mapC_ok (fun c : CT => (c.1, c.2.1)) (fun c _ k' hk => hk) ?_
  rw [List.nil_append]
  refine ⟨⟨rfl, (tps_sh _).1, tp_sh _, (tps_sh _).2⟩, ?_⟩
  by_cases i : inDv (tp ((((c.1 + (6 : Int)) % (11 : Int)) - (5 : Int)), c.2.1)) (((l1 ++ c :: l2).map fun c : CT => (c.1, c.2.1)).map tp) = true
  · rw [if_pos i]
    exact q0
  · rw [if_neg i]
    have far : ∀ d, d ∈ l1 ++ c :: l2 → d.1 = ((c.1 + 6) % 11 - 5) → d.2.1 = c.2.1 → False := fun d hd e1 e2 => i (in_tps (List.mem_map.mpr ⟨d, hd, by rw [e1, e2]⟩))
    refine ⟨hn1, hn2, q1 _ (h.put ⟨?_, cv.l0, cv.l3, cv.mrk⟩ (fun d hd => far d ?_) rfl) fun z => ?_⟩
    · show ((c.1 + 6) % 11 - 5).natAbs ≤ 5
      omega
    · rcases List.mem_append.mp hd with hd | hd
      · exact List.mem_append.mpr (.inl hd)
      · exact List.mem_append.mpr (.inr (List.mem_cons_of_mem _ hd))
    · exact far _ ((z ((c.1 + 6) % 11 - 5, c.2.1, c.2.2)).mp (by simp)) rfl rfl
theorem bent_ok {x : List CT} {k : Option (List CT) → Prop} (h : PV x) (q0 : k none) (q1 : ∀ z, PV z → ¬ (∀ d, d ∈ z ↔ d ∈ x) → k (some z)) : M_bent x k := by
  have l5 := h.l5
  have lpos : 0 < x.length := by
    obtain ⟨c, hc, _⟩ := h.z
    exact List.length_pos_of_mem hc
  unfold M_bent
  refine draw_ok (by omega) (by omega) fun i i0 i1 => draw_ok (by decide) (by decide) fun w w0 w1 => ⟨i0, by omega, fun c hc => ?_⟩
  have hi : i.toNat < x.length := by omega
  rw [cut_take' x i0 (by omega), cut_drop' x (i := i + 1) (by omega) (by omega)]
  have ex : x.take i.toNat ++ c :: x.drop (i + 1).toNat = x := by
    rw [hc, show (i + 1).toNat = i.toNat + 1 by omega, ← List.drop_eq_getElem_cons hi, List.take_append_drop]
  have t1 : (x.take i.toNat).length ≤ 5 := by rw [List.length_take]; omega
  have t2 : (x.drop (i + 1).toNat).length ≤ 5 := by rw [List.length_drop]; omega
  generalize x.take i.toNat = l1 at *
  generalize x.drop (i + 1).toNat = l2 at *
  subst ex
  have cv := h.cv c (List.mem_append.mpr (.inr List.mem_cons_self))
  by_cases e0 : w = 0
  · rw [if_pos (by rw [e0]; simp)]
    refine other_ok ⟨by rw [sizeLine_eq]; simp; omega, by rw [sizeLine_eq]; simp; omega, ?_⟩
    refine q1 _ (h.put ⟨cv.a, cv.l0, cv.l3, oth_mk _⟩ (fun d hd => h.mid d hd) rfl) fun z => ?_
    have := (z (c.1, c.2.1, oth c.2.2)).mp (by simp)
    rcases List.mem_append.mp this with t | t
    · exact h.mid _ (List.mem_append.mpr (.inl t)) rfl rfl
    · rcases List.mem_cons.mp t with t | t
      · exact oth_ne cv.mrk (Prod.ext_iff.mp (Prod.ext_iff.mp t).2).2
      · exact h.mid _ (List.mem_append.mpr (.inr t)) rfl rfl
  · rw [if_neg (by simpa using e0)]
    have s1 : l1.length + ([((((c.1 + (6 : Int)) % (11 : Int)) - (5 : Int)), c.2.1, c.2.2)] : List (Int × Int × Str)).length ≤ sizeLine := by rw [sizeLine_eq]; simp; omega
    have s2 : (l1 ++ ([((((c.1 + (6 : Int)) % (11 : Int)) - (5 : Int)), c.2.1, c.2.2)] : List (Int × Int × Str))).length + l2.length ≤ sizeLine := by rw [sizeLine_eq]; simp; omega
    by_cases e1 : w = 1
    · rw [if_pos (by rw [e1]; simp)]
      by_cases e2 : (1 : Int) < ((l1 ++ c :: l2).length : Int)
      · rw [if_pos (decide_eq_true e2)]
        refine ⟨by rw [sizeLine_eq]; omega, k, ⟨by rw [List.length_append]; omega, ?_⟩, fun r hr => hr⟩
        refine mapC_ok (fun c : CT => c.2.1) (fun c _ k' hk => hk) ?_
        rw [List.nil_append]
        by_cases z : inV (V.int 0) (((l1 ++ l2).map fun c : CT => c.2.1).map V.int) = true
        · rw [if_pos z]
          have sub : (l1 ++ l2).Sublist (l1 ++ c :: l2) := List.Sublist.append (List.Sublist.refl _) (List.sublist_cons_self _ _)
          obtain ⟨d, hd, ed⟩ := List.mem_map.mp (inV_int.mp z)
          refine q1 _ ⟨fun d hd => h.cv d (sub.subset hd), h.ap.sublist sub, ⟨d, hd, ed⟩, Nat.le_trans sub.length_le l5⟩ fun z => ?_
          exact h.mid c ((z c).mpr (by simp)) rfl rfl
        · rw [if_neg z]
          exact q0
      · rw [if_neg (by simpa using e2)]
        exact bent_far h q0 q1 s1 s2
    · rw [if_neg (by simpa using e1)]
      exact bent_far h q0 q1 s1 s2
/-! ### drawn cells -/
structure SV (n : Nat) (x : List CT) : Prop where
  cv : ∀ c ∈ x, CV c
  ap : x.Pairwise apart
  z : ∃ c ∈ x, c.2.1 = 0
  l : x.length ≤ n
theorem hamark {f : Int} (f0 : 0 ≤ f) (f1 : f < 2) : ∃ m, atI ("ha" : Str).cps.toList f = some m ∧ ((Str.mk #[m]) = "h" ∨ (Str.mk #[m]) = "a") := by
  have hf : f = 0 ∨ f = 1 := by omega
  rcases hf with rfl | rfl
  · exact ⟨104, by decide +kernel, .inl (by decide +kernel)⟩
  · exact ⟨97, by decide +kernel, .inr (by decide +kernel)⟩
def somB : Int → List CT → (List CT → Prop) → Prop := (fun (x29 : Int) (s31 : (List (Int × Int × Str))) (k32 : ((List (Int × Int × Str))) → Prop) => (M_draw (11 : Int) fun r41 => (M_draw (4 : Int) fun r46 => (M_draw (2 : Int) fun r51 => (("ha" : Str).length ≤ sizeLine ∧ ∃ c57, atI ("ha" : Str).cps.toList r51 = some c57 ∧ (s31.length < 100000 ∧ mapC (fun (x83 : (Int × Int × Str)) (k76 : (Int × Int) → Prop) => (k76 (x83.1, x83.2.1))) s31 [] fun ys105 => ((plainD (D.tup [(D.v (V.int ((r41 - (5 : Int)), r46).1)), (D.v (V.int ((r41 - (5 : Int)), r46).2))]) = true ∧ plainD (D.lst (ys105.map (fun y_ : (Int × Int) => (D.tup [(D.v (V.int y_.1)), (D.v (V.int y_.2))])))) = true ∧ SeqAt.shaped (pyOf (D.tup [(D.v (V.int ((r41 - (5 : Int)), r46).1)), (D.v (V.int ((r41 - (5 : Int)), r46).2))])) = true ∧ SeqAt.shaped (pyOf (D.lst (ys105.map (fun y_ : (Int × Int) => (D.tup [(D.v (V.int y_.1)), (D.v (V.int y_.2))]))))) = true) ∧ (if (!(inDv (D.tup [(D.v (V.int ((r41 - (5 : Int)), r46).1)), (D.v (V.int ((r41 - (5 : Int)), r46).2))]) (ys105.map (fun y_ : (Int × Int) => (D.tup [(D.v (V.int y_.1)), (D.v (V.int y_.2))]))))) = true then (M_draw ((s31.length : Int) + (1 : Int)) fun r110 => ((s31.length < 16777216 ∧ 0 ≤ r110 ∧ r110 < 2 ^ 63) ∧ (k32 ((s31.take (Int.toNat r110) ++ [((r41 - (5 : Int)), r46, (Str.mk #[c57]))] ++ s31.drop (Int.toNat r110)))))) else (k32 (s31))))))))))
theorem som_body {x : Int} {s : List CT} {n : Nat} {k' : List CT → Prop} (hn : n < 5) (hg : SV n s) (q : ∀ s', SV (n + 1) s' → k' s') : somB x s k' := by
  have hl := hg.l
  show M_draw (11 : Int) _
  refine draw_ok (by decide) (by decide) fun a a0 a1 => draw_ok (by decide) (by decide) fun b b0 b1 => draw_ok (by decide) (by decide) fun f f0 f1 => ⟨by decide +kernel, ?_⟩
  obtain ⟨m, hm, hm2⟩ := hamark f0 f1
  refine ⟨m, hm, by omega, ?_⟩
  refine mapC_ok (fun c : CT => (c.1, c.2.1)) (fun c _ k' hk => hk) ?_
  rw [List.nil_append]
  refine ⟨⟨rfl, (tps_sh _).1, tp_sh _, (tps_sh _).2⟩, ?_⟩
  by_cases i : inDv (tp (a - 5, b)) ((s.map fun c : CT => (c.1, c.2.1)).map tp) = true
  · rw [if_neg (show ¬ (!inDv (tp (a - 5, b)) ((s.map fun c : CT => (c.1, c.2.1)).map tp)) = true by rw [i]; decide)]
    exact q s ⟨hg.cv, hg.ap, hg.z, by omega⟩
  · rw [if_pos (show (!inDv (tp (a - 5, b)) ((s.map fun c : CT => (c.1, c.2.1)).map tp)) = true by rw [Bool.not_eq_true] at i; rw [i]; rfl)]
    refine draw_ok (by omega) (by omega) fun r r0 r1 => ⟨⟨by omega, r0, by omega⟩, ?_⟩
    have pm : (s.take r.toNat ++ [(a - 5, b, Str.mk #[m])] ++ s.drop r.toNat).Perm ((a - 5, b, Str.mk #[m]) :: s) := by
      rw [List.append_assoc, List.singleton_append]
      refine List.perm_middle.trans ?_
      rw [List.take_append_drop]
    have cv : CV (a - 5, b, Str.mk #[m]) := ⟨by show (a - 5).natAbs ≤ 5; omega, b0, by show b ≤ 3; omega, hm2⟩
    refine q _ ⟨fun c hc => ?_, ?_, ?_, ?_⟩
    · rcases List.mem_cons.mp (pm.mem_iff.mp hc) with rfl | hc
      · exact cv
      · exact hg.cv c hc
    · refine (pm.pairwise_iff (fun {a b} ap e1 e2 => ap e1.symm e2.symm)).mpr (List.pairwise_cons.mpr ⟨fun d hd e1 e2 => i (in_tps (List.mem_map.mpr ⟨d, hd, ?_⟩)), hg.ap⟩)
      show (d.1, d.2.1) = (a - 5, b)
      have e1' : a - 5 = d.1 := e1
      have e2' : b = d.2.1 := e2
      rw [e1', e2']
    · obtain ⟨c, hc, e⟩ := hg.z
      exact ⟨c, pm.mem_iff.mpr (List.mem_cons_of_mem _ hc), e⟩
    · rw [pm.length_eq, List.length_cons]
      omega
theorem some_ok {k : List CT → Prop} (q : ∀ x, PV x → k x) : M_some_cells k := by
  unfold M_some_cells
  refine draw_ok (by decide) (by decide) fun a a0 a1 => draw_ok (by decide) (by decide) fun f f0 f1 => ⟨by decide +kernel, ?_⟩
  obtain ⟨m, hm, hm2⟩ := hamark f0 f1
  refine ⟨m, hm, draw_ok (by decide) (by decide) fun d d0 d1 => ?_⟩
  show forC somB (rangeI 0 d) [(a - 5, 0, Str.mk #[m])] (fun s => k s)
  refine forC_okN (fun j s => SV (j + 1) s) 4 (i := 0) (by rw [rangeI_len]; omega) (fun x hx j s k' hj g q' => som_body (by omega) g q') ⟨fun c hc => ?_, List.pairwise_singleton _ _, ⟨_, List.mem_singleton.mpr rfl, rfl⟩, Nat.le_refl _⟩ fun s g => ?_
  · rw [List.mem_singleton.mp hc]
    exact ⟨by show (a - 5).natAbs ≤ 5; omega, Int.le_refl _, (by show (0 : Int) ≤ 3; decide), hm2⟩
  · refine q s ⟨g.cv, g.ap, g.z, ?_⟩
    have := g.l
    rw [rangeI_len] at this
    omega
/-! ### the whole -/
theorem others_ok {x y : List CT} (hx : PV x) (hy : PV y) {k : List Bool → Prop} {t1 t2 : Str} (q : ∀ ys : List Bool, List.any ys id = false → k ys) :
    ([(D.v V.non), (D.tup (y.map e3)), (D.lst (x.map e3)), (D.v (V.str t1)), (D.v (V.str t2)), (D.v (V.int (0 : Int)))] : List D).length < 100000 ∧ mapC (fun (x280 : D) (k273 : Bool → Prop) => (noI x280 = true ∧ (M_Picture_eq_oPictureD y x280 fun r287 => (k273 r287)))) ([(D.v V.non), (D.tup (y.map e3)), (D.lst (x.map e3)), (D.v (V.str t1)), (D.v (V.str t2)), (D.v (V.int (0 : Int)))] : List D) [] k := by
  refine ⟨by simp, ?_⟩
  refine mapC_ok (fun _ => false) (fun d hd k' hk => ?_) ?_
  · have n : noI d = true := by
      simp only [List.mem_cons, List.not_mem_nil, or_false] at hd
      rcases hd with rfl | rfl | rfl | rfl | rfl | rfl <;> rfl
    exact ⟨n, n, hk⟩
  · rw [List.nil_append]
    exact q _ (by simp)
theorem tail_ok {x y : List CT} (hx : PV x) (hy : y.Perm x) (sy : y.Pairwise (fun a b => lxT b a = false)) {k : Bool → Prop} (q : k true) :
    M_Picture_cells y fun r306 => (M_Picture_repr y fun r320 => (M_Picture_str y fun r325 => (([(D.v V.non), (D.tup (r306.map e3)), (D.lst (x.map e3)), (D.v (V.str r320)), (D.v (V.str r325)), (D.v (V.int (0 : Int)))] : List D).length < 100000 ∧ mapC (fun (x352 : D) (k345 : Bool → Prop) => (noI x352 = true ∧ (M_Picture_eq_oPictureD y x352 fun r359 => (k345 r359)))) ([(D.v V.non), (D.tup (r306.map e3)), (D.lst (x.map e3)), (D.v (V.str r320)), (D.v (V.str r325)), (D.v (V.int (0 : Int)))] : List D) [] fun ys369 => (if (List.any ys369 id) = true then (k false) else (M_told_right y x fun r372 => (k r372)))))) := by
  have py := hx.perm hy
  unfold M_Picture_cells
  refine repr_ok py ?_
  refine str_ok py ?_
  refine others_ok hx py fun ys hys => ?_
  rw [if_neg (by rw [hys]; decide)]
  exact told_ok hx hy sy q
theorem right_true : M_right fun r => r = true := by
  unfold M_right
  refine some_ok fun x hx => pic_ok hx fun y hy sy => ?_
  have py := hx.perm hy
  have l5 := hx.l5
  have lpos : 0 < x.length := by
    obtain ⟨c, hc, _⟩ := hx.z
    exact List.length_pos_of_mem hc
  have rest : ∀ r26 : Option (List CT), (∀ z, r26 = some z → PV z ∧ ¬ (∀ d, d ∈ z ↔ d ∈ x)) → ((x.map (fun y_ : (Int × Int × Str) => (D.tup [(D.v (V.int y_.1)), (D.v (V.int y_.2.1)), (D.v (V.str y_.2.2))]))).length < 16777216 ∧ (0 ≤ (0 : Int) ∧ Int.toNat (0 : Int) < ((x.map (fun y_ : (Int × Int × Str) => (D.tup [(D.v (V.int y_.1)), (D.v (V.int y_.2.1)), (D.v (V.str y_.2.2))]))) ++ [(D.v V.non)]).length ∧ (M_told_right y x fun r61 => (if (!r61) = true then ((fun r : Bool => r = true) false) else (M_Picture_init_nvtiis (x.reverse) fun r85 => (M_told_right r85 x fun r87 => (if (!r87) = true then ((fun r : Bool => r = true) false) else (x.length < 100000 ∧ mapC (fun (x108 : (Int × Int × Str)) (k101 : (Int × Int × Str) → Prop) => (M_other x108.2.2 fun r128 => (k101 (x108.1, x108.2.1, r128)))) x [] fun ys144 => (M_Picture_contrary y fun r147 => (M_told_right r147 ys144 fun r152 => (if (!r152) = true then ((fun r : Bool => r = true) false) else (M_Picture_contrary y fun r157 => (M_Picture_init ys144 fun r165 => (M_Picture_eq r157 r165 fun r167 => (if (!r167) = true then ((fun r : Bool => r = true) false) else (M_Picture_contrary y fun r172 => (M_Picture_contrary r172 fun r177 => (M_Picture_eq r177 y fun r182 => (if (!r182) = true then ((fun r : Bool => r = true) false) else (M_Picture_contrary y fun r187 => (M_Picture_eq y r187 fun r192 => (if r192 = true then ((fun r : Bool => r = true) false) else (M_Picture_init (x.reverse) fun r208 => (M_Picture_eq y r208 fun r210 => (if (!r210) = true then ((fun r : Bool => r = true) false) else (if (Option.isSome r26) = true then (∃ y215, r26 = some y215 ∧ (M_Picture_init y215 fun r221 => (M_Picture_eq r221 y fun r223 => (if r223 = true then ((fun r : Bool => r = true) false) else (M_told_right r221 y215 fun r228 => (if (!r228) = true then ((fun r : Bool => r = true) false) else (M_Picture_cells y fun r234 => (M_Picture_repr y fun r248 => (M_Picture_str y fun r253 => (([(D.v V.non), (D.tup (r234.map (fun y_ : (Int × Int × Str) => (D.tup [(D.v (V.int y_.1)), (D.v (V.int y_.2.1)), (D.v (V.str y_.2.2))])))), (D.lst (x.map (fun y_ : (Int × Int × Str) => (D.tup [(D.v (V.int y_.1)), (D.v (V.int y_.2.1)), (D.v (V.str y_.2.2))])))), (D.v (V.str r248)), (D.v (V.str r253)), (D.v (V.int (0 : Int)))] : List D).length < 100000 ∧ mapC (fun (x280 : D) (k273 : Bool → Prop) => (noI x280 = true ∧ (M_Picture_eq_oPictureD y x280 fun r287 => (k273 r287)))) ([(D.v V.non), (D.tup (r234.map (fun y_ : (Int × Int × Str) => (D.tup [(D.v (V.int y_.1)), (D.v (V.int y_.2.1)), (D.v (V.str y_.2.2))])))), (D.lst (x.map (fun y_ : (Int × Int × Str) => (D.tup [(D.v (V.int y_.1)), (D.v (V.int y_.2.1)), (D.v (V.str y_.2.2))])))), (D.v (V.str r248)), (D.v (V.str r253)), (D.v (V.int (0 : Int)))] : List D) [] fun ys297 => (if (List.any ys297 id) = true then ((fun r : Bool => r = true) false) else (M_told_right y x fun r300 => ((fun r : Bool => r = true) r300))))))))))))) else (M_Picture_cells y fun r306 => (M_Picture_repr y fun r320 => (M_Picture_str y fun r325 => (([(D.v V.non), (D.tup (r306.map (fun y_ : (Int × Int × Str) => (D.tup [(D.v (V.int y_.1)), (D.v (V.int y_.2.1)), (D.v (V.str y_.2.2))])))), (D.lst (x.map (fun y_ : (Int × Int × Str) => (D.tup [(D.v (V.int y_.1)), (D.v (V.int y_.2.1)), (D.v (V.str y_.2.2))])))), (D.v (V.str r320)), (D.v (V.str r325)), (D.v (V.int (0 : Int)))] : List D).length < 100000 ∧ mapC (fun (x352 : D) (k345 : Bool → Prop) => (noI x352 = true ∧ (M_Picture_eq_oPictureD y x352 fun r359 => (k345 r359)))) ([(D.v V.non), (D.tup (r306.map (fun y_ : (Int × Int × Str) => (D.tup [(D.v (V.int y_.1)), (D.v (V.int y_.2.1)), (D.v (V.str y_.2.2))])))), (D.lst (x.map (fun y_ : (Int × Int × Str) => (D.tup [(D.v (V.int y_.1)), (D.v (V.int y_.2.1)), (D.v (V.str y_.2.2))])))), (D.v (V.str r320)), (D.v (V.str r325)), (D.v (V.int (0 : Int)))] : List D) [] fun ys369 => (if (List.any ys369 id) = true then ((fun r : Bool => r = true) false) else (M_told_right y x fun r372 => ((fun r : Bool => r = true) r372))))))))))))))))))))))))))))))))) := by
    intro r26 hr
    refine ⟨by rw [List.length_map]; omega, Int.le_refl _, by simp, ?_⟩
    refine told_ok hx hy sy ?_
    rw [if_neg (by decide)]
    have hrev : x.reverse.Perm x := List.reverse_perm x
    have prev : PV x.reverse := hx.perm hrev
    refine picT_ok prev fun u hu su => told_ok hx (hu.trans hrev) su ?_
    rw [if_neg (by decide)]
    refine ⟨by omega, ?_⟩
    refine mapC_ok otc (fun c hc k' hk => other_ok hk) ?_
    rw [List.nil_append]
    have po := hx.otc
    have my : (y.map otc).Perm (x.map otc) := hy.map _
    refine pcon_ok py fun v hv sv => told_ok po (hv.trans my) sv ?_
    rw [if_neg (by decide)]
    refine pcon_ok py fun v2 hv2 sv2 => pic_ok po fun v3 hv3 sv3 => eq_ok (po.perm (hv2.trans my)) (po.perm hv3) fun b hb => ?_
    rw [hb.mpr (same_sorted po (hv2.trans my) hv3 sv2 sv3), if_neg (by decide)]
    refine pcon_ok py fun v4 hv4 sv4 => ?_
    have pv4 := po.perm (hv4.trans my)
    refine pcon_ok pv4 fun v5 hv5 sv5 => ?_
    have back : (v4.map otc).Perm y := by
      have e : (y.map otc).map otc = y := by
        rw [List.map_map]
        have : ∀ c ∈ y, (otc ∘ otc) c = c := fun c hc => by
          show (c.1, c.2.1, oth (oth c.2.2)) = c
          rw [oth_oth (py.cv c hc).mrk]
        rw [List.map_congr_left this, List.map_id']
      have := hv4.map otc
      rw [e] at this
      exact this
    refine eq_ok (py.perm (hv5.trans back)) py fun b2 hb2 => ?_
    rw [hb2.mpr (same_sorted py (hv5.trans back) (List.Perm.refl _) sv5 sy), if_neg (by decide)]
    refine pcon_ok py fun v6 hv6 sv6 => eq_ok py (po.perm (hv6.trans my)) fun b3 hb3 => ?_
    have nb3 : b3 = false := by
      cases b3 with
      | false => rfl
      | true =>
        exfalso
        have e := hb3.mp rfl
        obtain ⟨c, hc, _⟩ := py.z
        have h1 : otc c ∈ y := by
          rw [e]
          exact hv6.mem_iff.mpr (List.mem_map.mpr ⟨c, hc, rfl⟩)
        obtain ⟨l1, l2, ey⟩ := List.append_of_mem hc
        rw [ey] at py h1
        rcases List.mem_append.mp h1 with t | t
        · exact py.mid _ (List.mem_append.mpr (.inl t)) rfl rfl
        · rcases List.mem_cons.mp t with t | t
          · exact oth_ne (py.cv c (by simp)).mrk (Prod.ext_iff.mp (Prod.ext_iff.mp t).2).2
          · exact py.mid _ (List.mem_append.mpr (.inr t)) rfl rfl
    rw [nb3, if_neg (by decide)]
    refine pic_ok prev fun v7 hv7 sv7 => eq_ok py (hx.perm (hv7.trans hrev)) fun b4 hb4 => ?_
    rw [hb4.mpr (same_sorted hx hy (hv7.trans hrev) sy sv7), if_neg (by decide)]
    cases r26 with
    | none =>
      rw [if_neg (by decide)]
      exact tail_ok hx hy sy rfl
    | some z =>
      obtain ⟨pz, nz⟩ := hr z rfl
      rw [if_pos (by rfl)]
      refine ⟨z, rfl, pic_ok pz fun v8 hv8 sv8 => eq_ok (pz.perm hv8) py fun b5 hb5 => ?_⟩
      have nb5 : b5 = false := by
        cases b5 with
        | false => rfl
        | true =>
          exfalso
          have e := hb5.mp rfl
          exact nz fun d => by rw [← hv8.mem_iff, e, hy.mem_iff]
      rw [nb5, if_neg (by decide)]
      refine told_ok pz hv8 sv8 ?_
      rw [if_neg (by decide)]
      exact tail_ok hx hy sy rfl

  refine bent_ok hx (rest none (fun z h => by cases h)) fun z pz nz => rest (some z) (fun u e => by cases e; exact ⟨pz, nz⟩)

def sp_law (K : PySem.W.Frag) : Sp := fun vs H Q _ => ∃ (a : Addr) (ns : List Int), vs = [.ref a] ∧ SqL K H a (ns.map V.int) ∧ ns.length ≤ 63 ∧ ∀ H1 : Hp, Q (.bl true) H1
theorem law_enter {K : PySem.W.Frag} {H : Hp} {a : Addr} {ns : List Int} (hl : ns.length ≤ 63) (_ : Only H) (hS : SqL K H a (ns.map V.int)) : sp_law K [.ref a] H (fun v _ => v = .bl true) fun _ _ _ => False := ⟨a, ns, rfl, hS, hl, fun _ => rfl⟩
theorem sq_keep {K : PySem.W.Frag} {H H1 : Hp} {a : Addr} {xs : List V} (k : ∀ b o, H b = some o → H1 b = some o) (h : SqL K H a xs) : SqL K H1 a xs := by
  rcases h with (h | ⟨o, h⟩) | h
  · exact .inl (.inl (k _ _ h))
  · exact .inl (.inr ⟨o, k _ _ h⟩)
  · exact .inr h
theorem ok_law {P : Program} {w : World} {K : PySem.W.Frag} {mg : Str → Option Value} {base : Heap} {A : Ad} (T : Txt w K mg A) : FnG P w K mg base 9 A.a_law A.d_law ["_law_script"] (sp_law K) := by
  refine okG T.F_law sc_law (fun vs H Q E h => ?_) (fun cdv A_ outer s_ H_0 vs Q E gu hr h => ?_)
  · obtain ⟨a, ns, rfl, _⟩ := h
    rfl
  · obtain ⟨a, ns, rfl, hS, hl, hQ⟩ := h
    refine ⟨_, pss_one (ps_ret (pe_callB (cr_all rfl) (by rfl) T.z_all (by decide +kernel) (pa_cons (pe_lc (own := [("_law_k", 1)]) (g := gName 1) rfl sc_law.nd
      (pi_range1 (by rfl) T.z_range (pa_cons (pe_callB (call_max2 rfl) (by rfl) T.z_max (by decide +kernel) (pa_cons pe_int (pa_cons (pe_callB (call_min2 rfl) (by rfl) T.z_min (by decide +kernel) (pa_cons pe_int (pa_cons (pe_callB call_len (by rfl) T.z_len PySem.boot_len (pa_cons (pv 0) pa_nil)) pa_nil))) pa_nil))) pa_nil))
      (blkOk_by (N := ["_law_script", "_law_k"]) (sc := defScope s_law) (by decide +kernel)) (fun _ _ _ _ _ => pg_name (i := 1) sc_law.nd rfl (by first | exact Or.inl rfl | exact Or.inr rfl)) (fun _ _ _ _ _ => pts_nil)
      (fun _ _ _ _ _ => pe_callG (ok_right T) gu (hr.mono (by decide)) (by rfl) T.g_right T.F_right.kp T.b_right (pa_cons (pe_call (ok_pot T) (hr.mono (by decide)) (by rfl) T.g_pot T.F_pot.kp T.b_pot .nil pass0 (pa_cons (pv 0) (pa_cons (pv 1) pa_nil))) pa_nil))) pa_nil))), ?_⟩
    refine ⟨_, rfl, _, ns.length, rfl, .inl ⟨_, hS, by rw [List.length_map]⟩, _, _, rfl, _, _, rfl, _, rfl, ?_, ?_, fun L nl => ?_⟩
    · split <;> split <;> omega
    · split <;> split <;> omega
    have hsq : ∀ H : Hp, (∀ o, H_0 a = some o → H a = some o) → SqL K H a (ns.map V.int) := fun H k => by
      rcases hS with (h | ⟨o, h⟩) | h
      · exact .inl (.inl (k _ h))
      · exact .inl (.inr ⟨o, k _ h⟩)
      · exact .inr h
    refine lc_range (lo := 0) (fun i H => (∀ o, H_0 a = some o → H a = some o) ∧ ∃ n, n ≤ i ∧ H L = some (.lst (List.replicate n (.bl true)))) ⟨fun o h => (Rx.Ext.new nl).keep h, 0, Nat.le_refl _, upd_same⟩ (fun i H hi ⟨hS1, n, hn, hL⟩ => ?_) (fun H ⟨hS1, n, hn, hL⟩ => ?_)
    · refine ⟨rfl, ?_⟩
      refine tyes_of ?_
      have hi4 : i < 64 := by
        refine Nat.lt_of_lt_of_le hi ?_
        split <;> split <;> omega
      refine ⟨_, rfl, _, rfl, a, ns, 0 + (i : Int), rfl, hsq H hS1, hl, by omega, by omega, fun p H1 i1 j1 np e1 hp hj => ?_⟩
      refine ⟨[p], p, fun r => r = true, rfl, ⟨fun _ _ _ h => h, fun _ h => h, fun m hm => ?_, fun b hb => ?_, fun b hb => hb, fun c hc => absurd hc List.not_mem_nil⟩, right_true, fun r u H2 hr2 e2 hu => ?_⟩
      · rw [List.mem_singleton.mp hm, hp]
        exact fun z => nomatch z
      · rw [List.mem_singleton.mp hb]
        exact ⟨i1, j1, hp, hj⟩
      · obtain rfl := of_v hu
        have e3 : ∀ b o, H b = some o → H2 b = some o := fun b o h => e2.kp b o (fun z => by
          rw [List.mem_singleton.mp z, np] at h
          cases h) (e1.keep h)
        refine ⟨_, e3 _ _ hL, ?_, fun o h => ?_, n + 1, Nat.succ_le_succ hn, by rw [upd_same, hr2, List.replicate_succ']⟩
        · rw [List.length_replicate]
          exact Nat.lt_of_le_of_lt (show n ≤ 64 by omega) (by decide)
        · rw [upd_ne (ne_of_none h nl)]
          exact e3 _ _ (hS1 _ h)
    · refine ⟨L, List.replicate n true, rfl, .inl (.inl (by rw [List.map_replicate]; exact hL)), ?_⟩
      have : (List.replicate n true).all id = true := by
        rw [List.all_eq_true]
        intro x hx
        rw [(List.mem_replicate.mp hx).2]
        rfl
      rw [this]
      exact hQ _

theorem all_mk {l : PySem.W.OpenLaw} {w : World} {K : PySem.W.Frag} {h : Heap} {mg : Str → Option Value} {fa Adraw Asome_cells Ais_list Ais_integer Ais_count Ais_mark Ais_cell Acheck_cells APicture_init Aother Abent Aorder APicture_cells APicture_span APicture_str APicture_repr Atold_right Acontrary_marks APicture_contrary APicture_eq Aright Apot Alaw CPicture : Addr} (X : K.In h) (G : h.Ns mainGlobals mg) (hfa : mg "law" = some (.ref fa))
    {oddraw andraw : Option Addr} {sldraw : Array (Option Value)} {ocdraw kVdraw dcdraw pmdraw cddraw ctdraw : Value}
    {odsome_cells ansome_cells : Option Addr} {slsome_cells : Array (Option Value)} {ocsome_cells kVsome_cells dcsome_cells pmsome_cells cdsome_cells ctsome_cells : Value}
    {odis_list anis_list : Option Addr} {slis_list : Array (Option Value)} {ocis_list kVis_list dcis_list pmis_list cdis_list ctis_list : Value}
    {odis_integer anis_integer : Option Addr} {slis_integer : Array (Option Value)} {ocis_integer kVis_integer dcis_integer pmis_integer cdis_integer ctis_integer : Value}
    {odis_count anis_count : Option Addr} {slis_count : Array (Option Value)} {ocis_count kVis_count dcis_count pmis_count cdis_count ctis_count : Value}
    {odis_mark anis_mark : Option Addr} {slis_mark : Array (Option Value)} {ocis_mark kVis_mark dcis_mark pmis_mark cdis_mark ctis_mark : Value}
    {odis_cell anis_cell : Option Addr} {slis_cell : Array (Option Value)} {ocis_cell kVis_cell dcis_cell pmis_cell cdis_cell ctis_cell : Value}
    {odcheck_cells ancheck_cells : Option Addr} {slcheck_cells : Array (Option Value)} {occheck_cells kVcheck_cells dccheck_cells pmcheck_cells cdcheck_cells ctcheck_cells : Value}
    {odPicture_init anPicture_init : Option Addr} {slPicture_init : Array (Option Value)} {ocPicture_init kVPicture_init dcPicture_init pmPicture_init cdPicture_init ctPicture_init : Value}
    {odother another : Option Addr} {slother : Array (Option Value)} {ocother kVother dcother pmother cdother ctother : Value}
    {odbent anbent : Option Addr} {slbent : Array (Option Value)} {ocbent kVbent dcbent pmbent cdbent ctbent : Value}
    {odorder anorder : Option Addr} {slorder : Array (Option Value)} {ocorder kVorder dcorder pmorder cdorder ctorder : Value}
    {PPicture_cells : Addr}
    {RPicture_cells : List Value}
    {odPicture_cells anPicture_cells : Option Addr} {slPicture_cells : Array (Option Value)} {ocPicture_cells kVPicture_cells dcPicture_cells pmPicture_cells cdPicture_cells ctPicture_cells : Value}
    {PPicture_span : Addr}
    {RPicture_span : List Value}
    {odPicture_span anPicture_span : Option Addr} {slPicture_span : Array (Option Value)} {ocPicture_span kVPicture_span dcPicture_span pmPicture_span cdPicture_span ctPicture_span : Value}
    {odPicture_str anPicture_str : Option Addr} {slPicture_str : Array (Option Value)} {ocPicture_str kVPicture_str dcPicture_str pmPicture_str cdPicture_str ctPicture_str : Value}
    {odPicture_repr anPicture_repr : Option Addr} {slPicture_repr : Array (Option Value)} {ocPicture_repr kVPicture_repr dcPicture_repr pmPicture_repr cdPicture_repr ctPicture_repr : Value}
    {odtold_right antold_right : Option Addr} {sltold_right : Array (Option Value)} {octold_right kVtold_right dctold_right pmtold_right cdtold_right cttold_right : Value}
    {odcontrary_marks ancontrary_marks : Option Addr} {slcontrary_marks : Array (Option Value)} {occontrary_marks kVcontrary_marks dccontrary_marks pmcontrary_marks cdcontrary_marks ctcontrary_marks : Value}
    {odPicture_contrary anPicture_contrary : Option Addr} {slPicture_contrary : Array (Option Value)} {ocPicture_contrary kVPicture_contrary dcPicture_contrary pmPicture_contrary cdPicture_contrary ctPicture_contrary : Value}
    {odPicture_eq anPicture_eq : Option Addr} {slPicture_eq : Array (Option Value)} {ocPicture_eq kVPicture_eq dcPicture_eq pmPicture_eq cdPicture_eq ctPicture_eq : Value}
    {odright anright : Option Addr} {slright : Array (Option Value)} {ocright kVright dcright pmright cdright ctright : Value}
    {odpot anpot : Option Addr} {slpot : Array (Option Value)} {ocpot kVpot dcpot pmpot cdpot ctpot : Value}
    {odlaw anlaw : Option Addr} {sllaw : Array (Option Value)} {oclaw kVlaw dclaw pmlaw cdlaw ctlaw : Value}
    {DCONTRARIES : Addr} {esCONTRARIES : Array DictEntry} {enCONTRARIES : Nat}
    {tCONTRARIES1 : Tok}
    {tCONTRARIES0 : Tok}
    {tMOST_AHEAD : Tok}
    {tMOST_CELLS : Tok}
    {tMOST_LATER : Tok}
    (a_draw : PySem.W.nsIn K mainGlobals "_law_draw" = some (some (.ref Adraw)))
    (l_draw : K.lookup Adraw = some ⟨ocdraw, oddraw, .func (PySem.W.fnOf "_law_draw" "_law_draw" (defArgs s_draw) (defBody s_draw) (defScope s_draw) .none kVdraw dcdraw pmdraw andraw cddraw ctdraw), sldraw⟩)
    (o_draw : PySem.W.codeIn K cddraw "_law_draw" = true)
    (k_draw : PySem.W.keepIn K (.ref Adraw) = true)
    (a_some_cells : PySem.W.nsIn K mainGlobals "_law_some_cells" = some (some (.ref Asome_cells)))
    (l_some_cells : K.lookup Asome_cells = some ⟨ocsome_cells, odsome_cells, .func (PySem.W.fnOf "_law_some_cells" "_law_some_cells" (defArgs s_some_cells) (defBody s_some_cells) (defScope s_some_cells) .none kVsome_cells dcsome_cells pmsome_cells ansome_cells cdsome_cells ctsome_cells), slsome_cells⟩)
    (o_some_cells : PySem.W.codeIn K cdsome_cells "_law_some_cells" = true)
    (k_some_cells : PySem.W.keepIn K (.ref Asome_cells) = true)
    (a_is_list : PySem.W.nsIn K mainGlobals "is_list" = some (some (.ref Ais_list)))
    (l_is_list : K.lookup Ais_list = some ⟨ocis_list, odis_list, .func (PySem.W.fnOf "is_list" "is_list" (defArgs s_is_list) (defBody s_is_list) (defScope s_is_list) .none kVis_list dcis_list pmis_list anis_list cdis_list ctis_list), slis_list⟩)
    (o_is_list : PySem.W.codeIn K cdis_list "is_list" = true)
    (k_is_list : PySem.W.keepIn K (.ref Ais_list) = true)
    (a_is_integer : PySem.W.nsIn K mainGlobals "is_integer" = some (some (.ref Ais_integer)))
    (l_is_integer : K.lookup Ais_integer = some ⟨ocis_integer, odis_integer, .func (PySem.W.fnOf "is_integer" "is_integer" (defArgs s_is_integer) (defBody s_is_integer) (defScope s_is_integer) .none kVis_integer dcis_integer pmis_integer anis_integer cdis_integer ctis_integer), slis_integer⟩)
    (o_is_integer : PySem.W.codeIn K cdis_integer "is_integer" = true)
    (k_is_integer : PySem.W.keepIn K (.ref Ais_integer) = true)
    (a_is_count : PySem.W.nsIn K mainGlobals "is_count" = some (some (.ref Ais_count)))
    (l_is_count : K.lookup Ais_count = some ⟨ocis_count, odis_count, .func (PySem.W.fnOf "is_count" "is_count" (defArgs s_is_count) (defBody s_is_count) (defScope s_is_count) .none kVis_count dcis_count pmis_count anis_count cdis_count ctis_count), slis_count⟩)
    (o_is_count : PySem.W.codeIn K cdis_count "is_count" = true)
    (k_is_count : PySem.W.keepIn K (.ref Ais_count) = true)
    (a_is_mark : PySem.W.nsIn K mainGlobals "is_mark" = some (some (.ref Ais_mark)))
    (l_is_mark : K.lookup Ais_mark = some ⟨ocis_mark, odis_mark, .func (PySem.W.fnOf "is_mark" "is_mark" (defArgs s_is_mark) (defBody s_is_mark) (defScope s_is_mark) .none kVis_mark dcis_mark pmis_mark anis_mark cdis_mark ctis_mark), slis_mark⟩)
    (o_is_mark : PySem.W.codeIn K cdis_mark "is_mark" = true)
    (k_is_mark : PySem.W.keepIn K (.ref Ais_mark) = true)
    (a_is_cell : PySem.W.nsIn K mainGlobals "_is_cell" = some (some (.ref Ais_cell)))
    (l_is_cell : K.lookup Ais_cell = some ⟨ocis_cell, odis_cell, .func (PySem.W.fnOf "_is_cell" "_is_cell" (defArgs s_is_cell) (defBody s_is_cell) (defScope s_is_cell) .none kVis_cell dcis_cell pmis_cell anis_cell cdis_cell ctis_cell), slis_cell⟩)
    (o_is_cell : PySem.W.codeIn K cdis_cell "_is_cell" = true)
    (k_is_cell : PySem.W.keepIn K (.ref Ais_cell) = true)
    (a_check_cells : PySem.W.nsIn K mainGlobals "_check_cells" = some (some (.ref Acheck_cells)))
    (l_check_cells : K.lookup Acheck_cells = some ⟨occheck_cells, odcheck_cells, .func (PySem.W.fnOf "_check_cells" "_check_cells" (defArgs s_check_cells) (defBody s_check_cells) (defScope s_check_cells) .none kVcheck_cells dccheck_cells pmcheck_cells ancheck_cells cdcheck_cells ctcheck_cells), slcheck_cells⟩)
    (o_check_cells : PySem.W.codeIn K cdcheck_cells "_check_cells" = true)
    (k_check_cells : PySem.W.keepIn K (.ref Acheck_cells) = true)
    (a_Picture_init : PySem.W.findIn K (.ref CPicture) "__init__" = some (some (.ref APicture_init)))
    (i_Picture_init : PySem.W.isFn K (.ref APicture_init) = true)
    (l_Picture_init : K.lookup APicture_init = some ⟨ocPicture_init, odPicture_init, .func (PySem.W.fnOf "__init__" "Picture.__init__" (defArgs s_Picture_init) (defBody s_Picture_init) (defScope s_Picture_init) .none kVPicture_init dcPicture_init pmPicture_init anPicture_init cdPicture_init ctPicture_init), slPicture_init⟩)
    (o_Picture_init : PySem.W.codeIn K cdPicture_init "Picture.__init__" = true)
    (k_Picture_init : PySem.W.keepIn K (.ref APicture_init) = true)
    (a_other : PySem.W.nsIn K mainGlobals "_law_other" = some (some (.ref Aother)))
    (l_other : K.lookup Aother = some ⟨ocother, odother, .func (PySem.W.fnOf "_law_other" "_law_other" (defArgs s_other) (defBody s_other) (defScope s_other) .none kVother dcother pmother another cdother ctother), slother⟩)
    (o_other : PySem.W.codeIn K cdother "_law_other" = true)
    (k_other : PySem.W.keepIn K (.ref Aother) = true)
    (a_bent : PySem.W.nsIn K mainGlobals "_law_bent" = some (some (.ref Abent)))
    (l_bent : K.lookup Abent = some ⟨ocbent, odbent, .func (PySem.W.fnOf "_law_bent" "_law_bent" (defArgs s_bent) (defBody s_bent) (defScope s_bent) .none kVbent dcbent pmbent anbent cdbent ctbent), slbent⟩)
    (o_bent : PySem.W.codeIn K cdbent "_law_bent" = true)
    (k_bent : PySem.W.keepIn K (.ref Abent) = true)
    (a_order : PySem.W.nsIn K mainGlobals "_law_order" = some (some (.ref Aorder)))
    (l_order : K.lookup Aorder = some ⟨ocorder, odorder, .func (PySem.W.fnOf "_law_order" "_law_order" (defArgs s_order) (defBody s_order) (defScope s_order) .none kVorder dcorder pmorder anorder cdorder ctorder), slorder⟩)
    (o_order : PySem.W.codeIn K cdorder "_law_order" = true)
    (k_order : PySem.W.keepIn K (.ref Aorder) = true)
    (pa_Picture_cells : PySem.W.findIn K (.ref CPicture) "cells" = some (some (.ref PPicture_cells)))
    (pg_Picture_cells : PySem.W.specialIn K (.ref PPicture_cells) "__get__" = some (some (.builtin "property.__get__")))
    (pt_Picture_cells : PySem.W.takesIn K (.ref PPicture_cells) = some true)
    (pr_Picture_cells : PySem.W.recIn K PPicture_cells "property" = some (.ref APicture_cells :: RPicture_cells))
    (l_Picture_cells : K.lookup APicture_cells = some ⟨ocPicture_cells, odPicture_cells, .func (PySem.W.fnOf "cells" "Picture.cells" (defArgs s_Picture_cells) (defBody s_Picture_cells) (defScope s_Picture_cells) .none kVPicture_cells dcPicture_cells pmPicture_cells anPicture_cells cdPicture_cells ctPicture_cells), slPicture_cells⟩)
    (o_Picture_cells : PySem.W.codeIn K cdPicture_cells "Picture.cells" = true)
    (k_Picture_cells : PySem.W.keepIn K (.ref APicture_cells) = true)
    (pa_Picture_span : PySem.W.findIn K (.ref CPicture) "span" = some (some (.ref PPicture_span)))
    (pg_Picture_span : PySem.W.specialIn K (.ref PPicture_span) "__get__" = some (some (.builtin "property.__get__")))
    (pt_Picture_span : PySem.W.takesIn K (.ref PPicture_span) = some true)
    (pr_Picture_span : PySem.W.recIn K PPicture_span "property" = some (.ref APicture_span :: RPicture_span))
    (l_Picture_span : K.lookup APicture_span = some ⟨ocPicture_span, odPicture_span, .func (PySem.W.fnOf "span" "Picture.span" (defArgs s_Picture_span) (defBody s_Picture_span) (defScope s_Picture_span) .none kVPicture_span dcPicture_span pmPicture_span anPicture_span cdPicture_span ctPicture_span), slPicture_span⟩)
    (o_Picture_span : PySem.W.codeIn K cdPicture_span "Picture.span" = true)
    (k_Picture_span : PySem.W.keepIn K (.ref APicture_span) = true)
    (a_Picture_str : PySem.W.findIn K (.ref CPicture) "__str__" = some (some (.ref APicture_str)))
    (i_Picture_str : PySem.W.isFn K (.ref APicture_str) = true)
    (l_Picture_str : K.lookup APicture_str = some ⟨ocPicture_str, odPicture_str, .func (PySem.W.fnOf "__str__" "Picture.__str__" (defArgs s_Picture_str) (defBody s_Picture_str) (defScope s_Picture_str) .none kVPicture_str dcPicture_str pmPicture_str anPicture_str cdPicture_str ctPicture_str), slPicture_str⟩)
    (o_Picture_str : PySem.W.codeIn K cdPicture_str "Picture.__str__" = true)
    (k_Picture_str : PySem.W.keepIn K (.ref APicture_str) = true)
    (a_Picture_repr : PySem.W.findIn K (.ref CPicture) "__repr__" = some (some (.ref APicture_repr)))
    (i_Picture_repr : PySem.W.isFn K (.ref APicture_repr) = true)
    (l_Picture_repr : K.lookup APicture_repr = some ⟨ocPicture_repr, odPicture_repr, .func (PySem.W.fnOf "__repr__" "Picture.__repr__" (defArgs s_Picture_repr) (defBody s_Picture_repr) (defScope s_Picture_repr) .none kVPicture_repr dcPicture_repr pmPicture_repr anPicture_repr cdPicture_repr ctPicture_repr), slPicture_repr⟩)
    (o_Picture_repr : PySem.W.codeIn K cdPicture_repr "Picture.__repr__" = true)
    (k_Picture_repr : PySem.W.keepIn K (.ref APicture_repr) = true)
    (a_told_right : PySem.W.nsIn K mainGlobals "_law_told_right" = some (some (.ref Atold_right)))
    (l_told_right : K.lookup Atold_right = some ⟨octold_right, odtold_right, .func (PySem.W.fnOf "_law_told_right" "_law_told_right" (defArgs s_told_right) (defBody s_told_right) (defScope s_told_right) .none kVtold_right dctold_right pmtold_right antold_right cdtold_right cttold_right), sltold_right⟩)
    (o_told_right : PySem.W.codeIn K cdtold_right "_law_told_right" = true)
    (k_told_right : PySem.W.keepIn K (.ref Atold_right) = true)
    (a_contrary_marks : PySem.W.nsIn K mainGlobals "contrary_marks" = some (some (.ref Acontrary_marks)))
    (l_contrary_marks : K.lookup Acontrary_marks = some ⟨occontrary_marks, odcontrary_marks, .func (PySem.W.fnOf "contrary_marks" "contrary_marks" (defArgs s_contrary_marks) (defBody s_contrary_marks) (defScope s_contrary_marks) .none kVcontrary_marks dccontrary_marks pmcontrary_marks ancontrary_marks cdcontrary_marks ctcontrary_marks), slcontrary_marks⟩)
    (o_contrary_marks : PySem.W.codeIn K cdcontrary_marks "contrary_marks" = true)
    (k_contrary_marks : PySem.W.keepIn K (.ref Acontrary_marks) = true)
    (a_Picture_contrary : PySem.W.findIn K (.ref CPicture) "contrary" = some (some (.ref APicture_contrary)))
    (i_Picture_contrary : PySem.W.isFn K (.ref APicture_contrary) = true)
    (l_Picture_contrary : K.lookup APicture_contrary = some ⟨ocPicture_contrary, odPicture_contrary, .func (PySem.W.fnOf "contrary" "Picture.contrary" (defArgs s_Picture_contrary) (defBody s_Picture_contrary) (defScope s_Picture_contrary) .none kVPicture_contrary dcPicture_contrary pmPicture_contrary anPicture_contrary cdPicture_contrary ctPicture_contrary), slPicture_contrary⟩)
    (o_Picture_contrary : PySem.W.codeIn K cdPicture_contrary "Picture.contrary" = true)
    (k_Picture_contrary : PySem.W.keepIn K (.ref APicture_contrary) = true)
    (a_Picture_eq : PySem.W.findIn K (.ref CPicture) "__eq__" = some (some (.ref APicture_eq)))
    (i_Picture_eq : PySem.W.isFn K (.ref APicture_eq) = true)
    (l_Picture_eq : K.lookup APicture_eq = some ⟨ocPicture_eq, odPicture_eq, .func (PySem.W.fnOf "__eq__" "Picture.__eq__" (defArgs s_Picture_eq) (defBody s_Picture_eq) (defScope s_Picture_eq) .none kVPicture_eq dcPicture_eq pmPicture_eq anPicture_eq cdPicture_eq ctPicture_eq), slPicture_eq⟩)
    (o_Picture_eq : PySem.W.codeIn K cdPicture_eq "Picture.__eq__" = true)
    (k_Picture_eq : PySem.W.keepIn K (.ref APicture_eq) = true)
    (a_right : PySem.W.nsIn K mainGlobals "_law_right" = some (some (.ref Aright)))
    (l_right : K.lookup Aright = some ⟨ocright, odright, .func (PySem.W.fnOf "_law_right" "_law_right" (defArgs s_right) (defBody s_right) (defScope s_right) .none kVright dcright pmright anright cdright ctright), slright⟩)
    (o_right : PySem.W.codeIn K cdright "_law_right" = true)
    (k_right : PySem.W.keepIn K (.ref Aright) = true)
    (a_pot : PySem.W.nsIn K mainGlobals "_law_pot" = some (some (.ref Apot)))
    (l_pot : K.lookup Apot = some ⟨ocpot, odpot, .func (PySem.W.fnOf "_law_pot" "_law_pot" (defArgs s_pot) (defBody s_pot) (defScope s_pot) .none kVpot dcpot pmpot anpot cdpot ctpot), slpot⟩)
    (o_pot : PySem.W.codeIn K cdpot "_law_pot" = true)
    (k_pot : PySem.W.keepIn K (.ref Apot) = true)
    (a_law : PySem.W.nsIn K mainGlobals "law" = some (some (.ref Alaw)))
    (l_law : K.lookup Alaw = some ⟨oclaw, odlaw, .func (PySem.W.fnOf "law" "law" (defArgs s_law) (defBody s_law) (defScope s_law) .none kVlaw dclaw pmlaw anlaw cdlaw ctlaw), sllaw⟩)
    (o_law : PySem.W.codeIn K cdlaw "law" = true)
    (k_law : PySem.W.keepIn K (.ref Alaw) = true)
    (aC_Picture : PySem.W.nsIn K mainGlobals "Picture" = some (some (.ref CPicture)))
    (pg_Picture : PySem.W.plainGet K CPicture Str.empty = true)
    (hd_Picture : PySem.W.hasDictIn K CPicture = true)
    (po_Picture : PySem.W.plainOver K CPicture = true)
    (sa_Picture : PySem.W.findIn K (.ref CPicture) "__setattr__" = some (some (.builtin "object.__setattr__")))
    (mk_Picture : PySem.W.makesIn K CPicture = true)
    (kc_Picture : PySem.W.keepIn K (.ref CPicture) = true)
    (na_Picture__cells : PySem.W.findIn K (.ref CPicture) "_cells" = some none)
    (gd_CONTRARIES : PySem.W.nsIn K mainGlobals "CONTRARIES" = some (some (.ref DCONTRARIES)))
    (ld_CONTRARIES : K.lookup DCONTRARIES = some ⟨.type "dict", none, .dict esCONTRARIES enCONTRARIES, #[]⟩)
    (lk_CONTRARIES : PySem.W.KeysLit w.params esCONTRARIES.toList)
    (lv_CONTRARIES_1 : PySem.W.nsIn K DCONTRARIES "a" = some (some (.str "h" tCONTRARIES1)))
    (lv_CONTRARIES_0 : PySem.W.nsIn K DCONTRARIES "h" = some (some (.str "a" tCONTRARIES0)))
    (lo_CONTRARIES : (DCONTRARIES == sysModules) = false)
    (ic1_Picture : PySem.W.findIn K (.ref CPicture) "__class__" = some (some (.builtin "object.__class__")))
    (ic2_Picture : PySem.W.specialIn K (.builtin "object.__class__") "__get__" = some (some (.builtin "getset_descriptor.__get__")))
    (ic3_Picture : PySem.W.takesIn K (.builtin "object.__class__") = some true)
    (ic4_Picture : PySem.W.mroIn K CPicture (.type "object") = some true)
    (in1_Picture : PySem.W.isClsIn K CPicture = true)
    (in2_Picture : PySem.W.typeIn K (.ref CPicture) = some (.type "type"))
    (on1_Picture : PySem.W.findIn K (.ref CPicture) "__ne__" = some (some (.builtin "object.__ne__")))
    (on2_Picture : PySem.W.mroIn K CPicture (.type "object") = some true)
    (z_abs : PySem.W.nsIn K mainGlobals "abs" = some none)
    (z_all : PySem.W.nsIn K mainGlobals "all" = some none)
    (z_any : PySem.W.nsIn K mainGlobals "any" = some none)
    (z_bool : PySem.W.nsIn K mainGlobals "bool" = some none)
    (z_divmod : PySem.W.nsIn K mainGlobals "divmod" = some none)
    (z_enumerate : PySem.W.nsIn K mainGlobals "enumerate" = some none)
    (z_int : PySem.W.nsIn K mainGlobals "int" = some none)
    (z_isinstance : PySem.W.nsIn K mainGlobals "isinstance" = some none)
    (z_len : PySem.W.nsIn K mainGlobals "len" = some none)
    (z_list : PySem.W.nsIn K mainGlobals "list" = some none)
    (z_max : PySem.W.nsIn K mainGlobals "max" = some none)
    (z_min : PySem.W.nsIn K mainGlobals "min" = some none)
    (z_range : PySem.W.nsIn K mainGlobals "range" = some none)
    (z_repr : PySem.W.nsIn K mainGlobals "repr" = some none)
    (z_sorted : PySem.W.nsIn K mainGlobals "sorted" = some none)
    (z_str : PySem.W.nsIn K mainGlobals "str" = some none)
    (z_tuple : PySem.W.nsIn K mainGlobals "tuple" = some none)
    (c_MOST_AHEAD : PySem.W.nsIn K mainGlobals "MOST_AHEAD" = some (some (.int 5 tMOST_AHEAD)))
    (c_MOST_CELLS : PySem.W.nsIn K mainGlobals "MOST_CELLS" = some (some (.int 5 tMOST_CELLS)))
    (c_MOST_LATER : PySem.W.nsIn K mainGlobals "MOST_LATER" = some (some (.int 3 tMOST_LATER))) :
    ∃ fd : FuncData, (∀ (s : Shared) (v : Value), BindsTo s fd ⟨[v], []⟩ [("_law_script", v)]) ∧ ∀ base : Heap, K.In base → base.Ns mainGlobals mg → FnG l.prog w K mg base 9 fa fd ["_law_script"] (sp_law K) := by
  have e := hfa.symm.trans (PySem.W.mg_of X G a_law)
  cases e
  have T : Txt w K mg ⟨Adraw, (PySem.W.fnOf "_law_draw" "_law_draw" (defArgs s_draw) (defBody s_draw) (defScope s_draw) .none kVdraw dcdraw pmdraw andraw cddraw ctdraw), Asome_cells, (PySem.W.fnOf "_law_some_cells" "_law_some_cells" (defArgs s_some_cells) (defBody s_some_cells) (defScope s_some_cells) .none kVsome_cells dcsome_cells pmsome_cells ansome_cells cdsome_cells ctsome_cells), Ais_list, (PySem.W.fnOf "is_list" "is_list" (defArgs s_is_list) (defBody s_is_list) (defScope s_is_list) .none kVis_list dcis_list pmis_list anis_list cdis_list ctis_list), Ais_integer, (PySem.W.fnOf "is_integer" "is_integer" (defArgs s_is_integer) (defBody s_is_integer) (defScope s_is_integer) .none kVis_integer dcis_integer pmis_integer anis_integer cdis_integer ctis_integer), Ais_count, (PySem.W.fnOf "is_count" "is_count" (defArgs s_is_count) (defBody s_is_count) (defScope s_is_count) .none kVis_count dcis_count pmis_count anis_count cdis_count ctis_count), Ais_mark, (PySem.W.fnOf "is_mark" "is_mark" (defArgs s_is_mark) (defBody s_is_mark) (defScope s_is_mark) .none kVis_mark dcis_mark pmis_mark anis_mark cdis_mark ctis_mark), Ais_cell, (PySem.W.fnOf "_is_cell" "_is_cell" (defArgs s_is_cell) (defBody s_is_cell) (defScope s_is_cell) .none kVis_cell dcis_cell pmis_cell anis_cell cdis_cell ctis_cell), Acheck_cells, (PySem.W.fnOf "_check_cells" "_check_cells" (defArgs s_check_cells) (defBody s_check_cells) (defScope s_check_cells) .none kVcheck_cells dccheck_cells pmcheck_cells ancheck_cells cdcheck_cells ctcheck_cells), APicture_init, (PySem.W.fnOf "__init__" "Picture.__init__" (defArgs s_Picture_init) (defBody s_Picture_init) (defScope s_Picture_init) .none kVPicture_init dcPicture_init pmPicture_init anPicture_init cdPicture_init ctPicture_init), Aother, (PySem.W.fnOf "_law_other" "_law_other" (defArgs s_other) (defBody s_other) (defScope s_other) .none kVother dcother pmother another cdother ctother), Abent, (PySem.W.fnOf "_law_bent" "_law_bent" (defArgs s_bent) (defBody s_bent) (defScope s_bent) .none kVbent dcbent pmbent anbent cdbent ctbent), Aorder, (PySem.W.fnOf "_law_order" "_law_order" (defArgs s_order) (defBody s_order) (defScope s_order) .none kVorder dcorder pmorder anorder cdorder ctorder), APicture_cells, (PySem.W.fnOf "cells" "Picture.cells" (defArgs s_Picture_cells) (defBody s_Picture_cells) (defScope s_Picture_cells) .none kVPicture_cells dcPicture_cells pmPicture_cells anPicture_cells cdPicture_cells ctPicture_cells), APicture_span, (PySem.W.fnOf "span" "Picture.span" (defArgs s_Picture_span) (defBody s_Picture_span) (defScope s_Picture_span) .none kVPicture_span dcPicture_span pmPicture_span anPicture_span cdPicture_span ctPicture_span), APicture_str, (PySem.W.fnOf "__str__" "Picture.__str__" (defArgs s_Picture_str) (defBody s_Picture_str) (defScope s_Picture_str) .none kVPicture_str dcPicture_str pmPicture_str anPicture_str cdPicture_str ctPicture_str), APicture_repr, (PySem.W.fnOf "__repr__" "Picture.__repr__" (defArgs s_Picture_repr) (defBody s_Picture_repr) (defScope s_Picture_repr) .none kVPicture_repr dcPicture_repr pmPicture_repr anPicture_repr cdPicture_repr ctPicture_repr), Atold_right, (PySem.W.fnOf "_law_told_right" "_law_told_right" (defArgs s_told_right) (defBody s_told_right) (defScope s_told_right) .none kVtold_right dctold_right pmtold_right antold_right cdtold_right cttold_right), Acontrary_marks, (PySem.W.fnOf "contrary_marks" "contrary_marks" (defArgs s_contrary_marks) (defBody s_contrary_marks) (defScope s_contrary_marks) .none kVcontrary_marks dccontrary_marks pmcontrary_marks ancontrary_marks cdcontrary_marks ctcontrary_marks), APicture_contrary, (PySem.W.fnOf "contrary" "Picture.contrary" (defArgs s_Picture_contrary) (defBody s_Picture_contrary) (defScope s_Picture_contrary) .none kVPicture_contrary dcPicture_contrary pmPicture_contrary anPicture_contrary cdPicture_contrary ctPicture_contrary), APicture_eq, (PySem.W.fnOf "__eq__" "Picture.__eq__" (defArgs s_Picture_eq) (defBody s_Picture_eq) (defScope s_Picture_eq) .none kVPicture_eq dcPicture_eq pmPicture_eq anPicture_eq cdPicture_eq ctPicture_eq), Aright, (PySem.W.fnOf "_law_right" "_law_right" (defArgs s_right) (defBody s_right) (defScope s_right) .none kVright dcright pmright anright cdright ctright), Apot, (PySem.W.fnOf "_law_pot" "_law_pot" (defArgs s_pot) (defBody s_pot) (defScope s_pot) .none kVpot dcpot pmpot anpot cdpot ctpot), fa, (PySem.W.fnOf "law" "law" (defArgs s_law) (defBody s_law) (defScope s_law) .none kVlaw dclaw pmlaw anlaw cdlaw ctlaw), CPicture, PPicture_cells, PPicture_span, DCONTRARIES⟩ := ⟨fun_mk (st := s_draw) l_draw o_draw k_draw, (fun_mk (st := s_draw) l_draw o_draw k_draw).binds (ps := ["_law_pot_here", "_law_many"]) fun _ _ _ _ _ _ us hl => match us, hl with | [_, _], _ => rfl, PySem.W.mg_of X G a_draw, fun_mk (st := s_some_cells) l_some_cells o_some_cells k_some_cells, (fun_mk (st := s_some_cells) l_some_cells o_some_cells k_some_cells).binds (ps := ["_law_pot_here"]) fun _ _ _ _ _ _ us hl => match us, hl with | [_], _ => rfl, PySem.W.mg_of X G a_some_cells, fun_mk (st := s_is_list) l_is_list o_is_list k_is_list, (fun_mk (st := s_is_list) l_is_list o_is_list k_is_list).binds (ps := ["value"]) fun _ _ _ _ _ _ us hl => match us, hl with | [_], _ => rfl, PySem.W.mg_of X G a_is_list, fun_mk (st := s_is_integer) l_is_integer o_is_integer k_is_integer, (fun_mk (st := s_is_integer) l_is_integer o_is_integer k_is_integer).binds (ps := ["value"]) fun _ _ _ _ _ _ us hl => match us, hl with | [_], _ => rfl, PySem.W.mg_of X G a_is_integer, fun_mk (st := s_is_count) l_is_count o_is_count k_is_count, (fun_mk (st := s_is_count) l_is_count o_is_count k_is_count).binds (ps := ["value"]) fun _ _ _ _ _ _ us hl => match us, hl with | [_], _ => rfl, PySem.W.mg_of X G a_is_count, fun_mk (st := s_is_mark) l_is_mark o_is_mark k_is_mark, (fun_mk (st := s_is_mark) l_is_mark o_is_mark k_is_mark).binds (ps := ["value"]) fun _ _ _ _ _ _ us hl => match us, hl with | [_], _ => rfl, PySem.W.mg_of X G a_is_mark, fun_mk (st := s_is_cell) l_is_cell o_is_cell k_is_cell, (fun_mk (st := s_is_cell) l_is_cell o_is_cell k_is_cell).binds (ps := ["value"]) fun _ _ _ _ _ _ us hl => match us, hl with | [_], _ => rfl, PySem.W.mg_of X G a_is_cell, fun_mk (st := s_check_cells) l_check_cells o_check_cells k_check_cells, (fun_mk (st := s_check_cells) l_check_cells o_check_cells k_check_cells).binds (ps := ["cells"]) fun _ _ _ _ _ _ us hl => match us, hl with | [_], _ => rfl, PySem.W.mg_of X G a_check_cells, fun_mk (st := s_Picture_init) l_Picture_init o_Picture_init k_Picture_init, (fun_mk (st := s_Picture_init) l_Picture_init o_Picture_init k_Picture_init).binds (ps := ["self", "cells"]) fun _ _ _ _ _ _ us hl => match us, hl with | [_, _], _ => rfl, fun_mk (st := s_other) l_other o_other k_other, (fun_mk (st := s_other) l_other o_other k_other).binds (ps := ["_law_mark"]) fun _ _ _ _ _ _ us hl => match us, hl with | [_], _ => rfl, PySem.W.mg_of X G a_other, fun_mk (st := s_bent) l_bent o_bent k_bent, (fun_mk (st := s_bent) l_bent o_bent k_bent).binds (ps := ["_law_pot_here", "_law_some"]) fun _ _ _ _ _ _ us hl => match us, hl with | [_, _], _ => rfl, PySem.W.mg_of X G a_bent, fun_mk (st := s_order) l_order o_order k_order, (fun_mk (st := s_order) l_order o_order k_order).binds (ps := ["_law_some"]) fun _ _ _ _ _ _ us hl => match us, hl with | [_], _ => rfl, PySem.W.mg_of X G a_order, fun_mk (st := s_Picture_cells) l_Picture_cells o_Picture_cells k_Picture_cells, (fun_mk (st := s_Picture_cells) l_Picture_cells o_Picture_cells k_Picture_cells).binds (ps := ["self"]) fun _ _ _ _ _ _ us hl => match us, hl with | [_], _ => rfl, ⟨pa_Picture_cells, pg_Picture_cells, pt_Picture_cells, ⟨_, pr_Picture_cells⟩⟩, fun_mk (st := s_Picture_span) l_Picture_span o_Picture_span k_Picture_span, (fun_mk (st := s_Picture_span) l_Picture_span o_Picture_span k_Picture_span).binds (ps := ["self"]) fun _ _ _ _ _ _ us hl => match us, hl with | [_], _ => rfl, ⟨pa_Picture_span, pg_Picture_span, pt_Picture_span, ⟨_, pr_Picture_span⟩⟩, fun_mk (st := s_Picture_str) l_Picture_str o_Picture_str k_Picture_str, (fun_mk (st := s_Picture_str) l_Picture_str o_Picture_str k_Picture_str).binds (ps := ["self"]) fun _ _ _ _ _ _ us hl => match us, hl with | [_], _ => rfl, ⟨a_Picture_str, i_Picture_str, k_Picture_str⟩, fun_mk (st := s_Picture_repr) l_Picture_repr o_Picture_repr k_Picture_repr, (fun_mk (st := s_Picture_repr) l_Picture_repr o_Picture_repr k_Picture_repr).binds (ps := ["self"]) fun _ _ _ _ _ _ us hl => match us, hl with | [_], _ => rfl, ⟨a_Picture_repr, i_Picture_repr, k_Picture_repr⟩, fun_mk (st := s_told_right) l_told_right o_told_right k_told_right, (fun_mk (st := s_told_right) l_told_right o_told_right k_told_right).binds (ps := ["_law_shape", "_law_some"]) fun _ _ _ _ _ _ us hl => match us, hl with | [_, _], _ => rfl, PySem.W.mg_of X G a_told_right, fun_mk (st := s_contrary_marks) l_contrary_marks o_contrary_marks k_contrary_marks, (fun_mk (st := s_contrary_marks) l_contrary_marks o_contrary_marks k_contrary_marks).binds (ps := ["marks"]) fun _ _ _ _ _ _ us hl => match us, hl with | [_], _ => rfl, PySem.W.mg_of X G a_contrary_marks, fun_mk (st := s_Picture_contrary) l_Picture_contrary o_Picture_contrary k_Picture_contrary, (fun_mk (st := s_Picture_contrary) l_Picture_contrary o_Picture_contrary k_Picture_contrary).binds (ps := ["self"]) fun _ _ _ _ _ _ us hl => match us, hl with | [_], _ => rfl, ⟨a_Picture_contrary, i_Picture_contrary, k_Picture_contrary⟩, fun_mk (st := s_Picture_eq) l_Picture_eq o_Picture_eq k_Picture_eq, (fun_mk (st := s_Picture_eq) l_Picture_eq o_Picture_eq k_Picture_eq).binds (ps := ["self", "other"]) fun _ _ _ _ _ _ us hl => match us, hl with | [_, _], _ => rfl, ⟨a_Picture_eq, i_Picture_eq, k_Picture_eq⟩, fun_mk (st := s_right) l_right o_right k_right, (fun_mk (st := s_right) l_right o_right k_right).binds (ps := ["_law_pot_here"]) fun _ _ _ _ _ _ us hl => match us, hl with | [_], _ => rfl, PySem.W.mg_of X G a_right, fun_mk (st := s_pot) l_pot o_pot k_pot, (fun_mk (st := s_pot) l_pot o_pot k_pot).binds (ps := ["_law_script", "_law_k"]) fun _ _ _ _ _ _ us hl => match us, hl with | [_, _], _ => rfl, PySem.W.mg_of X G a_pot, fun_mk (st := s_law) l_law o_law k_law, (fun_mk (st := s_law) l_law o_law k_law).binds (ps := ["_law_script"]) fun _ _ _ _ _ _ us hl => match us, hl with | [_], _ => rfl, PySem.W.mg_of X G a_law, ⟨pg_Picture, hd_Picture, po_Picture, sa_Picture⟩, PySem.W.mg_of X G aC_Picture, ⟨mk_Picture, a_Picture_init, i_Picture_init, kc_Picture⟩, na_Picture__cells, PySem.W.mg_of X G gd_CONTRARIES, (kd_cons ⟨_, _, _, ld_CONTRARIES, lk_CONTRARIES, lv_CONTRARIES_0, ⟨_, rfl⟩⟩ (kd_cons ⟨_, _, _, ld_CONTRARIES, lk_CONTRARIES, lv_CONTRARIES_1, ⟨_, rfl⟩⟩ kd_nil)), lo_CONTRARIES, ⟨⟨pg_Picture, hd_Picture, po_Picture, sa_Picture⟩, ic1_Picture, ic2_Picture, ic3_Picture, ic4_Picture⟩, ⟨in1_Picture, in2_Picture⟩, ⟨a_Picture_repr, i_Picture_repr⟩, ⟨a_Picture_str, i_Picture_str⟩, ⟨on1_Picture, on2_Picture⟩, ⟨a_Picture_eq, i_Picture_eq⟩, PySem.W.mg_none_of X G z_abs, PySem.W.mg_none_of X G z_all, PySem.W.mg_none_of X G z_any, PySem.W.mg_none_of X G z_bool, PySem.W.mg_none_of X G z_divmod, PySem.W.mg_none_of X G z_enumerate, PySem.W.mg_none_of X G z_int, PySem.W.mg_none_of X G z_isinstance, PySem.W.mg_none_of X G z_len, PySem.W.mg_none_of X G z_list, PySem.W.mg_none_of X G z_max, PySem.W.mg_none_of X G z_min, PySem.W.mg_none_of X G z_range, PySem.W.mg_none_of X G z_repr, PySem.W.mg_none_of X G z_sorted, PySem.W.mg_none_of X G z_str, PySem.W.mg_none_of X G z_tuple, ⟨_, PySem.W.mg_of X G c_MOST_AHEAD, ⟨_, rfl⟩⟩, ⟨_, PySem.W.mg_of X G c_MOST_CELLS, ⟨_, rfl⟩⟩, ⟨_, PySem.W.mg_of X G c_MOST_LATER, ⟨_, rfl⟩⟩, ⟨fun s us ws _ h1 h2 => match us, ws, h1, h2 with | [_], [_], _, _ => .of_eq rfl, fun r1 r2 => r1.append (.cons (vals_getD r2 0) (.nil))⟩⟩
  exact ⟨_, fun s v => .of_eq rfl, fun base _ _ => ok_law T⟩
end Lw
open PySem PySem.W PyProof.Rows in
set_option maxRecDepth 100000 in
set_option maxHeartbeats 0 in
theorem PySem.Challenge.cw_ringrows_k51_pictures_told_holds : PySem.Challenge.rw_ringrows_k51_pictures_told.Holds := by
  w_on; o_law; k_head; (case hw => w_witness2)
  k_fill
  refine Rx.walk_ofG (l := PySem.Challenge.rw_ringrows_k51_pictures_told) (n := 63) (k := 9) (x := "_law_script") (sp := fun w => Lw.sp_law _) rfl (by decide) rfl ⟨rfl, by decide, by decide⟩ (fun w h Y => PySem.W.kIn_of Y) ?F (fun w H a ns hl hO hS => Lw.law_enter hl hO hS)
  case F =>
    intro w mg fa h KX G hmg
    refine' Lw.all_mk KX G hmg ?a_draw ?l_draw ?o_draw ?k_draw ?a_some_cells ?l_some_cells ?o_some_cells ?k_some_cells ?a_is_list ?l_is_list ?o_is_list ?k_is_list ?a_is_integer ?l_is_integer ?o_is_integer ?k_is_integer ?a_is_count ?l_is_count ?o_is_count ?k_is_count ?a_is_mark ?l_is_mark ?o_is_mark ?k_is_mark ?a_is_cell ?l_is_cell ?o_is_cell ?k_is_cell ?a_check_cells ?l_check_cells ?o_check_cells ?k_check_cells ?a_Picture_init ?i_Picture_init ?l_Picture_init ?o_Picture_init ?k_Picture_init ?a_other ?l_other ?o_other ?k_other ?a_bent ?l_bent ?o_bent ?k_bent ?a_order ?l_order ?o_order ?k_order ?pa_Picture_cells ?pg_Picture_cells ?pt_Picture_cells ?pr_Picture_cells ?l_Picture_cells ?o_Picture_cells ?k_Picture_cells ?pa_Picture_span ?pg_Picture_span ?pt_Picture_span ?pr_Picture_span ?l_Picture_span ?o_Picture_span ?k_Picture_span ?a_Picture_str ?i_Picture_str ?l_Picture_str ?o_Picture_str ?k_Picture_str ?a_Picture_repr ?i_Picture_repr ?l_Picture_repr ?o_Picture_repr ?k_Picture_repr ?a_told_right ?l_told_right ?o_told_right ?k_told_right ?a_contrary_marks ?l_contrary_marks ?o_contrary_marks ?k_contrary_marks ?a_Picture_contrary ?i_Picture_contrary ?l_Picture_contrary ?o_Picture_contrary ?k_Picture_contrary ?a_Picture_eq ?i_Picture_eq ?l_Picture_eq ?o_Picture_eq ?k_Picture_eq ?a_right ?l_right ?o_right ?k_right ?a_pot ?l_pot ?o_pot ?k_pot ?a_law ?l_law ?o_law ?k_law ?aC_Picture ?pg_Picture ?hd_Picture ?po_Picture ?sa_Picture ?mk_Picture ?kc_Picture ?na_Picture__cells ?gd_CONTRARIES ?ld_CONTRARIES ?lk_CONTRARIES ?lv_CONTRARIES_1 ?lv_CONTRARIES_0 ?lo_CONTRARIES ?ic1_Picture ?ic2_Picture ?ic3_Picture ?ic4_Picture ?in1_Picture ?in2_Picture ?on1_Picture ?on2_Picture ?z_abs ?z_all ?z_any ?z_bool ?z_divmod ?z_enumerate ?z_int ?z_isinstance ?z_len ?z_list ?z_max ?z_min ?z_range ?z_repr ?z_sorted ?z_str ?z_tuple ?c_MOST_AHEAD ?c_MOST_CELLS ?c_MOST_LATER
    (case aC_Picture => k_is); (case gd_CONTRARIES => k_is); (case ld_CONTRARIES => k_is); (case a_draw => k_is); (case l_draw => k_is); (case o_draw => k_is); (case k_draw => k_is); (case a_some_cells => k_is); (case l_some_cells => k_is); (case o_some_cells => k_is); (case k_some_cells => k_is); (case a_is_list => k_is); (case l_is_list => k_is); (case o_is_list => k_is); (case k_is_list => k_is); (case a_is_integer => k_is); (case l_is_integer => k_is); (case o_is_integer => k_is); (case k_is_integer => k_is); (case a_is_count => k_is); (case l_is_count => k_is); (case o_is_count => k_is); (case k_is_count => k_is); (case a_is_mark => k_is); (case l_is_mark => k_is); (case o_is_mark => k_is); (case k_is_mark => k_is); (case a_is_cell => k_is); (case l_is_cell => k_is); (case o_is_cell => k_is); (case k_is_cell => k_is); (case a_check_cells => k_is); (case l_check_cells => k_is); (case o_check_cells => k_is); (case k_check_cells => k_is); (case a_Picture_init => k_is); (case i_Picture_init => k_is); (case l_Picture_init => k_is); (case o_Picture_init => k_is); (case k_Picture_init => k_is); (case a_other => k_is); (case l_other => k_is); (case o_other => k_is); (case k_other => k_is); (case a_bent => k_is); (case l_bent => k_is); (case o_bent => k_is); (case k_bent => k_is); (case a_order => k_is); (case l_order => k_is); (case o_order => k_is); (case k_order => k_is); (case pa_Picture_cells => k_is); (case pg_Picture_cells => k_is); (case pt_Picture_cells => k_is); (case pr_Picture_cells => k_is); (case l_Picture_cells => k_is); (case o_Picture_cells => k_is); (case k_Picture_cells => k_is); (case pa_Picture_span => k_is); (case pg_Picture_span => k_is); (case pt_Picture_span => k_is); (case pr_Picture_span => k_is); (case l_Picture_span => k_is); (case o_Picture_span => k_is); (case k_Picture_span => k_is); (case a_Picture_str => k_is); (case i_Picture_str => k_is); (case l_Picture_str => k_is); (case o_Picture_str => k_is); (case k_Picture_str => k_is); (case a_Picture_repr => k_is); (case i_Picture_repr => k_is); (case l_Picture_repr => k_is); (case o_Picture_repr => k_is); (case k_Picture_repr => k_is); (case a_told_right => k_is); (case l_told_right => k_is); (case o_told_right => k_is); (case k_told_right => k_is); (case a_contrary_marks => k_is); (case l_contrary_marks => k_is); (case o_contrary_marks => k_is); (case k_contrary_marks => k_is); (case a_Picture_contrary => k_is); (case i_Picture_contrary => k_is); (case l_Picture_contrary => k_is); (case o_Picture_contrary => k_is); (case k_Picture_contrary => k_is); (case a_Picture_eq => k_is); (case i_Picture_eq => k_is); (case l_Picture_eq => k_is); (case o_Picture_eq => k_is); (case k_Picture_eq => k_is); (case a_right => k_is); (case l_right => k_is); (case o_right => k_is); (case k_right => k_is); (case a_pot => k_is); (case l_pot => k_is); (case o_pot => k_is); (case k_pot => k_is); (case a_law => k_is); (case l_law => k_is); (case o_law => k_is); (case k_law => k_is); (case pg_Picture => k_is); (case hd_Picture => k_is); (case po_Picture => k_is); (case sa_Picture => k_is); (case mk_Picture => k_is); (case kc_Picture => k_is); (case na_Picture__cells => k_is); (case lk_CONTRARIES => k_keys); (case lv_CONTRARIES_1 => k_is); (case lv_CONTRARIES_0 => k_is); (case lo_CONTRARIES => decide); (case ic1_Picture => k_is); (case ic2_Picture => k_is); (case ic3_Picture => k_is); (case ic4_Picture => k_is); (case in1_Picture => k_is); (case in2_Picture => k_is); (case on1_Picture => k_is); (case on2_Picture => k_is); (case z_abs => k_is); (case z_all => k_is); (case z_any => k_is); (case z_bool => k_is); (case z_divmod => k_is); (case z_enumerate => k_is); (case z_int => k_is); (case z_isinstance => k_is); (case z_len => k_is); (case z_list => k_is); (case z_max => k_is); (case z_min => k_is); (case z_range => k_is); (case z_repr => k_is); (case z_sorted => k_is); (case z_str => k_is); (case z_tuple => k_is); (case c_MOST_AHEAD => k_is); (case c_MOST_CELLS => k_is); (case c_MOST_LATER => k_is)
