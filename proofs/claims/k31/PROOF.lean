import PyProof.Rows.All
import Wide.All
import OpenK.AllK
import Wide.FinOn
import HandS.ForMost
import HandS.Property
import HandS.IsInst
import HandS.Wide
import HandS.WideBits
import HandS.Defaults
import HandS.StrMore
import HandS.Style
import HandS.Codes
import HandS.OwnEq
import HandS.Conv
import HandS.SetFor
import HandS.WrittenGet
import PyProof.StrBlock2
import PyProof.LongRange
import PyProof.ReprRoads
import HandS.FStr
import HandS.MakeKwOnly
import HandS.ListItems
import HandS.Gcd
import HandS.Small
import HandS.NoneIn
import HandS.Walk
import PySem.Challenge.RW_ringrows_k31_whole_rounds_seated_by_look
set_option Elab.async false
set_option linter.all false
set_option maxRecDepth 100000
set_option maxHeartbeats 4000000
namespace Rx
open PySem PySem.Spec PyProof.Rows L2

inductive D where
  | v (x : V)
  | lst (xs : List D)
  | tup (xs : List D)
  | ins (C : Addr) (ns : List Str) (xs : List D)
  | dct (ks : List Key) (xs : List D)

mutual
def rep (ms : List Addr) (H : Hp) : D → V → Prop
  | .v x, u => u = x
  | .lst ds, u => ∃ p vs, u = .ref p ∧ p ∉ ms ∧ H p = some (.lst vs) ∧ repL ms H ds vs
  | .tup ds, u => ∃ p vs, u = .ref p ∧ p ∉ ms ∧ H p = some (.tup vs) ∧ repL ms H ds vs
  | .ins C ns ds, u => ∃ p dx vs, u = .ref p ∧ p ∉ ms ∧ H p = some (.ins C dx (ns.zip vs)) ∧ ns.length = vs.length ∧ repL ms H ds vs
  | .dct ks ds, u => ∃ p vs, u = .ref p ∧ p ∉ ms ∧ H p = some (.dK (ks.zip vs)) ∧ ks.length = vs.length ∧ repL ms H ds vs
def repL (ms : List Addr) (H : Hp) : List D → List V → Prop
  | [], vs => vs = []
  | d :: ds, vs => ∃ u us, vs = u :: us ∧ rep ms H d u ∧ repL ms H ds us
end

mutual
theorem rep_map {ms ms' : List Addr} {H H' : Hp} (f : ∀ p o, p ∉ ms → H p = some o → p ∉ ms' ∧ H' p = some o) : ∀ (d : D) (u : V), rep ms H d u → rep ms' H' d u
  | .v x, u, h => by
    simp only [rep] at h ⊢
    exact h
  | .lst ds, u, h => by
    simp only [rep] at h ⊢
    obtain ⟨p, vs, e, n, hp, hl⟩ := h
    exact ⟨p, vs, e, (f p _ n hp).1, (f p _ n hp).2, repL_map f ds vs hl⟩
  | .tup ds, u, h => by
    simp only [rep] at h ⊢
    obtain ⟨p, vs, e, n, hp, hl⟩ := h
    exact ⟨p, vs, e, (f p _ n hp).1, (f p _ n hp).2, repL_map f ds vs hl⟩
  | .ins C ns ds, u, h => by
    simp only [rep] at h ⊢
    obtain ⟨p, dx, vs, e, n, hp, hn, hl⟩ := h
    exact ⟨p, dx, vs, e, (f p _ n hp).1, (f p _ n hp).2, hn, repL_map f ds vs hl⟩
  | .dct ks ds, u, h => by
    simp only [rep] at h ⊢
    obtain ⟨p, vs, e, n, hp, hn, hl⟩ := h
    exact ⟨p, vs, e, (f p _ n hp).1, (f p _ n hp).2, hn, repL_map f ds vs hl⟩
theorem repL_map {ms ms' : List Addr} {H H' : Hp} (f : ∀ p o, p ∉ ms → H p = some o → p ∉ ms' ∧ H' p = some o) : ∀ (ds : List D) (us : List V), repL ms H ds us → repL ms' H' ds us
  | [], us, h => by
    simp only [repL] at h ⊢
    exact h
  | d :: ds, us, h => by
    simp only [repL] at h ⊢
    obtain ⟨u, vs, e, h1, h2⟩ := h
    exact ⟨u, vs, e, rep_map f d u h1, repL_map f ds vs h2⟩
end

theorem repL_len {ms : List Addr} {H : Hp} : ∀ {ds : List D} {vs : List V}, repL ms H ds vs → ds.length = vs.length
  | [], vs, h => by
    simp only [repL] at h
    rw [h]
    rfl
  | d :: ds, vs, h => by
    simp only [repL] at h
    obtain ⟨u, us, e, _, h2⟩ := h
    rw [e]
    show ds.length + 1 = us.length + 1
    rw [repL_len h2]
theorem repL_get {ms : List Addr} {H : Hp} : ∀ {ds : List D} {vs : List V} {j : Nat} {d : D}, repL ms H ds vs → ds[j]? = some d → ∃ v, vs[j]? = some v ∧ rep ms H d v
  | [], vs, j, d, h, e => by simp at e
  | d0 :: ds, vs, 0, d, h, e => by
    simp only [repL] at h
    obtain ⟨u, us, rfl, h1, _⟩ := h
    have e' : d0 = d := Option.some.inj e
    subst e'
    exact ⟨u, rfl, h1⟩
  | d0 :: ds, vs, j + 1, d, h, e => by
    simp only [repL] at h
    obtain ⟨u, us, rfl, _, h2⟩ := h
    exact repL_get (j := j) h2 (by simpa using e)
theorem repL_app {ms : List Addr} {H : Hp} : ∀ {ds es : List D} {vs us : List V}, repL ms H ds vs → repL ms H es us → repL ms H (ds ++ es) (vs ++ us)
  | [], es, vs, us, h, h' => by
    simp only [repL] at h
    rw [h]
    exact h'
  | d :: ds, es, vs, us, h, h' => by
    simp only [repL] at h
    obtain ⟨u, ws, rfl, h1, h2⟩ := h
    show repL ms H (d :: (ds ++ es)) (u :: (ws ++ us))
    simp only [repL]
    exact ⟨u, ws ++ us, rfl, h1, repL_app h2 h'⟩
theorem repL_one {ms : List Addr} {H : Hp} {d : D} {u : V} (h : rep ms H d u) : repL ms H [d] [u] := by
  simp only [repL]
  exact ⟨u, [], rfl, h, rfl⟩
theorem repL_nil {ms : List Addr} {H : Hp} : repL ms H [] [] := by simp only [repL]
theorem repL_cons {ms : List Addr} {H : Hp} {d : D} {u : V} {ds : List D} {us : List V} (h : rep ms H d u) (t : repL ms H ds us) : repL ms H (d :: ds) (u :: us) := by
  simp only [repL]
  exact ⟨u, us, rfl, h, t⟩
theorem rep_v {ms : List Addr} {H : Hp} {x : V} : rep ms H (.v x) x := by simp only [rep]
theorem of_v {ms : List Addr} {H : Hp} {x u : V} (h : rep ms H (.v x) u) : u = x := by
  simp only [rep] at h
  exact h
/-- a list of flat values -/
theorem repL_flat {ms : List Addr} {H : Hp} : ∀ {xs vs : List V}, repL ms H (xs.map D.v) vs ↔ vs = xs
  | [], vs => by simp only [List.map_nil, repL]
  | x :: xs, vs => by
    simp only [List.map_cons, repL]
    constructor
    · rintro ⟨u, us, rfl, h1, h2⟩
      rw [of_v h1, repL_flat.mp h2]
    · rintro rfl
      exact ⟨x, xs, rfl, rep_v, repL_flat.mpr rfl⟩

/-! ### frames -/
def PotH (H : Hp) (a : Addr) : Prop := ∃ i j : Int, H a = some (.lst [.int i, .int j]) ∧ j.natAbs < 4294967296
structure Ret (ps : List Addr) (H H' : Hp) : Prop where
  kp : ∀ a o, a ∉ ps → H a = some o → H' a = some o
  pot : ∀ a ∈ ps, PotH H' a
  grow : ∀ a, H a ≠ none → H' a ≠ none
abbrev Ext (H H' : Hp) : Prop := Ret [] H H'
theorem Ret.rfl0 {H : Hp} : Ret [] H H := ⟨fun _ _ _ h => h, fun _ h => absurd h List.not_mem_nil, fun _ h => h⟩
theorem Ext.keep {H H' : Hp} (e : Ext H H') {a : Addr} {o : HO} (h : H a = some o) : H' a = some o := e.kp a o (by simp) h
theorem Ext.new {H : Hp} {p : Addr} {o : HO} (np : H p = none) : Ext H (upd H p o) := by
  refine ⟨fun a u _ h => ?_, fun _ h => absurd h List.not_mem_nil, fun a h => ?_⟩
  · rw [upd_ne (ne_of_none h np)]
    exact h
  · by_cases e : a = p
    · rw [e, upd_same]
      exact fun z => nomatch z
    · rw [upd_ne e]
      exact h
theorem newH {H : Hp} {o : HO} {Q : V → Hp → Prop} (h : ∀ p H', H p = none → Ext H H' → H' p = some o → Q (.ref p) H') : ∀ p, H p = none → Q (.ref p) (upd H p o) :=
  fun p np => h p _ np (Ext.new np) upd_same

structure Wd (ms ps : List Addr) (cs : List (Addr × List V)) (H0 H : Hp) : Prop where
  kp : ∀ a o, a ∉ ps → H0 a = some o → H a = some o
  grow : ∀ a, H0 a ≠ none → H a ≠ none
  tr : ∀ m ∈ ms, H m ≠ none
  pot : ∀ a ∈ ps, PotH H a
  pm : ∀ a ∈ ps, a ∈ ms
  cel : ∀ c ∈ cs, H c.1 = some (.lst c.2) ∧ c.1 ∈ ms ∧ c.1 ∉ ps ∧ H0 c.1 = none

section
variable {ms ps ps' : List Addr} {cs : List (Addr × List V)} {H0 H H' : Hp} {d : D} {u : V}
theorem Wd.ret (hs : ∀ a ∈ ps', a ∈ ps) (w : Wd ms ps cs H0 H) (e : Ret ps' H H') : Wd ms ps cs H0 H' where
  kp := fun a o n h => e.kp a o (fun z => n (hs a z)) (w.kp a o n h)
  grow := fun a h => e.grow a (w.grow a h)
  tr := fun m h => e.grow m (w.tr m h)
  pot := fun a h => by
    by_cases z : a ∈ ps'
    · exact e.pot a z
    · obtain ⟨i, j, h1, h2⟩ := w.pot a h
      exact ⟨i, j, e.kp a _ z h1, h2⟩
  pm := w.pm
  cel := fun c h => by
    obtain ⟨h1, h2, h3, h4⟩ := w.cel c h
    exact ⟨e.kp _ _ (fun z => h3 (hs _ z)) h1, h2, h3, h4⟩
theorem Wd.ret0 (w : Wd ms ps cs H0 H) (e : Ret [] H H') : Wd ms ps cs H0 H' := w.ret (fun _ h => absurd h List.not_mem_nil) e
theorem Wd.retP (w : Wd ms ps cs H0 H) (e : Ret ps H H') : Wd ms ps cs H0 H' := w.ret (fun _ h => h) e
theorem Wd.enter0 (w : Wd ms ps cs H0 H) : Wd ms [] [] H H := ⟨fun _ _ _ h => h, fun _ h => h, w.tr, fun _ h => absurd h List.not_mem_nil, fun _ h => absurd h List.not_mem_nil, fun _ h => absurd h List.not_mem_nil⟩
theorem Wd.enterP (w : Wd ms ps cs H0 H) : Wd ms ps [] H H := ⟨fun _ _ _ h => h, fun _ h => h, w.tr, w.pot, w.pm, fun _ h => absurd h List.not_mem_nil⟩
theorem Wd.out (w : Wd ms ps cs H0 H) : Ret ps H0 H := ⟨w.kp, w.pot, w.grow⟩
theorem rep_ret (w : Wd ms ps cs H0 H) (e : Ret ps H H') (h : rep ms H d u) : rep ms H' d u := rep_map (fun p o n hp => ⟨n, e.kp p o (fun z => n (w.pm p z)) hp⟩) d u h
theorem rep_ext (e : Ret [] H H') (h : rep ms H d u) : rep ms H' d u := rep_map (fun p o n hp => ⟨n, e.kp p o (by simp) hp⟩) d u h
theorem repL_ret {ds : List D} {us : List V} (w : Wd ms ps cs H0 H) (e : Ret ps H H') (h : repL ms H ds us) : repL ms H' ds us := repL_map (fun p o n hp => ⟨n, e.kp p o (fun z => n (w.pm p z)) hp⟩) ds us h
theorem repL_ext {ds : List D} {us : List V} (e : Ret [] H H') (h : repL ms H ds us) : repL ms H' ds us := repL_map (fun p o n hp => ⟨n, e.kp p o (by simp) hp⟩) ds us h
/-- a new cell -/
theorem Wd.cell {l : Addr} {xs : List V} (w : Wd ms ps cs H0 H) (nl : H l = none) : Wd (l :: ms) ps ((l, xs) :: cs) H0 (upd H l (.lst xs)) := by
  have e : Ext H (upd H l (.lst xs)) := Ext.new nl
  have w1 := w.ret0 e
  refine ⟨w1.kp, w1.grow, fun m h => ?_, w1.pot, fun a h => List.mem_cons_of_mem _ (w.pm a h), fun c h => ?_⟩
  · rcases List.mem_cons.mp h with rfl | h
    · rw [upd_same]
      exact fun z => nomatch z
    · exact w1.tr m h
  · rcases List.mem_cons.mp h with rfl | h
    · refine ⟨upd_same, List.mem_cons_self, fun z => ?_, ?_⟩
      · obtain ⟨i, j, h1, _⟩ := w.pot _ z
        rw [nl] at h1
        cases h1
      · show H0 l = none
        cases q : H0 l with
        | none => rfl
        | some o => exact absurd nl (w.grow l (by rw [q]; exact fun z => nomatch z))
    · obtain ⟨h1, h2, h3, h4⟩ := w1.cel c h
      exact ⟨h1, List.mem_cons_of_mem _ h2, h3, h4⟩
theorem rep_cell {l : Addr} {o : HO} (nl : H l = none) (h : rep ms H d u) : rep (l :: ms) (upd H l o) d u := by
  refine rep_map (fun p o n hp => ?_) d u h
  have ne : p ≠ l := ne_of_none hp nl
  refine ⟨fun z => ?_, by rw [upd_ne ne]; exact hp⟩
  rcases List.mem_cons.mp z with z | z
  · exact ne z
  · exact n z
/-- a cell's store -/
theorem Wd.put {l : Addr} {xs ys : List V} (w : Wd ms ps ((l, xs) :: cs) H0 H) (hn : ∀ c ∈ cs, c.1 ≠ l) : Wd ms ps ((l, ys) :: cs) H0 (upd H l (.lst ys)) := by
  obtain ⟨hl, lm, lp, l0⟩ := w.cel _ List.mem_cons_self
  refine ⟨fun a o n h => ?_, fun a h => ?_, fun m h => ?_, fun a h => ?_, w.pm, fun c h => ?_⟩
  · rw [upd_ne (ne_of_none h l0)]
    exact w.kp a o n h
  · by_cases e : a = l
    · rw [e, upd_same]
      exact fun z => nomatch z
    · rw [upd_ne e]
      exact w.grow a h
  · by_cases e : m = l
    · rw [e, upd_same]
      exact fun z => nomatch z
    · rw [upd_ne e]
      exact w.tr m h
  · obtain ⟨i, j, h1, h2⟩ := w.pot a h
    exact ⟨i, j, by rw [upd_ne (fun z => lp (by rw [← z]; exact h))]; exact h1, h2⟩
  · rcases List.mem_cons.mp h with rfl | h
    · exact ⟨upd_same, lm, lp, l0⟩
    · obtain ⟨h1, h2, h3, h4⟩ := w.cel c (List.mem_cons_of_mem _ h)
      exact ⟨by rw [upd_ne (hn c h)]; exact h1, h2, h3, h4⟩
theorem rep_put {l : Addr} {o : HO} (lm : l ∈ ms) (h : rep ms H d u) : rep ms (upd H l o) d u :=
  rep_map (fun p o n hp => ⟨n, by rw [upd_ne (fun z => n (by rw [z]; exact lm))]; exact hp⟩) d u h
theorem repL_put {ds : List D} {us : List V} {l : Addr} {o : HO} (lm : l ∈ ms) (h : repL ms H ds us) : repL ms (upd H l o) ds us :=
  repL_map (fun p o n hp => ⟨n, by rw [upd_ne (fun z => n (by rw [z]; exact lm))]; exact hp⟩) ds us h
/-- the newest cell is a list for good -/
theorem Wd.froze {l : Addr} {xs : List V} (w : Wd (l :: ms) ps ((l, xs) :: cs) H0 H) (hp : ∀ a ∈ ps, a ∈ ms) (hc : ∀ c ∈ cs, c.1 ∈ ms) : Wd ms ps cs H0 H :=
  ⟨w.kp, w.grow, fun m h => w.tr m (List.mem_cons_of_mem _ h), w.pot, hp, fun c h => by
    obtain ⟨h1, _, h3, h4⟩ := w.cel c (List.mem_cons_of_mem _ h)
    exact ⟨h1, hc c h, h3, h4⟩⟩
theorem rep_weak {l : Addr} (h : rep (l :: ms) H d u) : rep ms H d u := rep_map (fun p o n hp => ⟨fun z => n (List.mem_cons_of_mem _ z), hp⟩) d u h
theorem repL_weak {ds : List D} {us : List V} {l : Addr} (h : repL (l :: ms) H ds us) : repL ms H ds us := repL_map (fun p o n hp => ⟨fun z => n (List.mem_cons_of_mem _ z), hp⟩) ds us h
end

/-! ### a reading may be weakened at its end: the places where ways are joined -/
def upE (t : TE) : TE := fun σ H Q => ∃ Q' : VK, t σ H Q' ∧ ∀ v H', Q' v H' → Q v H'
def upT (t : TT) : TT := fun σ H Q => ∃ Q' : Bool → Hp → Prop, t σ H Q' ∧ ∀ b H', Q' b H' → Q b H'
def upS (t : TS) : TS := fun D σ H => ∃ N : L2.St → Hp → Prop, t { D with nx := N } σ H ∧ ∀ σ' H', N σ' H' → D.nx σ' H'
section
variable {X : Cx}
theorem pe_up {e : Expr} {t : TE} (h : PE X e t) : PE X e (upE t) := ⟨fun pins s σ H Q I ⟨Q', hq, m⟩ => thn (h.run pins s σ H Q' I hq) fun u s' ⟨v, H', I', r, q⟩ => ⟨v, H', I', r, m v H' q⟩⟩
theorem pt_up {e : Expr} {t : TT} (h : PT X e t) : PT X e (upT t) := ⟨fun pins s σ H Q I ⟨Q', hq, m⟩ => thn (h.run pins s σ H Q' I hq) fun u s' ⟨H', I', q⟩ => ⟨H', I', m u H' q⟩⟩
theorem ps_up {st : Stmt} {t : TS} (h : PS X st t) : PS X st (upS t) := ⟨fun pins s σ H D I ⟨N, hq, m⟩ => thn (h.run pins s σ H _ I hq) fun f s' q => by
  cases f with
  | next => obtain ⟨σ', H', I', n⟩ := q; exact ⟨σ', H', I', m _ _ n⟩
  | brk => exact q
  | cont => exact q
  | ret u => exact q⟩
end

/-! ### loops by data -/
def mapC {α β : Type} (body : α → (β → Prop) → Prop) : List α → List β → (List β → Prop) → Prop
  | [], acc, k => k acc
  | x :: xs, acc, k => body x fun y => mapC body xs (acc ++ [y]) k
def filC {α β : Type} (body : α → (Option β → Prop) → Prop) : List α → List β → (List β → Prop) → Prop
  | [], acc, k => k acc
  | x :: xs, acc, k => body x fun o => match o with
    | some y => filC body xs (acc ++ [y]) k
    | none => filC body xs acc k
def forC {α S : Type} (body : α → S → (S → Prop) → Prop) : List α → S → (S → Prop) → Prop
  | [], s, k => k s
  | x :: xs, s, k => body x s fun s' => forC body xs s' k
def whileC {S : Type} (body : S → (S → Prop) → (S → Prop) → Prop) : Nat → S → (S → Prop) → Prop
  | 0, _, _ => False
  | n + 1, s, k => body s (fun s' => whileC body n s' k) k
def rangeI (lo hi : Int) : List Int := (List.range (hi - lo).toNat).map fun i => lo + ((i : Nat) : Int)
theorem rangeI_len {lo hi : Int} : (rangeI lo hi).length = (hi - lo).toNat := by simp [rangeI]
theorem rangeI_get {lo hi : Int} {i : Nat} (h : i < (hi - lo).toNat) : (rangeI lo hi)[i]? = some (lo + (i : Int)) := by
  simp [rangeI, List.getElem?_map, List.getElem?_range h]
theorem drop_cons' {α : Type} {xs : List α} {i : Nat} {x : α} (h : xs[i]? = some x) : xs.drop i = x :: xs.drop (i + 1) := by
  obtain ⟨h1, h2⟩ := List.getElem?_eq_some_iff.mp h
  rw [List.drop_eq_getElem_cons h1, h2]

/-- what a loop keeps of all that it does not change -/
def Keep (ms : List Addr) (H H' : Hp) : Prop := ∀ a o, a ∉ ms → H a = some o → H' a = some o
section
variable {ms ps : List Addr} {cs : List (Addr × List V)} {H0 H H1 H' : Hp} {d : D} {u : V}
theorem Keep.refl : Keep ms H H := fun _ _ _ h => h
theorem keep_ret (w : Wd ms ps cs H0 H) (e : Ret ps H H') (k : Keep ms H1 H) : Keep ms H1 H' := fun a o n h => e.kp a o (fun z => n (w.pm a z)) (k a o n h)
theorem keep_ext (e : Ret [] H H') (k : Keep ms H1 H) : Keep ms H1 H' := fun a o n h => e.kp a o (by simp) (k a o n h)
theorem keep_cell {l : Addr} {o : HO} (nl : H l = none) (k : Keep ms H1 H) : Keep (l :: ms) H1 (upd H l o) := fun a u n h => by
  rw [upd_ne (fun z => n (by rw [z]; exact List.mem_cons_self))]
  exact k a u (fun z => n (List.mem_cons_of_mem _ z)) h
theorem keep_put {l : Addr} {o : HO} (lm : l ∈ ms) (k : Keep ms H1 H) : Keep ms H1 (upd H l o) := fun a u n h => by
  rw [upd_ne (fun z => n (by rw [z]; exact lm))]
  exact k a u n h
theorem rep_keep (k : Keep ms H H') (h : rep ms H d u) : rep ms H' d u := rep_map (fun p o n hp => ⟨n, k p o n hp⟩) d u h
theorem repL_keep {ds : List D} {us : List V} (k : Keep ms H H') (h : repL ms H ds us) : repL ms H' ds us := repL_map (fun p o n hp => ⟨n, k p o n hp⟩) ds us h
theorem at_keep {a : Addr} {o : HO} (k : Keep ms H H') (n : a ∉ ms) (h : H a = some o) : H' a = some o := k a o n h
end

theorem ite3 {c : Prop} [Decidable c] {A B P R : Prop} (h : if c then A else B) (h1 : A → P) (h2 : B → R) : if c then P else R := by
  by_cases q : c
  · rw [if_pos q] at h ⊢
    exact h1 h
  · rw [if_neg q] at h ⊢
    exact h2 h

section
variable {K : PySem.W.Frag} {ms ps : List Addr} {cs : List (Addr × List V)} {H0 H : Hp} {d : D} {u x : V}
/-! ### readings by data -/
theorem rep_fld {C : Addr} {ns : List Str} {ds : List D} {f : Str} {Q : VK} {j : Nat} (h : rep ms H (.ins C ns ds) x) (c : Cls K C) (n : NoAttr K C f) (nd : ns.Nodup) (hn : ns[j]? = some f) (hd : ds[j]? = some d) (k : ∀ v, rep ms H d v → Q v H) :
    ∃ a C dx fs v, x = .ref a ∧ H a = some (.ins C dx fs) ∧ Cls K C ∧ NoAttr K C f ∧ fs.lookup f = some v ∧ Q v H := by
  simp only [rep] at h
  obtain ⟨p, dx, vs, e, _, hp, hl, hr⟩ := h
  obtain ⟨v, hv, rv⟩ := repL_get hr hd
  refine ⟨p, C, dx, _, v, e, hp, c, n, ?_, k v rv⟩
  clear hr hd hp e k rv
  induction ns generalizing vs j with
  | nil => simp at hn
  | cons n0 ns ih =>
    cases vs with
    | nil => simp at hv
    | cons v0 vs =>
      cases j with
      | zero =>
        have e1 : n0 = f := Option.some.inj hn
        have e2 : v0 = v := Option.some.inj hv
        subst e1 e2
        simp [List.lookup]
      | succ j =>
        have hn' : ns[j]? = some f := by simpa using hn
        have hv' : vs[j]? = some v := by simpa using hv
        have ne : f ≠ n0 := fun z => by
          subst z
          exact (List.nodup_cons.mp nd).1 (List.mem_of_getElem? hn')
        show ((n0, v0) :: ns.zip vs).lookup f = some v
        rw [List.lookup_cons, show (f == n0) = false from beq_eq_false_iff_ne.mpr ne]
        exact ih (List.nodup_cons.mp nd).2 hn' vs (by simpa using hl) hv'
theorem lookup_zip_none {m : Str} : ∀ {ns : List Str} {vs : List V}, m ∉ ns → (ns.zip vs).lookup m = none
  | [], vs, _ => by simp
  | n :: ns, [], _ => by simp
  | n :: ns, v :: vs, h => by
    show ((n, v) :: ns.zip vs).lookup m = none
    rw [List.lookup_cons, show (m == n) = false from beq_eq_false_iff_ne.mpr fun z => h (by rw [z]; exact List.mem_cons_self)]
    exact lookup_zip_none fun z => h (List.mem_cons_of_mem _ z)
theorem rep_meth {C : Addr} {ns : List Str} {ds : List D} {m : Str} {P : Hp → Prop} (h : rep ms H (.ins C ns ds) x) (hm : m ∉ ns) (k : P H) : ∃ a dx fs, x = .ref a ∧ H a = some (.ins C dx fs) ∧ fs.lookup m = none ∧ P H := by
  simp only [rep] at h
  obtain ⟨p, dx, vs, e, _, hp, hl, hr⟩ := h
  exact ⟨p, dx, _, e, hp, lookup_zip_none hm, k⟩
theorem rep_prop {C : Addr} {ns : List Str} {ds : List D} {P : Addr → Prop} (h : rep ms H (.ins C ns ds) x) (k : ∀ a, rep ms H (.ins C ns ds) (.ref a) → P a) : ∃ a dx fs, x = .ref a ∧ H a = some (.ins C dx fs) ∧ P a := by
  have h' := h
  simp only [rep] at h
  obtain ⟨p, dx, vs, e, _, hp, hl, hr⟩ := h
  subst e
  exact ⟨p, dx, _, rfl, hp, k p h'⟩
/-- t[j], j written -/
theorem rep_ixT {ds : List D} {i : Int} (j : Nat) {σ : L2.St} {Q : VK} (h : rep ms H (.tup ds) x) (hi : i = (j : Int)) (hd : ds[j]? = some d) (k : ∀ v, rep ms H d v → Q v H) : tC (V.int i) σ H fun y H2 => rIxT K x y H2 Q := by
  subst hi
  simp only [rep] at h
  obtain ⟨p, vs, e, _, hp, hr⟩ := h
  obtain ⟨v, hv, rv⟩ := repL_get hr hd
  exact ⟨p, vs, _, v, e, rfl, .inl (.inl hp), atI_nat hv, k v rv⟩
/-- xs[i] -/
theorem rep_ixL {α : Type} {e : α → D} {xs : List α} {i : Int} {Q : VK} (h : rep ms H (.lst (xs.map e)) x) (h0 : 0 ≤ i) (hi : i.toNat < xs.length) (k : ∀ v, rep ms H (e (xs[i.toNat]'hi)) v → Q v H) : rIxL K x (.int i) H Q := by
  simp only [rep] at h
  obtain ⟨p, vs, e', _, hp, hr⟩ := h
  obtain ⟨v, hv, rv⟩ := repL_get (d := e (xs[i.toNat]'hi)) hr (by rw [List.getElem?_map, List.getElem?_eq_getElem hi]; rfl)
  refine ⟨p, vs, i, v, e', rfl, .inl (.inl hp), at_of (j := i.toNat) (by omega) hv, k v rv⟩
theorem rep_lenL {α : Type} {e : α → D} {xs : List α} {P : Nat → Prop} (h : rep ms H (.lst (xs.map e)) x) (k : P xs.length) : ∃ y n, [x] = [y] ∧ LenV K y H n ∧ P n := by
  simp only [rep] at h
  obtain ⟨p, vs, e', _, hp, hr⟩ := h
  subst e'
  have hl := repL_len hr
  rw [List.length_map] at hl
  exact ⟨_, xs.length, rfl, .inl ⟨vs, .inl (.inl hp), hl⟩, k⟩
theorem rep_iter {ds : List D} {P : Addr → Prop} (h : rep ms H (.lst ds) x) (k : ∀ a xs, x = .ref a → a ∉ ms → H a = some (.lst xs) → repL ms H ds xs → P a) : ∃ a, x = .ref a ∧ (∃ xs, SqL K H a xs) ∧ P a := by
  simp only [rep] at h
  obtain ⟨p, vs, e, n, hp, hr⟩ := h
  exact ⟨p, e, ⟨vs, .inl (.inl hp)⟩, k p vs e n hp hr⟩
theorem rep_gtup {ds : List D} {n : Nat} {Q : L2.St → Hp → Prop} {t : TGs} {σ : L2.St} (h : rep ms H (.tup ds) x) (hn : ds.length = n) (k : ∀ vs, repL ms H ds vs → t vs σ H Q) : ∃ a xs, x = .ref a ∧ SqT K H a xs ∧ xs.length = n ∧ t xs σ H Q := by
  simp only [rep] at h
  obtain ⟨p, vs, e, _, hp, hr⟩ := h
  exact ⟨p, vs, e, .inl (.inl hp), by rw [← repL_len hr]; exact hn, k vs hr⟩
theorem rep_tup_mk {p : Addr} {ds : List D} {vs : List V} (w : Wd ms ps cs H0 H) (np : H p = none) (e : Ext H H') (hp : H' p = some (.tup vs)) (hr : repL ms H ds vs) : rep ms H' (.tup ds) (.ref p) := by
  simp only [rep]
  exact ⟨p, vs, rfl, fun z => w.tr p z np, hp, repL_ext e hr⟩
theorem rep_lst_mk {p : Addr} {ds : List D} {vs : List V} (w : Wd ms ps cs H0 H) (np : H p = none) (e : Ext H H') (hp : H' p = some (.lst vs)) (hr : repL ms H ds vs) : rep ms H' (.lst ds) (.ref p) := by
  simp only [rep]
  exact ⟨p, vs, rfl, fun z => w.tr p z np, hp, repL_ext e hr⟩
end

/-! ### comprehensions -/
section
variable {α β : Type} {K : PySem.W.Frag} {ms ps : List Addr} {cs : List (Addr × List V)} {H0 H1 : Hp} {g : TG} {tt : TT} {te : TE} {vl : List Nat} {σ : L2.St} {Qd : Hp → Prop}
/-- where a turn begins: the new list at L holds what is made so far -/
structure Trn (ms ps : List Addr) (cs : List (Addr × List V)) (H0 H1 : Hp) (L : Addr) (eb : β → D) (n : Nat) (ys : List β) (vs : List V) (H : Hp) : Prop where
  w : Wd (L :: ms) ps ((L, vs) :: cs) H0 H
  k : Keep (L :: ms) H1 H
  r : repL (L :: ms) H (ys.map eb) vs
  n : ys.length ≤ n
theorem Trn.add {L : Addr} {eb : β → D} {n : Nat} {ys : List β} {vs : List V} {H : Hp} {y : β} {u : V} (hc : ∀ c ∈ cs, c.1 ≠ L) (w : Wd (L :: ms) ps ((L, vs) :: cs) H0 H) (k : Keep (L :: ms) H1 H) (r : repL (L :: ms) H (ys.map eb) vs) (hn : ys.length ≤ n) (hr : rep (L :: ms) H (eb y) u) :
    Trn ms ps cs H0 H1 L eb (n + 1) (ys ++ [y]) (vs ++ [u]) (upd H L (.lst (vs ++ [u]))) := by
  refine ⟨w.put hc, keep_put List.mem_cons_self k, ?_, by rw [List.length_append]; exact Nat.add_le_add_right hn 1⟩
  rw [List.map_append]
  exact repL_put List.mem_cons_self (repL_app r (repL_one hr))
theorem new_ne {L : Addr} (w : Wd ms ps cs H0 H1) (nl : H1 L = none) : ∀ c ∈ cs, c.1 ≠ L := fun c h z => by
  have q := (w.cel c h).1
  rw [z, nl] at q
  cases q
theorem Trn.start {L : Addr} {eb : β → D} (w : Wd ms ps cs H0 H1) (nl : H1 L = none) : Trn ms ps cs H0 H1 L eb 0 [] [] (upd H1 L (.lst [])) :=
  ⟨w.cell nl, fun a o n h => by rw [upd_ne (ne_of_none h nl)]; exact h, repL_nil, Nat.le_refl _⟩
theorem Trn.done {L : Addr} {eb : β → D} {n : Nat} {ys : List β} {vs : List V} {H : Hp} (w : Wd ms ps cs H0 H1) (nl : H1 L = none) (t : Trn ms ps cs H0 H1 L eb n ys vs H) : Wd ms ps cs H0 H ∧ Keep ms H1 H ∧ rep ms H (.lst (ys.map eb)) (.ref L) := by
  refine ⟨t.w.froze w.pm fun c h => (w.cel c h).2.1, fun a o n h => t.k a o (fun z => ?_) h, ?_⟩
  · rcases List.mem_cons.mp z with z | z
    · rw [z, nl] at h
      cases h
    · exact n z
  · simp only [rep]
    exact ⟨L, vs, rfl, fun z => w.tr L z nl, (t.w.cel _ List.mem_cons_self).1, repL_weak t.r⟩

/-- [e for x in range(lo, hi)] -/
theorem lc_rangeC {lo hi : Int} {N : Nat} {L : Addr} {eb : β → D} {body : Int → (β → Prop) → Prop} {KM : List β → Prop} (hN : N = (hi - lo).toNat) (w : Wd ms ps cs H0 H1) (nl : H1 L = none) (hM : (rangeI lo hi).length < 100000 ∧ mapC body (rangeI lo hi) [] KM)
    (hs : ∀ (x : Int) (n : Nat) (ys : List β) (vs : List V) (k : β → Prop) (H : Hp), n < 100000 → Trn ms ps cs H0 H1 L eb n ys vs H → body x k → ∀ Nx : Hp → Prop, (∀ y vs' H', k y → Trn ms ps cs H0 H1 L eb (n + 1) (ys ++ [y]) vs' H' → Nx H') →
      g (.int x) (wipe σ vl) H fun σ2 H2 => wipe σ2 vl = wipe σ vl ∧ tt σ2 H2 fun b H3 => if b = true then te σ2 H3 fun y H4 => ∃ acc, H4 L = some (.lst acc) ∧ acc.length < sizeLine ∧ Nx (upd H4 L (.lst (acc ++ [y]))) else Nx H3)
    (hd : ∀ ys H, KM ys → Wd ms ps cs H0 H → Keep ms H1 H → rep ms H (.lst (ys.map eb)) (.ref L) → Qd H) :
    ∃ W : Nat → Nat → Hp → Prop, (∃ m, W 0 m (upd H1 L (.lst []))) ∧ ∀ i m H, W i m H →
      ((Itr lo N).stop i H ∧ Qd H) ∨ ((Itr lo N).go i H ∧ ∃ Nx : Hp → Prop, (∀ H', Nx H' → ∃ m', m' < m ∧ W (i + 1) m' H') ∧ ∀ x H', (Itr lo N).yld i H x H' → g x (wipe σ vl) H' fun σ2 H2 => wipe σ2 vl = wipe σ vl ∧ tt σ2 H2 fun b H3 =>
        if b = true then te σ2 H3 fun y H4 => ∃ acc, H4 L = some (.lst acc) ∧ acc.length < sizeLine ∧ Nx (upd H4 L (.lst (acc ++ [y]))) else Nx H3) := by
  obtain ⟨hn, hM⟩ := hM
  subst hN
  rw [rangeI_len] at hn
  refine ⟨fun i m H => m = (hi - lo).toNat - i ∧ i ≤ (hi - lo).toNat ∧ ∃ ys vs, Trn ms ps cs H0 H1 L eb i ys vs H ∧ mapC body ((rangeI lo hi).drop i) ys KM, ⟨_, rfl, Nat.zero_le _, [], [], Trn.start w nl, hM⟩, ?_⟩
  rintro i m H ⟨rfl, hi', ys, vs, T, q⟩
  by_cases hlt : i < (hi - lo).toNat
  · refine .inr ⟨hlt, fun H' => i + 1 ≤ (hi - lo).toNat ∧ ∃ ys vs, Trn ms ps cs H0 H1 L eb (i + 1) ys vs H' ∧ mapC body ((rangeI lo hi).drop (i + 1)) ys KM, fun H' p' => ⟨_, by omega, rfl, p'⟩, fun x H' y => ?_⟩
    obtain ⟨e, y⟩ := y
    subst e y
    rw [drop_cons' (rangeI_get hlt)] at q
    exact hs _ i ys vs _ H' (by omega) T q _ fun y vs' H' k T' => ⟨hlt, _, _, T', k⟩
  · have e : i = (hi - lo).toNat := by omega
    refine .inl ⟨by rw [e]; exact Nat.le_refl _, ?_⟩
    have q' : KM ys := by
      rw [List.drop_of_length_le (by rw [rangeI_len]; omega)] at q
      exact q
    obtain ⟨w', k', r'⟩ := T.done w nl
    exact hd ys H q' w' k' r'
/-- [e for x in xs] -/
theorem lc_listC {items : List α} {a : Addr} {xs : List V} {L : Addr} {e : α → D} {eb : β → D} {body : α → (β → Prop) → Prop} {KM : List β → Prop} (w : Wd ms ps cs H0 H1) (an : a ∉ ms) (ha : H1 a = some (.lst xs)) (hx : repL ms H1 (items.map e) xs) (nl : H1 L = none) (hM : items.length < 100000 ∧ mapC body items [] KM)
    (hs : ∀ (x : α) (u : V) (n : Nat) (ys : List β) (vs : List V) (k : β → Prop) (H : Hp), n < 100000 → Trn ms ps cs H0 H1 L eb n ys vs H → rep (L :: ms) H (e x) u → body x k → ∀ Nx : Hp → Prop, (∀ y vs' H', k y → Trn ms ps cs H0 H1 L eb (n + 1) (ys ++ [y]) vs' H' → Nx H') →
      g u (wipe σ vl) H fun σ2 H2 => wipe σ2 vl = wipe σ vl ∧ tt σ2 H2 fun b H3 => if b = true then te σ2 H3 fun y H4 => ∃ acc, H4 L = some (.lst acc) ∧ acc.length < sizeLine ∧ Nx (upd H4 L (.lst (acc ++ [y]))) else Nx H3)
    (hd : ∀ ys H, KM ys → Wd ms ps cs H0 H → Keep ms H1 H → rep ms H (.lst (ys.map eb)) (.ref L) → Qd H) :
    ∃ W : Nat → Nat → Hp → Prop, (∃ m, W 0 m (upd H1 L (.lst []))) ∧ ∀ i m H, W i m H →
      ((Itl K a).stop i H ∧ Qd H) ∨ ((Itl K a).go i H ∧ ∃ Nx : Hp → Prop, (∀ H', Nx H' → ∃ m', m' < m ∧ W (i + 1) m' H') ∧ ∀ x H', (Itl K a).yld i H x H' → g x (wipe σ vl) H' fun σ2 H2 => wipe σ2 vl = wipe σ vl ∧ tt σ2 H2 fun b H3 =>
        if b = true then te σ2 H3 fun y H4 => ∃ acc, H4 L = some (.lst acc) ∧ acc.length < sizeLine ∧ Nx (upd H4 L (.lst (acc ++ [y]))) else Nx H3) := by
  obtain ⟨hn, hM⟩ := hM
  have hl : items.length = xs.length := by
    have := repL_len hx
    rwa [List.length_map] at this
  have aL : a ≠ L := ne_of_none ha nl
  have hx1 : repL (L :: ms) (upd H1 L (.lst [])) (items.map e) xs := repL_map (fun p o n hp => ⟨fun z => by
    rcases List.mem_cons.mp z with z | z
    · exact ne_of_none hp nl z
    · exact n z, by rw [upd_ne (ne_of_none hp nl)]; exact hp⟩) _ _ hx
  have aM : a ∉ L :: ms := fun z => by
    rcases List.mem_cons.mp z with z | z
    · exact aL z
    · exact an z
  refine ⟨fun i m H => m = xs.length - i ∧ i ≤ xs.length ∧ ∃ ys vs, Trn ms ps cs H0 H1 L eb i ys vs H ∧ Keep (L :: ms) (upd H1 L (.lst [])) H ∧ mapC body (items.drop i) ys KM, ⟨_, rfl, Nat.zero_le _, [], [], Trn.start w nl, Keep.refl, hM⟩, ?_⟩
  rintro i m H ⟨rfl, hi', ys, vs, T, kp, q⟩
  have hA : H a = some (.lst xs) := kp a _ aM (by rw [upd_ne aL]; exact ha)
  by_cases hlt : i < xs.length
  · refine .inr ⟨⟨xs, xs[i], .inl (.inl hA), by simp [hlt]⟩, fun H' => i + 1 ≤ xs.length ∧ ∃ ys vs, Trn ms ps cs H0 H1 L eb (i + 1) ys vs H' ∧ Keep (L :: ms) (upd H1 L (.lst [])) H' ∧ mapC body (items.drop (i + 1)) ys KM, fun H' p' => ⟨_, by omega, rfl, p'⟩, fun x H' y => ?_⟩
    obtain ⟨e1, y⟩ := y
    subst e1
    have hxi := y xs (.inl (.inl hA))
    have hit : items[i]? = some (items[i]'(by omega)) := List.getElem?_eq_getElem (by omega)
    rw [drop_cons' hit] at q
    obtain ⟨v, hv, rv⟩ := repL_get (repL_keep kp hx1) (j := i) (d := e (items[i]'(by omega))) (by rw [List.getElem?_map, hit]; rfl)
    rw [hxi] at hv
    have ev : x = v := Option.some.inj hv
    subst ev
    refine hs _ x i ys vs _ H' (by omega) T rv q _ fun y vs' H'' k T' => ⟨hlt, _, _, T', fun b o n hb => ?_, k⟩
    by_cases e3 : b = L
    · exact absurd (by rw [e3]; exact List.mem_cons_self) n
    · rw [upd_ne e3] at hb
      exact T'.k b o n hb
  · have e1 : i = xs.length := by omega
    refine .inl ⟨⟨xs, .inl (.inl hA), by omega⟩, ?_⟩
    have q' : KM ys := by
      rw [List.drop_of_length_le (by omega)] at q
      exact q
    obtain ⟨w', k', r'⟩ := T.done w nl
    exact hd ys H q' w' k' r'
end

/-! ### comprehensions with a test -/
section
variable {α β : Type} {K : PySem.W.Frag} {ms ps : List Addr} {cs : List (Addr × List V)} {H0 H1 : Hp} {g : TG} {tt : TT} {te : TE} {vl : List Nat} {σ : L2.St} {Qd : Hp → Prop}
theorem Trn.skip {L : Addr} {eb : β → D} {n : Nat} {ys : List β} {vs : List V} {H : Hp} (t : Trn ms ps cs H0 H1 L eb n ys vs H) : Trn ms ps cs H0 H1 L eb (n + 1) ys vs H := ⟨t.w, t.k, t.r, Nat.le_succ_of_le t.n⟩
theorem lf_listC {items : List α} {a : Addr} {xs : List V} {L : Addr} {e : α → D} {eb : β → D} {body : α → (Option β → Prop) → Prop} {KM : List β → Prop} (w : Wd ms ps cs H0 H1) (an : a ∉ ms) (ha : H1 a = some (.lst xs)) (hx : repL ms H1 (items.map e) xs) (nl : H1 L = none) (hM : items.length < 100000 ∧ filC body items [] KM)
    (hs : ∀ (x : α) (u : V) (n : Nat) (ys : List β) (vs : List V) (k : Option β → Prop) (H : Hp), n < 100000 → Trn ms ps cs H0 H1 L eb n ys vs H → rep (L :: ms) H (e x) u → body x k → ∀ Nx : Hp → Prop,
        (∀ y vs' H', k (some y) → Trn ms ps cs H0 H1 L eb (n + 1) (ys ++ [y]) vs' H' → Nx H') → (∀ vs' H', k none → Trn ms ps cs H0 H1 L eb (n + 1) ys vs' H' → Nx H') →
      g u (wipe σ vl) H fun σ2 H2 => wipe σ2 vl = wipe σ vl ∧ tt σ2 H2 fun b H3 => if b = true then te σ2 H3 fun y H4 => ∃ acc, H4 L = some (.lst acc) ∧ acc.length < sizeLine ∧ Nx (upd H4 L (.lst (acc ++ [y]))) else Nx H3)
    (hd : ∀ ys H, KM ys → Wd ms ps cs H0 H → Keep ms H1 H → rep ms H (.lst (ys.map eb)) (.ref L) → Qd H) :
    ∃ W : Nat → Nat → Hp → Prop, (∃ m, W 0 m (upd H1 L (.lst []))) ∧ ∀ i m H, W i m H →
      ((Itl K a).stop i H ∧ Qd H) ∨ ((Itl K a).go i H ∧ ∃ Nx : Hp → Prop, (∀ H', Nx H' → ∃ m', m' < m ∧ W (i + 1) m' H') ∧ ∀ x H', (Itl K a).yld i H x H' → g x (wipe σ vl) H' fun σ2 H2 => wipe σ2 vl = wipe σ vl ∧ tt σ2 H2 fun b H3 =>
        if b = true then te σ2 H3 fun y H4 => ∃ acc, H4 L = some (.lst acc) ∧ acc.length < sizeLine ∧ Nx (upd H4 L (.lst (acc ++ [y]))) else Nx H3) := by
  obtain ⟨hn, hM⟩ := hM
  have hl : items.length = xs.length := by
    have := repL_len hx
    rwa [List.length_map] at this
  have aL : a ≠ L := ne_of_none ha nl
  have hx1 : repL (L :: ms) (upd H1 L (.lst [])) (items.map e) xs := repL_map (fun p o n hp => ⟨fun z => by
    rcases List.mem_cons.mp z with z | z
    · exact ne_of_none hp nl z
    · exact n z, by rw [upd_ne (ne_of_none hp nl)]; exact hp⟩) _ _ hx
  have aM : a ∉ L :: ms := fun z => by
    rcases List.mem_cons.mp z with z | z
    · exact aL z
    · exact an z
  refine ⟨fun i m H => m = xs.length - i ∧ i ≤ xs.length ∧ ∃ ys vs, Trn ms ps cs H0 H1 L eb i ys vs H ∧ Keep (L :: ms) (upd H1 L (.lst [])) H ∧ filC body (items.drop i) ys KM, ⟨_, rfl, Nat.zero_le _, [], [], Trn.start w nl, Keep.refl, hM⟩, ?_⟩
  rintro i m H ⟨rfl, hi', ys, vs, T, kp, q⟩
  have hA : H a = some (.lst xs) := kp a _ aM (by rw [upd_ne aL]; exact ha)
  by_cases hlt : i < xs.length
  · refine .inr ⟨⟨xs, xs[i], .inl (.inl hA), by simp [hlt]⟩, fun H' => i + 1 ≤ xs.length ∧ ∃ ys vs, Trn ms ps cs H0 H1 L eb (i + 1) ys vs H' ∧ Keep (L :: ms) (upd H1 L (.lst [])) H' ∧ filC body (items.drop (i + 1)) ys KM, fun H' p' => ⟨_, by omega, rfl, p'⟩, fun x H' y => ?_⟩
    obtain ⟨e1, y⟩ := y
    subst e1
    have hxi := y xs (.inl (.inl hA))
    have hit : items[i]? = some (items[i]'(by omega)) := List.getElem?_eq_getElem (by omega)
    rw [drop_cons' hit] at q
    obtain ⟨v, hv, rv⟩ := repL_get (repL_keep kp hx1) (j := i) (d := e (items[i]'(by omega))) (by rw [List.getElem?_map, hit]; rfl)
    rw [hxi] at hv
    have ev : x = v := Option.some.inj hv
    subst ev
    have kk : ∀ {ys'} {vs'} {H''}, Trn ms ps cs H0 H1 L eb (i + 1) ys' vs' H'' → Keep (L :: ms) (upd H1 L (.lst [])) H'' := fun {ys' vs' H''} T' b o n hb => by
      by_cases e3 : b = L
      · exact absurd (by rw [e3]; exact List.mem_cons_self) n
      · rw [upd_ne e3] at hb
        exact T'.k b o n hb
    exact hs _ x i ys vs _ H' (by omega) T rv q _ (fun y vs' H'' k T' => ⟨hlt, _, _, T', kk T', k⟩) (fun vs' H'' k T' => ⟨hlt, _, _, T', kk T', k⟩)
  · have e1 : i = xs.length := by omega
    refine .inl ⟨⟨xs, .inl (.inl hA), by omega⟩, ?_⟩
    have q' : KM ys := by
      rw [List.drop_of_length_le (by omega)] at q
      exact q
    obtain ⟨w', k', r'⟩ := T.done w nl
    exact hd ys H q' w' k' r'
/-- an element's end -/
theorem lc_end {L : Addr} {eb : β → D} {n : Nat} {ys : List β} {vs : List V} {H : Hp} {y : β} {u : V} {Nx : Hp → Prop} (hc : ∀ c ∈ cs, c.1 ≠ L) (hn : n < 100000) (w : Wd (L :: ms) ps ((L, vs) :: cs) H0 H) (k : Keep (L :: ms) H1 H) (r : repL (L :: ms) H (ys.map eb) vs) (hy : ys.length ≤ n) (hr : rep (L :: ms) H (eb y) u)
    (h : ∀ vs' H', Trn ms ps cs H0 H1 L eb (n + 1) (ys ++ [y]) vs' H' → Nx H') : ∃ acc, H L = some (.lst acc) ∧ acc.length < sizeLine ∧ Nx (upd H L (.lst (acc ++ [u]))) := by
  refine ⟨vs, (w.cel _ List.mem_cons_self).1, ?_, h _ _ (Trn.add hc w k r hy hr)⟩
  have q := repL_len r
  rw [List.length_map] at q
  have e : sizeLine = 16777216 := sizeLine_eq
  omega
end

/-! ### for -/
section
variable {α S : Type} {K : PySem.W.Frag} {ms ps : List Addr} {H0 H1 : Hp} {g : TG} {tb : TS} {D' : Ends} {σ : L2.St} {cs : S → List (Addr × List V)}
/-- for x in range(lo, hi) -/
theorem for_rangeC {lo hi : Int} {N : Nat} {body : Int → S → (S → Prop) → Prop} {KM : S → Prop} (SI : S → L2.St → Hp → Prop) (s0 : S) (hN : N = (hi - lo).toNat) (w : Wd ms ps (cs s0) H0 H1) (hM : forC body (rangeI lo hi) s0 KM) (h0 : SI s0 σ H1)
    (hs : ∀ (x : Int) (s : S) (k : S → Prop) (σ : L2.St) (H : Hp), Wd ms ps (cs s) H0 H → Keep ms H1 H → SI s σ H → body x s k → ∀ Nx : L2.St → Hp → Prop, (∀ s' σ' H', k s' → Wd ms ps (cs s') H0 H' → Keep ms H1 H' → SI s' σ' H' → Nx σ' H') →
      g (.int x) σ H fun σ2 H2 => tb { D' with nx := Nx, ct := Nx, bk := D'.nx } σ2 H2)
    (hd : ∀ s σ H, KM s → Wd ms ps (cs s) H0 H → Keep ms H1 H → SI s σ H → D'.nx σ H) :
    ∃ W : Nat → Nat → L2.St → Hp → Prop, (∃ m, W 0 m σ H1) ∧ ∀ i m σ H, W i m σ H →
      ((Itr lo N).stop i H ∧ D'.nx σ H) ∨ ((Itr lo N).go i H ∧ ∃ Nx : L2.St → Hp → Prop, (∀ σ' H', Nx σ' H' → ∃ m', m' < m ∧ W (i + 1) m' σ' H') ∧ ∀ x H', (Itr lo N).yld i H x H' → g x σ H' fun σ2 H2 => tb { D' with nx := Nx, ct := Nx, bk := D'.nx } σ2 H2) := by
  subst hN
  refine for_range (lo := lo) (n := (hi - lo).toNat) (D := D') (fun i σ H => ∃ s, Wd ms ps (cs s) H0 H ∧ Keep ms H1 H ∧ SI s σ H ∧ forC body ((rangeI lo hi).drop i) s KM) ⟨s0, w, Keep.refl, h0, hM⟩ (fun i σ H hi' ⟨s, w', k', si, q⟩ => ?_) (fun σ H ⟨s, w', k', si, q⟩ => ?_)
  · rw [drop_cons' (rangeI_get hi')] at q
    exact hs _ s _ σ H w' k' si q _ fun s' σ' H' hk w2 k2 si2 => ⟨s', w2, k2, si2, hk⟩
  · rw [List.drop_of_length_le (by rw [rangeI_len]; exact Nat.le_refl _)] at q
    exact hd s σ H q w' k' si
/-- for x in xs -/
theorem for_listC {items : List α} {e : α → D} {a : Addr} {xs : List V} {body : α → S → (S → Prop) → Prop} {KM : S → Prop} (SI : S → L2.St → Hp → Prop) (s0 : S) (w : Wd ms ps (cs s0) H0 H1) (an : a ∉ ms) (ha : H1 a = some (.lst xs)) (hx : repL ms H1 (items.map e) xs) (hM : forC body items s0 KM) (h0 : SI s0 σ H1)
    (hs : ∀ (x : α) (u : V) (s : S) (k : S → Prop) (σ : L2.St) (H : Hp), Wd ms ps (cs s) H0 H → Keep ms H1 H → SI s σ H → rep ms H (e x) u → body x s k → ∀ Nx : L2.St → Hp → Prop, (∀ s' σ' H', k s' → Wd ms ps (cs s') H0 H' → Keep ms H1 H' → SI s' σ' H' → Nx σ' H') →
      g u σ H fun σ2 H2 => tb { D' with nx := Nx, ct := Nx, bk := D'.nx } σ2 H2)
    (hd : ∀ s σ H, KM s → Wd ms ps (cs s) H0 H → Keep ms H1 H → SI s σ H → D'.nx σ H) :
    ∃ W : Nat → Nat → L2.St → Hp → Prop, (∃ m, W 0 m σ H1) ∧ ∀ i m σ H, W i m σ H →
      ((Itl K a).stop i H ∧ D'.nx σ H) ∨ ((Itl K a).go i H ∧ ∃ Nx : L2.St → Hp → Prop, (∀ σ' H', Nx σ' H' → ∃ m', m' < m ∧ W (i + 1) m' σ' H') ∧ ∀ x H', (Itl K a).yld i H x H' → g x σ H' fun σ2 H2 => tb { D' with nx := Nx, ct := Nx, bk := D'.nx } σ2 H2) := by
  have hl : items.length = xs.length := by
    have := repL_len hx
    rwa [List.length_map] at this
  refine for_list (xs := xs) (D := D') (fun i σ H => ∃ s, Wd ms ps (cs s) H0 H ∧ Keep ms H1 H ∧ SI s σ H ∧ forC body (items.drop i) s KM) ⟨s0, w, Keep.refl, h0, hM⟩ (fun i σ H _ ⟨s, w', k', _⟩ => .inl (.inl (k' a _ an ha))) (fun i x σ H hx' ⟨s, w', k', si, q⟩ => ?_) (fun σ H ⟨s, w', k', si, q⟩ => ?_)
  · have hi : i < xs.length := (List.getElem?_eq_some_iff.mp hx').1
    have hit : items[i]? = some (items[i]'(by omega)) := List.getElem?_eq_getElem (by omega)
    rw [drop_cons' hit] at q
    obtain ⟨v, hv, rv⟩ := repL_get (repL_keep k' hx) (j := i) (d := e (items[i]'(by omega))) (by rw [List.getElem?_map, hit]; rfl)
    rw [hx'] at hv
    have ev : x = v := Option.some.inj hv
    subst ev
    exact hs _ x s _ σ H w' k' si rv q _ fun s' σ' H' hk w2 k2 si2 => ⟨s', w2, k2, si2, hk⟩
  · rw [List.drop_of_length_le (by omega)] at q
    exact hd s σ H q w' k' si
/-- while -/
theorem while_C {c : TT} {fuel : Nat} {body : S → (S → Prop) → (S → Prop) → Prop} {KM : S → Prop} (SI : S → L2.St → Hp → Prop) (s0 : S) (w : Wd ms ps (cs s0) H0 H1) (hM : whileC body fuel s0 KM) (h0 : SI s0 σ H1)
    (hs : ∀ (s : S) (k1 k2 : S → Prop) (σ : L2.St) (H : Hp), Wd ms ps (cs s) H0 H → Keep ms H1 H → SI s σ H → body s k1 k2 → ∀ (Nx : L2.St → Hp → Prop) (Ex : L2.St → Hp → Prop), (∀ s' σ' H', k1 s' → Wd ms ps (cs s') H0 H' → Keep ms H1 H' → SI s' σ' H' → Nx σ' H') → (∀ s' σ' H', k2 s' → Wd ms ps (cs s') H0 H' → Keep ms H1 H' → SI s' σ' H' → Ex σ' H') →
      c σ H fun b H1 => if b = true then tb { D' with nx := Nx, ct := Nx, bk := D'.nx } σ H1 else Ex σ H1)
    (hd : ∀ s σ H, KM s → Wd ms ps (cs s) H0 H → Keep ms H1 H → SI s σ H → D'.nx σ H)
    (mono : ∀ σ H Q Q', (∀ b H1, Q b H1 → Q' b H1) → c σ H Q → c σ H Q') : tWhile c tb D' σ H1 := by
  refine ⟨fun m σ H => ∃ s, Wd ms ps (cs s) H0 H ∧ Keep ms H1 H ∧ SI s σ H ∧ whileC body m s KM, ⟨fuel, s0, w, Keep.refl, h0, hM⟩, ?_⟩
  rintro m σ H ⟨s, w', k', si, q⟩
  cases m with
  | zero => exact False.elim q
  | succ m =>
    refine mono _ _ _ _ (fun b H2 hb => ?_) (hs s _ _ σ H w' k' si q (fun σ' H' => ∃ s, Wd ms ps (cs s) H0 H' ∧ Keep ms H1 H' ∧ SI s σ' H' ∧ whileC body m s KM) D'.nx (fun s' σ' H' hk w2 k2 si2 => ⟨s', w2, k2, si2, hk⟩) fun s' σ' H' hk w2 k2 si2 => hd s' σ' H' hk w2 k2 si2)
    cases b with
    | true => exact ⟨_, fun σ' H' p => ⟨m, Nat.lt_succ_self m, p⟩, hb⟩
    | false => exact hb
end

section
variable {K : PySem.W.Frag} {ms : List Addr} {H : Hp} {d : D} {u x y : V}
theorem repL_uncons {ds : List D} {vs : List V} (h : repL ms H (d :: ds) vs) : ∃ u us, vs = u :: us ∧ rep ms H d u ∧ repL ms H ds us := by
  simp only [repL] at h
  exact h
theorem repL_empty {vs : List V} (h : repL ms H [] vs) : vs = [] := by
  simp only [repL] at h
  exact h
theorem repL_ints {ns : List Int} {vs : List V} (h : repL ms H (ns.map fun n => D.v (.int n)) vs) : vs = ns.map V.int := by
  have e : (ns.map fun n => D.v (.int n)) = (ns.map V.int).map D.v := by rw [List.map_map]; rfl
  rw [e] at h
  exact repL_flat.mp h
theorem repL_strs {ns : List Str} {vs : List V} (h : repL ms H (ns.map fun n => D.v (.str n)) vs) : vs = ns.map V.str := by
  have e : (ns.map fun n => D.v (.str n)) = (ns.map V.str).map D.v := by rw [List.map_map]; rfl
  rw [e] at h
  exact repL_flat.mp h
theorem repL_bls {ns : List Bool} {vs : List V} (h : repL ms H (ns.map fun n => D.v (.bl n)) vs) : vs = ns.map V.bl := by
  have e : (ns.map fun n => D.v (.bl n)) = (ns.map V.bl).map D.v := by rw [List.map_map]; rfl
  rw [e] at h
  exact repL_flat.mp h
theorem rep_join {a : Str} {ys : List Str} {P : Str → List Str → Prop} (h : rep ms H (.lst (ys.map fun n => D.v (.str n))) x) (hz : (ys.map (·.length)).sum + ys.length * a.length ≤ 16777216) (k : P a ys) :
    ∃ a' p, ∃ ys : List Str, V.str a = .str a' ∧ [x] = [.ref p] ∧ (SqL K H p (ys.map V.str) ∨ SqT K H p (ys.map V.str)) ∧ (ys.map (·.length)).sum + ys.length * a'.length ≤ 16777216 ∧ P a' ys := by
  simp only [rep] at h
  obtain ⟨p, vs, e, _, hp, hr⟩ := h
  have ev := repL_strs hr
  subst ev e
  exact ⟨a, p, ys, rfl, rfl, .inl (.inl (.inl hp)), hz, k⟩
theorem rep_all {ys : List Bool} {P : List Bool → Prop} (h : rep ms H (.lst (ys.map fun n => D.v (.bl n))) x) (k : P ys) : ∃ (a : Addr) (bs : List Bool), [x] = [V.ref a] ∧ SqL K H a (bs.map V.bl) ∧ P bs := by
  simp only [rep] at h
  obtain ⟨p, vs, e, _, hp, hr⟩ := h
  have ev := repL_bls hr
  subst ev e
  exact ⟨p, ys, rfl, .inl (.inl hp), k⟩
/-! data as the library data, for == -/
mutual
def pyOf : D → PyData
  | .v .non => .none
  | .v (.bl b) => .bool b
  | .v (.int i) => .int i
  | .v (.str z) => .str z
  | .v _ => .none
  | .lst ds => .list (pyL ds)
  | .tup ds => .tuple (pyL ds)
  | .ins _ _ _ => .none
  | .dct _ _ => .none
def pyL : List D → List PyData
  | [] => []
  | d :: ds => pyOf d :: pyL ds
def plainD : D → Bool
  | .v .non => true
  | .v (.bl _) => true
  | .v (.int _) => true
  | .v (.str _) => true
  | .v _ => false
  | .lst ds => plainL ds
  | .tup ds => plainL ds
  | .ins _ _ _ => false
  | .dct _ _ => false
def plainL : List D → Bool
  | [] => true
  | d :: ds => plainD d && plainL ds
end
mutual
theorem dp_of : ∀ (d : D) (u : V), plainD d = true → rep ms H d u → Dp K H u (pyOf d)
  | .v x, u, p, h => by
    have e := of_v h
    subst e
    cases u <;> simp only [pyOf, plainD] at p ⊢ <;> first | exact .non | exact .bl _ | exact .int _ | exact .str _ | cases p
  | .lst ds, u, p, h => by
    simp only [rep] at h
    obtain ⟨a, vs, e, _, hp, hr⟩ := h
    subst e
    simp only [pyOf, plainD] at p ⊢
    exact .lst (.inl (.inl hp)) (dpL_of ds vs p hr)
  | .tup ds, u, p, h => by
    simp only [rep] at h
    obtain ⟨a, vs, e, _, hp, hr⟩ := h
    subst e
    simp only [pyOf, plainD] at p ⊢
    exact .tup (.inl (.inl hp)) (dpL_of ds vs p hr)
  | .ins _ _ _, u, p, h => by
    simp only [plainD] at p
    cases p
  | .dct _ _, u, p, h => by
    simp only [plainD] at p
    cases p
theorem dpL_of : ∀ (ds : List D) (vs : List V), plainL ds = true → repL ms H ds vs → DpAll K H vs (pyL ds)
  | [], vs, p, h => by
    have e := repL_empty h
    subst e
    simp only [pyL]
    exact .nil
  | d :: ds, vs, p, h => by
    obtain ⟨u, us, e, h1, h2⟩ := repL_uncons h
    subst e
    simp only [plainL, Bool.and_eq_true] at p
    simp only [pyL]
    exact .cons (dp_of d u p.1 h1) (dpL_of ds us p.2 h2)
end
theorem rep_eqD {d e : D} {Q : VK} (h1 : rep ms H d x) (h2 : rep ms H e y) (p1 : plainD d = true) (p2 : plainD e = true) (s1 : SeqAt.shaped (pyOf d) = true) (s2 : SeqAt.shaped (pyOf e) = true) (k : Q (.bl (PyData.eqv (pyOf d) (pyOf e))) H) : rEqD K x y H Q :=
  ⟨_, _, dp_of d x p1 h1, dp_of e y p2 h2, s1, s2, k⟩
theorem rep_neD {d e : D} {Q : VK} (h1 : rep ms H d x) (h2 : rep ms H e y) (p1 : plainD d = true) (p2 : plainD e = true) (s1 : SeqAt.shaped (pyOf d) = true) (s2 : SeqAt.shaped (pyOf e) = true) (k : Q (.bl (!PyData.eqv (pyOf d) (pyOf e))) H) : rNeD K x y H Q :=
  ⟨_, _, dp_of d x p1 h1, dp_of e y p2 h2, s1, s2, k⟩
end

section
variable {ms : List Addr} {H H' H1 : Hp} {d : D} {u : V} {l : Addr}
theorem Keep.trans (a : Keep ms H1 H) (b : Keep ms H H') : Keep ms H1 H' := fun x o n h => b x o n (a x o n h)
theorem Keep.new (k : Keep ms H1 H) : Keep (l :: ms) H1 H := fun x o n h => k x o (fun z => n (List.mem_cons_of_mem _ z)) h
theorem rep_new (nl : H l = none) (h : rep ms H d u) : rep (l :: ms) H d u := rep_map (fun p o n hp => ⟨fun z => by
  rcases List.mem_cons.mp z with z | z
  · exact ne_of_none hp nl z
  · exact n z, hp⟩) d u h
theorem repL_new {ds : List D} {us : List V} (nl : H l = none) (h : repL ms H ds us) : repL (l :: ms) H ds us := repL_map (fun p o n hp => ⟨fun z => by
  rcases List.mem_cons.mp z with z | z
  · exact ne_of_none hp nl z
  · exact n z, hp⟩) ds us h
end

/-! ### a method called by keywords alone -/
def tMethK (C : Addr) (m : Str) (n : Nat) (gV : List V → List V → List V) (sp : Sp) (E : XK) (ta : TE) (tk : TA) : TE := fun σ H Q => ta σ H fun x H1 => ∃ a dx fs, x = .ref a ∧ H1 a = some (.ins C dx fs) ∧ fs.lookup m = none ∧
  tk σ H1 fun zs H2 => zs.length = n ∧ sp (gV [x] zs) H2 Q E
section
variable {X : Cx} {CX : CXT} {k : Nat} {f C : Addr} {fd : FuncData} {ps ks : List Str} {sp : Sp} {E : XK} {m : Str} {apos pos : Pos} {o : Expr} {kws : List Keyword} {ta : TE} {tk : TA} {g : List Value → List Value → List Value} {gV : List V → List V → List V}
theorem pe_methK0 {pl : Sem Bool} (he : PE X o ta) (c : Cls X.K C) (hm : Meth X.K C m f) (F : FnOk X.prog X.w X.K X.mg X.base CX k f fd ps sp) (hr : Room k X.A) (hb : KBn X.K fd ps 1 ks g gV) (hx : Passes CX X E) (hkw : PK X kws tk)
    (hall : (backToKw pos (keywordEach kws X.env)).all (·.1.isSome) = true := by rfl) (hks : (backToKw pos (keywordEach kws X.env)).filterMap (·.1) = ks := by rfl)
    (hpl : ((backTo pos (starEach [] X.env)).any (·.1) || (backToKw pos (keywordEach kws X.env)).any (·.1.isNone)) = false := by rfl)
    (ht : eval (.Call (.Attribute o m apos) [] kws pos) X.env = (do
      let ov ← eval o X.env
      standAt apos.atName
      let (f, first) ← holding [ov] (getMethod ov m pl)
      callWith pos f first (backTo pos (starEach [] X.env)) (backToKw pos (keywordEach kws X.env))) := by rfl) :
    PE X (.Call (.Attribute o m apos) [] kws pos) (tMethK C m ks.length gV sp E ta tk) := by
  refine ⟨fun pins s σ H Q I h => ?_⟩
  refine PySem.W.methodCall_KW (pl := pl) (thn (he.run pins s σ H _ I h) fun u s1 ⟨x, H1, I1, rx, a, dx, fs, ex, ea, l, q⟩ => ?_) ht
  subst ex
  obtain rfl : u = Value.ref a := rx
  refine getmeth_ok I1 ea c hm l ?_
  refine PySem.W.callWith_KW0 (first := [.ref a]) (h₀ := X.base) I.ok.mod.kin hm.kp hall ?_ hpl
  refine thn (hkw.run pos pins s1 σ H1 _ I1 q) fun ws s2 ⟨zs, H2, I2, rz, l2, q2⟩ => ⟨I2.kIn, ?_⟩
  rw [hks]
  exact run_fnN (us := [.ref a]) (vs := [.ref a]) F hr hb hx I2 (.cons rfl .nil) rz rfl l2 q2
end
end Rx
namespace Rx
open PySem PySem.Spec PyProof.Rows L2
theorem vals_getD : ∀ {zs : List V} {ws : List Value}, Vals zs ws → ∀ j : Nat, RelV (zs.getD j .non) (ws.getD j .none)
  | _, _, .nil, _ => rfl
  | _, _, .cons r _, 0 => r
  | _, _, .cons _ t, j + 1 => vals_getD t j
theorem tyes_of {σ : L2.St} {H : Hp} {A B : Hp → Prop} (h : A H) : tYes σ H fun b H3 => if b = true then A H3 else B H3 := by
  show (if true = true then A H else B H)
  rw [if_pos rfl]
  exact h
theorem Ret.keep {H H' : Hp} (e : Ret [] H H') {a : Addr} {o : HO} (h : H a = some o) : H' a = some o := e.kp a o (by simp) h
end Rx
namespace Rx
open PySem PySem.Spec PyProof.Rows L2
section
variable {X : Cx}
def rMulS : R2 := fun x y H Q => ∃ (a : Str) (k : Int), x = .str a ∧ y = .int k ∧ MulOk a k ∧ Q (.str (Txt.mul a k)) H
theorem op_mulS : OpR X (binaryOp .Mult) rMulS := by
  intro pins s σ H x y v u Q I rx ry h
  obtain ⟨a, k, rfl, rfl, ok, q⟩ := h
  obtain ⟨t, rfl⟩ := rx
  obtain ⟨t', rfl⟩ := ry
  exact SB.mul ok fun t' tk => ⟨.str (Txt.mul a k), H, I.tok _, ⟨_, rfl⟩, q⟩
end

/-! own == -/
def rOwnEq (C : Addr) (sp : Sp) (E : XK) : R2 := fun x y H Q => ∃ a b dx dy fs gs, x = .ref a ∧ y = .ref b ∧ H a = some (.ins C dx fs) ∧ H b = some (.ins C dy gs) ∧ sp [x, y] H (fun v H' => ∃ r : Bool, v = .bl r ∧ Q v H') E
structure OwnEq (K : PySem.W.Frag) (C f : Addr) : Prop where
  hs : PySem.W.findIn K (.ref C) "__eq__" = some (some (.ref f))
  hf : PySem.W.isFn K (.ref f) = true
theorem op_eqOwn {X : Cx} {n : Nat} {CX : CXT} {C f : Addr} {fd : FuncData} {ps : List Str} {sp : Sp} {E : XK} (F : FnOk X.prog X.w X.K X.mg X.base CX n f fd ps sp) (hr : Room n X.A)
    (o : OwnEq X.K C f) (hb : Binds X.K fd ps []) (hx : Passes CX X E) : OpR X (compareOp .Eq) (rOwnEq C sp E) := by
  intro pins s σ H x y v u Q I rx ry d
  show wpAny (model X.prog X.w) X.A (richCompare .Eq v u) (EP X pins σ Q) X.xe s
  obtain ⟨a, b, dx, dy, fs, gs, rfl, rfl, ha, hb', hsp⟩ := d
  cases rx
  cases ry
  obtain ⟨mA, J, _⟩ := ins_get I.hok ha
  obtain ⟨mB, J', _⟩ := ins_get I.hok hb'
  obtain ⟨od, J, _⟩ := J.look
  obtain ⟨od', J', _⟩ := J'.look
  obtain ⟨m, hF⟩ := I.fr
  refine PySem.W.cmp_K (op := .Eq) (tb := .ref C) hr.units0 hF I.ok.mod.kin J J'.type (by simp [PySem.W.notFirst]) o.hs o.hf ?_
  have hl := F.len _ _ _ _ hsp
  have r2 : Vals [V.ref a, V.ref b] [Value.ref a, Value.ref b] := .cons rfl (.cons rfl .nil)
  refine wpAny_call (codeAny_mono (F.run X.A X.stack s H ⟨[.ref a, .ref b], []⟩ [.ref a, .ref b] [.ref a, .ref b] _ E hr I.env0 (by
    have := hb s [.ref a, .ref b] I.kIn (by simpa using hl)
    simpa using this) r2 hsp) fun r s' hq => ?_)
  cases r with
  | error e => exact hx pins σ H s e s' I hq
  | ok fl =>
    cases fl with
    | ret w =>
      obtain ⟨z, H', I', rz, ⟨r, ez, q⟩⟩ := I.after hq
      subst ez
      cases (show w = Value.bool r from rz)
      exact ⟨.bl r, H', I', rfl, q⟩
    | next => exact False.elim hq
    | brk => exact False.elim hq
    | cont => exact False.elim hq
section
variable {K : PySem.W.Frag} {ms ps : List Addr} {cs : List (Addr × List V)} {H H0 H1 : Hp} {d : D} {u x y : V}
theorem rep_ins {C : Addr} {ns : List Str} {ds : List D} (h : rep ms H (.ins C ns ds) u) : ∃ p dx fs, u = .ref p ∧ H p = some (.ins C dx fs) := by
  simp only [rep] at h
  obtain ⟨p, dx, vs, e, _, hp, _⟩ := h
  exact ⟨p, dx, _, e, hp⟩
theorem rep_eqOwn {C : Addr} {ns ns' : List Str} {ds ds' : List D} {sp : Sp} {E : XK} {Q : VK} (h1 : rep ms H (.ins C ns ds) x) (h2 : rep ms H (.ins C ns' ds') y) (k : sp [x, y] H (fun v H' => ∃ r : Bool, v = .bl r ∧ Q v H') E) : rOwnEq C sp E x y H Q := by
  obtain ⟨p, dx, fs, e, hp⟩ := rep_ins h1
  obtain ⟨q, dy, gs, e', hq⟩ := rep_ins h2
  subst e e'
  exact ⟨p, q, dx, dy, fs, gs, rfl, rfl, hp, hq, k⟩
/-! list + list -/
theorem rep_cat {α : Type} {xs ys : List α} {e : α → D} {Q : VK} (w : Wd ms ps cs H0 H) (h1 : rep ms H (.lst (xs.map e)) x) (h2 : rep ms H (.lst (ys.map e)) y) (hz : xs.length + ys.length ≤ sizeLine)
    (k : ∀ p H', Ret [] H H' → rep ms H' (.lst ((xs ++ ys).map e)) (.ref p) → Q (.ref p) H') : rCat x y H Q := by
  simp only [rep] at h1 h2
  obtain ⟨p, vs, rfl, np, hp, r1⟩ := h1
  obtain ⟨q, us, rfl, nq, hq, r2⟩ := h2
  have l1 := repL_len r1
  have l2 := repL_len r2
  rw [List.length_map] at l1 l2
  refine ⟨p, q, vs, us, rfl, rfl, hp, hq, by rw [← l1, ← l2]; exact hz, fun a na => ?_⟩
  have ee : Ret [] H (upd H a (.lst (vs ++ us))) := Ext.new na
  refine k a _ ee ?_
  simp only [rep]
  refine ⟨a, vs ++ us, rfl, fun z => w.tr a z na, upd_same, ?_⟩
  rw [List.map_append]
  exact repL_app (repL_ext ee r1) (repL_ext ee r2)
/-! isinstance(x, C), x of the class C -/
structure IsC (K : PySem.W.Frag) (C : Addr) : Prop where
  cl : Cls K C
  ha : PySem.W.findIn K (.ref C) "__class__" = some (some (.builtin "object.__class__"))
  hn : PySem.W.specialIn K (.builtin "object.__class__") "__get__" = some (some (.builtin "getset_descriptor.__get__"))
  tk : PySem.W.takesIn K (.builtin "object.__class__") = some true
  hm : PySem.W.mroIn K C (.type "object") = some true
theorem rep_isi {C : Addr} {ns : List Str} {ds : List D} {P : Bool → Prop} (h : rep ms H (.ins C ns ds) x) (c : IsC K C) (k : P true) :
    ∃ (x' c : V) (t u : Value) (b : Bool), [x, .ref C] = [x', c] ∧ ClsV c u ∧ TyX K H x' t ∧ PySem.W.kitOne K t u = some b ∧ P b := by
  obtain ⟨p, dx, fs, e, hp⟩ := rep_ins h
  subst e
  refine ⟨_, _, _, _, true, rfl, .own C, .base (.ins hp c.cl c.ha c.hn c.tk c.hm), ?_, k⟩
  simp [PySem.W.kitOne]
/-! list.count of texts -/
def rCntS (K : PySem.W.Frag) : V → List V → Hp → VK → Prop := fun x xs H Q => ∃ (p : Addr) (ns : List Str) (k : Str), x = .ref p ∧ xs = [.str k] ∧ SqL K H p (ns.map V.str) ∧ Q (.int (ns.count k : Nat)) H
def eqs (k : Str) (v : Value) : Bool := match v with
  | .str n _ => n == k
  | _ => false
theorem eqs_at {A : Around} {s : Shared} {k : Str} {t : Tok} : ∀ {ns : List Str} {us : List Value}, Vals (ns.map V.str) us → ∀ y ∈ us, SeqAt.EqAt A s y (.str k t) (eqs k y)
  | [], _, .nil => fun y hy => by cases hy
  | n :: ns, _, .cons r h => fun y hy => by
    rcases List.mem_cons.mp hy with e | e
    · subst e
      obtain ⟨t', rfl⟩ := r
      exact SeqAt.EqAt.str_str n t' k t
    · exact eqs_at h y e
theorem eqs_count {k : Str} : ∀ {ns : List Str} {us : List Value}, Vals (ns.map V.str) us → us.countP (eqs k) = ns.count k
  | [], _, .nil => rfl
  | n :: ns, _, .cons r h => by
    have ih := eqs_count (k := k) h
    obtain ⟨t', rfl⟩ := r
    rw [List.countP_cons, List.count_cons, ih] <;> rfl
theorem mt_lcountS {X : Cx} : MtR X "list.count" (rCntS X.K) := by
  intro pins s σ H x xs v us Q I rx rxs h
  obtain ⟨p, ns, k, rfl, rfl, hs, q⟩ := h
  cases rx
  obtain ⟨u, rfl, ru⟩ := rxs.one
  obtain ⟨t, rfl⟩ := ru
  obtain ⟨its, rv, ⟨⟨cls, dd, data, sl⟩, n, ho, hc, hdn, hd⟩, hlen⟩ := I.list hs
  simp only at hc hd
  subst hc hd
  refine call_meets PySem.F.slot_list_count ⟨_, ho, rfl⟩ PySem.F.entry_list_count (PySem.F.args_list_count_2 _ _)
    (SeqAt.list_countAt p its.toArray n dd sl (.str k t) (eqs k)) ⟨ho, fun y hy => eqs_at rv y (by simpa using hy), ?_⟩
  have ec : its.toArray.toList.countP (eqs k) = ns.count k := eqs_count rv
  refine ⟨.int (ns.count k : Nat), H, I.tok _, ⟨s.toks, ?_⟩, q⟩
  show Value.int ((its.toArray.toList.countP (eqs k) : Nat) : Int) s.toks = Value.int ((ns.count k : Nat) : Int) s.toks
  rw [ec]
theorem rep_lcountS {ns : List Str} {k : Str} {P : List Str → Str → Prop} (h : rep ms H (.lst (ns.map fun n => D.v (.str n))) x) (q : P ns k) :
    ∃ (p : Addr) (ns : List Str) (k' : Str), x = .ref p ∧ [V.str k] = [.str k'] ∧ SqL K H p (ns.map V.str) ∧ P ns k' := by
  simp only [rep] at h
  obtain ⟨p, vs, e, _, hp, hr⟩ := h
  have ev := repL_strs hr
  subst ev e
  exact ⟨p, ns, k, rfl, rfl, .inl (.inl hp), q⟩
/-! written dicts of texts -/
theorem kd_nil {w : World} {a : Addr} : ∀ z c : Str, ([] : List (Str × Str)).lookup z = some c → KDct K w a z (.str c) := fun _ _ h => by cases h
theorem kd_cons {w : World} {a : Addr} {k v : Str} {l : List (Str × Str)} (h : KDct K w a k (.str v)) (t : ∀ z c : Str, l.lookup z = some c → KDct K w a z (.str c)) : ∀ z c : Str, ((k, v) :: l).lookup z = some c → KDct K w a z (.str c) := by
  intro z c e
  rw [List.lookup_cons] at e
  by_cases q : (z == k) = true
  · rw [q] at e
    have e1 : v = c := Option.some.inj e
    subst e1
    rw [eq_of_beq q]
    exact h
  · have q' : (z == k) = false := by simpa using q
    rw [q'] at e
    exact t z c e
theorem rep_ixD {w : World} {a : Addr} {l : List (Str × Str)} {z c : Str} {Q : VK} (t : ∀ z c : Str, l.lookup z = some c → KDct K w a z (.str c)) (h : l.lookup z = some c) (q : Q (.str c) H) : rIxD K w (.ref a) (.str z) H Q :=
  ⟨a, z, .str c, rfl, rfl, t z c h, q⟩
theorem ix_kdictW {X : Cx} {w : World} (hK : X.K = K) (hw : X.w = w) : IxR X (rIxD K w) := by
  subst hK hw
  exact ix_kdict
theorem rep_tyL {ds : List D} (h : rep ms H (.lst ds) x) : tyV K "list" x H := by
  simp only [rep] at h
  obtain ⟨p, vs, e, _, hp, hr⟩ := h
  subst e
  exact .inl ⟨rfl, vs, .inl (.inl hp)⟩
end
/-! the signs of a text -/
def signs (x : Str) : List Str := x.cps.toList.map fun c => ⟨#[c]⟩
theorem signs_len {x : Str} : (signs x).length = x.cps.size := by simp [signs]
theorem signs_get {x : Str} {i : Nat} {c : Nat} (h : x.cps[i]? = some c) : (signs x)[i]? = some ⟨#[c]⟩ := by
  simp only [signs, List.getElem?_map, Array.getElem?_toList, h]
  rfl
section
variable {β : Type} {K : PySem.W.Frag} {ms ps : List Addr} {cs : List (Addr × List V)} {H0 H1 : Hp} {g : TG} {tt : TT} {te : TE} {vl : List Nat} {σ : L2.St} {Qd : Hp → Prop}
/-- [e for x in text] -/
theorem lc_strC {z : Str} {L : Addr} {eb : β → D} {body : Str → (β → Prop) → Prop} {KM : List β → Prop} (w : Wd ms ps cs H0 H1) (nl : H1 L = none) (hM : (signs z).length < 100000 ∧ mapC body (signs z) [] KM)
    (hs : ∀ (x : Str) (n : Nat) (ys : List β) (vs : List V) (k : β → Prop) (H : Hp), n < 100000 → Trn ms ps cs H0 H1 L eb n ys vs H → body x k → ∀ Nx : Hp → Prop, (∀ y vs' H', k y → Trn ms ps cs H0 H1 L eb (n + 1) (ys ++ [y]) vs' H' → Nx H') →
      g (.str x) (wipe σ vl) H fun σ2 H2 => wipe σ2 vl = wipe σ vl ∧ tt σ2 H2 fun b H3 => if b = true then te σ2 H3 fun y H4 => ∃ acc, H4 L = some (.lst acc) ∧ acc.length < sizeLine ∧ Nx (upd H4 L (.lst (acc ++ [y]))) else Nx H3)
    (hd : ∀ ys H, KM ys → Wd ms ps cs H0 H → Keep ms H1 H → rep ms H (.lst (ys.map eb)) (.ref L) → Qd H) :
    ∃ W : Nat → Nat → Hp → Prop, (∃ m, W 0 m (upd H1 L (.lst []))) ∧ ∀ i m H, W i m H →
      ((Its z).stop i H ∧ Qd H) ∨ ((Its z).go i H ∧ ∃ Nx : Hp → Prop, (∀ H', Nx H' → ∃ m', m' < m ∧ W (i + 1) m' H') ∧ ∀ x H', (Its z).yld i H x H' → g x (wipe σ vl) H' fun σ2 H2 => wipe σ2 vl = wipe σ vl ∧ tt σ2 H2 fun b H3 =>
        if b = true then te σ2 H3 fun y H4 => ∃ acc, H4 L = some (.lst acc) ∧ acc.length < sizeLine ∧ Nx (upd H4 L (.lst (acc ++ [y]))) else Nx H3) := by
  obtain ⟨hn, hM⟩ := hM
  rw [signs_len] at hn
  refine ⟨fun i m H => m = z.cps.size - i ∧ i ≤ z.cps.size ∧ ∃ ys vs, Trn ms ps cs H0 H1 L eb i ys vs H ∧ mapC body ((signs z).drop i) ys KM, ⟨_, rfl, Nat.zero_le _, [], [], Trn.start w nl, hM⟩, ?_⟩
  rintro i m H ⟨rfl, hi', ys, vs, T, q⟩
  by_cases hlt : i < z.cps.size
  · refine .inr ⟨hlt, fun H' => i + 1 ≤ z.cps.size ∧ ∃ ys vs, Trn ms ps cs H0 H1 L eb (i + 1) ys vs H' ∧ mapC body ((signs z).drop (i + 1)) ys KM, fun H' p' => ⟨_, by omega, rfl, p'⟩, fun x H' y => ?_⟩
    obtain ⟨e, c, hc, y⟩ := y
    subst e y
    rw [drop_cons' (signs_get hc)] at q
    exact hs _ i ys vs _ H' (by omega) T q _ fun y vs' H' k T' => ⟨hlt, _, _, T', k⟩
  · have e : i = z.cps.size := by omega
    refine .inl ⟨by rw [e]; exact Nat.le_refl _, ?_⟩
    have q' : KM ys := by
      rw [List.drop_of_length_le (by rw [signs_len]; omega)] at q
      exact q
    obtain ⟨w', k', r'⟩ := T.done w nl
    exact hd ys H q' w' k' r'
end
/-! != by the text's own == -/
section
variable {M : Model} {prog : Program} {w : World} {A : Around} {E : Value → Shared → Prop} {s : Shared} {K : PySem.W.Frag} {x y C : Addr} {ox : Obj} {od : Option Obj}
theorem entry_objNe {Q : Fin → Shared → Prop} (hu : A.units < cLine) (hcall : wpAny M A (callSpecialIfBound? (.ref x) (Str.ofString "__eq__") [.ref y]) (fun r s' => ∃ b, r = some (.bool b) ∧ Q (.done (.ret (.bool (!b)))) s') E s) :
    wpAny M A (Builtin.«object.__ne__» ⟨[.ref x, .ref y], []⟩) Q E s := by
  unfold Builtin.«object.__ne__»
  repeat (first
    | with_reducible refine wpAny_cRoomFor hu ?_
    | (refine wpAny_bind (m := callSpecialIfBound? (.ref x) (Str.ofString "__eq__") [.ref y])
        (wpAny_mono hcall (fun r s' hr => by
          obtain ⟨b, rfl, hq⟩ := hr
          repeat (first | exact hq | exact wpAny_pure hq | exact wpAny_truthy_bool hq | (refine wpAny_bind (m := truthy (.bool _)) (wpAny_truthy_bool ?_)) | wp_step)) fun _ _ e => e))
    | wp_step)
theorem call_objNe {Q : Value → Shared → Prop} (X : K.In s.heap) (I : PySem.W.InstAt s.heap x ox C od) (hm : PySem.W.mroIn K C (.type "object") = some true) (hu : A.in1.units < cLine)
    (hcall : wpAny (model prog w) A.in1 (callSpecialIfBound? (.ref x) (Str.ofString "__eq__") [.ref y]) (fun r s' => ∃ b, r = some (.bool b) ∧ Q (.bool (!b)) s') E s) :
    wpAny (model prog w) A (call (.builtin "object.__ne__") [.ref x, .ref y]) Q E s := by
  refine wpAny_call (codeAny_call_builtin F.cmp_object.ne.plain F.cmpEntry_ne (PySem.W.check_slot F.cmpKind_ne F.cmpSplit_ne (I.type.andThen (PySem.W.looks_mroIn X hm)) (F.cmpArgs_ne _ _) (entry_objNe hu (wpAny_mono hcall (fun r s' hr => ?_) fun _ _ e => e))))
  obtain ⟨b, rfl, hq⟩ := hr
  first | exact ⟨b, rfl, hq⟩ | exact ⟨b, rfl, wpAny_pure hq⟩
theorem ifBound_objNe {args : List Value} {Q : Option Value → Shared → Prop} (X : K.In s.heap) (I : PySem.W.InstAt s.heap x ox C od) (hs : PySem.W.findIn K (.ref C) "__ne__" = some (some (.builtin "object.__ne__")))
    (h : wpAny M A (call (.builtin "object.__ne__") (.ref x :: args)) (fun v => Q (some v)) E s) : wpAny M A (callSpecialIfBound? (.ref x) "__ne__" args) Q E s := by
  simp only [callSpecialIfBound?, bindSpecialIfBound?]
  refine wpAny_holding (wpAny_bind (wpAny_bind (wpAny_bind (I.type.here ((PySem.W.looks_findIn X hs).here ?_)))))
  refine wpAny_bind (wpAny_askSetting (wpAny_ite ?_))
  have fin : wpAny M A (call (.builtin "object.__ne__") ([.ref x] ++ args) >>= fun v => pure (some v)) Q E s := wpAny_bind (wpAny_mono h (fun v s' h' => wpAny_pure h') fun _ _ h' => h')
  split
  · exact wpAny_bind (wpAny_of_eq (F.cmp_object.ne.bind _) (wpAny_pure (by exact fin)))
  · exact wpAny_tryCatch (wpAny_bind (wpAny_of_eq (F.cmp_object.ne.bind _) (wpAny_pure (by exact fin))))
end
structure OwnNe (K : PySem.W.Frag) (C : Addr) : Prop where
  hne : PySem.W.findIn K (.ref C) "__ne__" = some (some (.builtin "object.__ne__"))
  hm : PySem.W.mroIn K C (.type "object") = some true
def rOwnNe (C : Addr) (sp : Sp) (E : XK) : R2 := fun x y H Q => ∃ a b dx dy fs gs, x = .ref a ∧ y = .ref b ∧ H a = some (.ins C dx fs) ∧ H b = some (.ins C dy gs) ∧ sp [x, y] H (fun v H' => ∃ r : Bool, v = .bl r ∧ Q (.bl (!r)) H') E
theorem op_neOwn {X : Cx} {n : Nat} {CX : CXT} {C f : Addr} {fd : FuncData} {ps : List Str} {sp : Sp} {E : XK} (F : FnOk X.prog X.w X.K X.mg X.base CX n f fd ps sp) (hr : Room (n + 1) X.A)
    (o : OwnEq X.K C f) (o' : OwnNe X.K C) (hb : Binds X.K fd ps []) (hx : Passes CX X E) : OpR X (compareOp .NotEq) (rOwnNe C sp E) := by
  intro pins s σ H x y v u Q I rx ry d
  show wpAny (model X.prog X.w) X.A (richCompare .NotEq v u) (EP X pins σ Q) X.xe s
  obtain ⟨a, b, dx, dy, fs, gs, rfl, rfl, ha, hb', hsp⟩ := d
  cases rx
  cases ry
  obtain ⟨mA, J, _⟩ := ins_get I.hok ha
  obtain ⟨mB, J', _⟩ := ins_get I.hok hb'
  obtain ⟨od, J, _⟩ := J.look
  obtain ⟨od', J', _⟩ := J'.look
  have hl := F.len _ _ _ _ hsp
  have r2 : Vals [V.ref a, V.ref b] [Value.ref a, Value.ref b] := .cons rfl (.cons rfl .nil)
  have one : wpAny (model X.prog X.w) X.A (tryCompare (.ref a) (cmpInfo .NotEq).2.1 (.ref b)) (fun r s' => ∃ v, r = some v ∧ EP X pins σ Q v s') X.xe s := by
    unfold tryCompare
    refine wpAny_bind (ifBound_objNe I.kIn J o'.hne (call_objNe I.kIn J o'.hm hr.in1.units0 (PySem.W.ifBound_K I.kIn J o.hs o.hf ?_)))
    refine wpAny_call (codeAny_mono (F.run X.A.in1 X.stack s H ⟨[.ref a, .ref b], []⟩ [.ref a, .ref b] [.ref a, .ref b] _ E hr.in1 I.env0.in1 (by
      have := hb s [.ref a, .ref b] I.kIn (by simpa using hl)
      simpa using this) r2 hsp) fun r s' hq => ?_)
    cases r with
    | error e => exact hx pins σ H s e s' I hq
    | ok fl =>
      cases fl with
      | ret w =>
        obtain ⟨z, H', I', rz, ⟨r, ez, q⟩⟩ := I.after hq
        subst ez
        cases (show w = Value.bool r from rz)
        exact ⟨r, rfl, wpAny_pure ⟨_, rfl, .bl (!r), H', I', rfl, q⟩⟩
      | next => exact False.elim hq
      | brk => exact False.elim hq
      | cont => exact False.elim hq
  unfold richCompare
  simp only [oneThing_ref]
  refine wpAny_holding (wpAny_bind (wpAny_cRoomFor hr.units0 ?_))
  refine wpAny_bind (J.type.here (wpAny_bind (J'.type.here ?_)))
  rw [show (Value.ref C != Value.ref C) = false from by simp]
  refine wpAny_bind (wpAny_pure ?_)
  simp only [Bool.false_eq_true, if_false]
  refine wpAny_bind (wpAny_mono one (fun r s' z => ?_) fun _ _ e => e)
  obtain ⟨v, rfl, hq⟩ := z
  exact wpAny_pure hq
theorem rep_neOwn {ms : List Addr} {H : Hp} {x y : V} {C : Addr} {ns ns' : List Str} {ds ds' : List D} {sp : Sp} {E : XK} {Q : VK} (h1 : rep ms H (.ins C ns ds) x) (h2 : rep ms H (.ins C ns' ds') y) (k : sp [x, y] H (fun v H' => ∃ r : Bool, v = .bl r ∧ Q (.bl (!r)) H') E) : rOwnNe C sp E x y H Q := by
  obtain ⟨p, dx, fs, e, hp⟩ := rep_ins h1
  obtain ⟨q, dy, gs, e', hq⟩ := rep_ins h2
  subst e e'
  exact ⟨p, q, dx, dy, fs, gs, rfl, rfl, hp, hq, k⟩
/-! a local list that grows -/
mutual
def noL : D → Bool
  | .v _ => true
  | .lst _ => false
  | .tup ds => noLs ds
  | .ins _ _ ds => noLs ds
  | .dct _ ds => noLs ds
def noLs : List D → Bool
  | [] => true
  | d :: ds => noL d && noLs ds
end
section
variable {ms ps : List Addr} {cs : List (Addr × List V)} {H0 H H' : Hp} {L : Addr} {vs : List V}
mutual
theorem rep_lift0 (hL : H L = some (.lst vs)) : ∀ (d : D) (u : V), noL d = true → rep ms H d u → rep (L :: ms) H d u
  | .v x, u, _, h => by
    simp only [rep] at h ⊢
    exact h
  | .lst ds, u, n, h => by
    simp only [noL] at n
    cases n
  | .tup ds, u, n, h => by
    simp only [noL] at n
    simp only [rep] at h ⊢
    obtain ⟨p, us, e, np, hp, hl⟩ := h
    refine ⟨p, us, e, fun z => ?_, hp, repL_lift0 hL ds us n hl⟩
    rcases List.mem_cons.mp z with z | z
    · rw [z, hL] at hp
      cases hp
    · exact np z
  | .ins C ns ds, u, n, h => by
    simp only [noL] at n
    simp only [rep] at h ⊢
    obtain ⟨p, dx, us, e, np, hp, hn, hl⟩ := h
    refine ⟨p, dx, us, e, fun z => ?_, hp, hn, repL_lift0 hL ds us n hl⟩
    rcases List.mem_cons.mp z with z | z
    · rw [z, hL] at hp
      cases hp
    · exact np z
  | .dct ks ds, u, n, h => by
    simp only [noL] at n
    simp only [rep] at h ⊢
    obtain ⟨p, us, e, np, hp, hn, hl⟩ := h
    refine ⟨p, us, e, fun z => ?_, hp, hn, repL_lift0 hL ds us n hl⟩
    rcases List.mem_cons.mp z with z | z
    · rw [z, hL] at hp
      cases hp
    · exact np z
theorem repL_lift0 (hL : H L = some (.lst vs)) : ∀ (ds : List D) (us : List V), noLs ds = true → repL ms H ds us → repL (L :: ms) H ds us
  | [], us, _, h => by
    simp only [repL] at h ⊢
    exact h
  | d :: ds, us, n, h => by
    simp only [noLs, Bool.and_eq_true] at n
    simp only [repL] at h ⊢
    obtain ⟨u, ws, e, h1, h2⟩ := h
    exact ⟨u, ws, e, rep_lift0 hL d u n.1 h1, repL_lift0 hL ds ws n.2 h2⟩
end
structure Mut (ms ps : List Addr) (cs : List (Addr × List V)) (H0 H : Hp) (L : Addr) (ds : List D) : Prop where
  hp : L ∉ ps
  h0 : H0 L = none
  hc : ∀ c ∈ cs, c.1 ≠ L
  nm : L ∉ ms
  val : ∃ vs, H L = some (.lst vs) ∧ repL (L :: ms) H ds vs
variable {ds : List D} {d : D} {u : V}
theorem mut_new (w : Wd ms ps cs H0 H) (nl : H L = none) (r : repL ms H ds vs) : Wd (L :: ms) ps cs H0 (upd H L (.lst vs)) ∧ Mut ms ps cs H0 (upd H L (.lst vs)) L ds := by
  have wc := Wd.cell (xs := vs) w nl
  have nL : L ∉ ms := fun z => w.tr L z nl
  refine ⟨⟨wc.kp, wc.grow, wc.tr, wc.pot, wc.pm, fun c h => wc.cel c (List.mem_cons_of_mem _ h)⟩, (wc.cel _ List.mem_cons_self).2.2.1, (wc.cel _ List.mem_cons_self).2.2.2, new_ne w nl, nL, vs, upd_same, ?_⟩
  exact repL_map (fun p o n hp => ⟨fun z => by
    rcases List.mem_cons.mp z with z | z
    · exact ne_of_none hp nl z
    · exact n z, by rw [upd_ne (ne_of_none hp nl)]; exact hp⟩) _ _ r
theorem mut_ret (w : Wd (L :: ms) ps cs H0 H) (e : Ret ps H H') (m : Mut ms ps cs H0 H L ds) : Mut ms ps cs H0 H' L ds := by
  obtain ⟨vs, h1, h2⟩ := m.val
  exact ⟨m.hp, m.h0, m.hc, m.nm, vs, e.kp L _ m.hp h1, repL_ret w e h2⟩
theorem mut_ext (e : Ret [] H H') (m : Mut ms ps cs H0 H L ds) : Mut ms ps cs H0 H' L ds := by
  obtain ⟨vs, h1, h2⟩ := m.val
  exact ⟨m.hp, m.h0, m.hc, m.nm, vs, e.kp L _ (by simp) h1, repL_ext e h2⟩
theorem mut_drop (m : Mut ms ps cs H0 H L ds) (w : Wd (L :: ms) ps cs H0 H) : Wd ms ps cs H0 H := by
  refine ⟨w.kp, w.grow, fun a h => w.tr a (List.mem_cons_of_mem _ h), w.pot, fun a h => ?_, fun c h => ?_⟩
  · rcases List.mem_cons.mp (w.pm a h) with z | z
    · rw [z] at h
      exact absurd h m.hp
    · exact z
  · obtain ⟨h1, h2, h3, h4⟩ := w.cel c h
    refine ⟨h1, ?_, h3, h4⟩
    rcases List.mem_cons.mp h2 with z | z
    · exact absurd z (m.hc c h)
    · exact z
theorem mut_rep (m : Mut ms ps cs H0 H L ds) : rep ms H (.lst ds) (.ref L) := by
  obtain ⟨vs, h1, h2⟩ := m.val
  simp only [rep]
  exact ⟨L, vs, rfl, m.nm, h1, repL_weak h2⟩
theorem rep_lift (m : Mut ms ps cs H0 H L ds) (n : noL d = true) (h : rep ms H d u) : rep (L :: ms) H d u := by
  obtain ⟨vs, h1, _⟩ := m.val
  exact rep_lift0 h1 d u n h
theorem mut_app {P : Addr → List V → V → Prop} (m : Mut ms ps cs H0 H L ds) (hl : ds.length < 16777216) (k : ∀ vs, H L = some (.lst vs) → repL (L :: ms) H ds vs → P L vs u) :
    ∃ (l : Addr) (xs : List V) (y : V), V.ref L = .ref l ∧ [u] = [y] ∧ H l = some (.lst xs) ∧ xs.length < sizeLine ∧ P l xs y := by
  obtain ⟨vs, h1, h2⟩ := m.val
  refine ⟨L, vs, u, rfl, rfl, h1, ?_, k vs h1 h2⟩
  rw [← repL_len h2, sizeLine_eq]
  exact hl
theorem mut_upd (w : Wd (L :: ms) ps cs H0 H) (m : Mut ms ps cs H0 H L ds) (hv : H L = some (.lst vs)) (h2 : repL (L :: ms) H ds vs) (r : rep (L :: ms) H d u) :
    Wd (L :: ms) ps cs H0 (upd H L (.lst (vs ++ [u]))) ∧ Mut ms ps cs H0 (upd H L (.lst (vs ++ [u]))) L (ds ++ [d]) ∧ (∀ d' u', rep (L :: ms) H d' u' → rep (L :: ms) (upd H L (.lst (vs ++ [u]))) d' u') ∧ True := by
  refine ⟨⟨fun a o n h => ?_, fun a h => ?_, fun a h => ?_, fun a h => ?_, w.pm, fun c h => ?_⟩, ⟨m.hp, m.h0, m.hc, m.nm, _, upd_same, ?_⟩, fun d u' h => ?_, trivial⟩
  · rw [upd_ne (ne_of_none h m.h0)]
    exact w.kp a o n h
  · by_cases e : a = L
    · rw [e, upd_same]
      exact fun z => nomatch z
    · rw [upd_ne e]
      exact w.grow a h
  · by_cases e : a = L
    · rw [e, upd_same]
      exact fun z => nomatch z
    · rw [upd_ne e]
      exact w.tr a h
  · obtain ⟨i, j, h1, h3⟩ := w.pot a h
    exact ⟨i, j, by rw [upd_ne (fun z => m.hp (by rw [← z]; exact h))]; exact h1, h3⟩
  · obtain ⟨h1, h3, h4, h5⟩ := w.cel c h
    exact ⟨by rw [upd_ne (m.hc c h)]; exact h1, h3, h4, h5⟩
  · exact repL_put List.mem_cons_self (repL_app h2 (repL_one r))
  · exact rep_put List.mem_cons_self h
end
section
variable {ms ps : List Addr} {cs : List (Addr × List V)} {H0 H H1 H' : Hp} {L : Addr} {K : PySem.W.Frag} {x : V}
theorem keep_none {w : Wd ms ps cs H0 H} (nl : H L = none) (k : Keep ms H1 H) : H1 L = none := by
  have nL : L ∉ ms := fun z => w.tr L z nl
  cases q : H1 L with
  | none => rfl
  | some o =>
    have := k L o nL q
    rw [nl] at this
    cases this
theorem keep_frz (n : H1 L = none) (k : Keep (L :: ms) H1 H) : Keep ms H1 H := fun a o na h => k a o (fun z => by
  rcases List.mem_cons.mp z with z | z
  · rw [z, n] at h
    cases h
  · exact na z) h
theorem rep_ixN {α : Type} {e : α → D} {xs : List α} {i : Int} {y : α} {Q : VK} (h : rep ms H (.lst (xs.map e)) x) (hi : atI xs i = some y) (k : ∀ v, rep ms H (e y) v → Q v H) : rIxL K x (.int i) H Q := by
  simp only [rep] at h
  obtain ⟨p, vs, e', _, hp, hr⟩ := h
  have hl := repL_len hr
  rw [List.length_map] at hl
  unfold atI at hi
  cases hx : ixN xs.length i with
  | none =>
    rw [hx] at hi
    cases hi
  | some j =>
    rw [hx] at hi
    have hj : xs[j]? = some y := hi
    obtain ⟨v, hv, rv⟩ := repL_get (d := e y) (j := j) hr (by rw [List.getElem?_map, hj]; rfl)
    refine ⟨p, vs, i, v, e', rfl, .inl (.inl hp), ?_, k v rv⟩
    unfold atI
    rw [← hl, hx]
    exact hv
theorem rep_rg_mk {p : Addr} {a b : Int} (w : Wd ms ps cs H0 H) (np : H p = none) (e : Ret [] H H') (hp : H' p = some (.lst (rgV a b))) : rep ms H' (.lst ((rangeI a b).map fun n => D.v (.int n))) (.ref p) := by
  simp only [rep]
  refine ⟨p, rgV a b, rfl, fun z => w.tr p z np, hp, ?_⟩
  have e1 : (rangeI a b).map (fun n => D.v (.int n)) = (rgV a b).map D.v := by
    unfold rangeI rgV
    rw [List.map_map, List.map_map]
    rfl
  rw [e1]
  exact repL_flat.mpr rfl
end
/-! ranges of any size -/
theorem turn_long {P : Program} {w : World} {K : PySem.W.Frag} {tg : Expr} (it : Addr) (lo : Int) (n : Nat) : Turn P w K tg (Itr lo n) [it] it (fun i h => IsLongIter h it (lo + (i : Nat) * 1) ((n : Int) - (i : Nat)) 1) where
  mem := by simp
  obj := fun i h st b hb => by
    have e : b = it := by simpa using hb
    subst e
    exact ⟨_, st, fun v z => by
      have z' : Data.fields _ = Data.cell v := z
      cases z'⟩
  keep := fun i h h' st k => k it (by simp) _ st
  item := by
    intro X hP hw hK hc i pins s σ H E I hf st hg
    subst hP hw hK
    obtain ⟨f0, f1, f2, f3, f4, f5⟩ := hf it (by simp)
    have W := Walks.longrange (prog := X.prog) (w := X.w) (I.ok.hd hc) it lo 1 n
    refine W.item i s _ _ hg st fun v h' tk hv st' kk => ?_
    obtain ⟨t, rfl⟩ := hv
    have I1 : Inv X pins σ H { s with heap := h', toks := tk } := I.turned (fun b o hb e => kk b o (by simpa using hb) e) f0 f1 f3 f4 f5
    refine ⟨_, rfl, go_of (s := { s with heap := h', toks := tk }) (n := "longrange_iterator") st' rfl rfl (by decide) ⟨.int (lo + i), H, I1, ⟨t, ?_⟩, ⟨rfl, rfl⟩, st', fun b hb => (hf b hb).1⟩⟩
    rw [Int.mul_one]
  done := by
    intro X hP hw hK hc i pins s σ H E I hf st hg
    subst hP hw hK
    obtain ⟨f0, f1, f2, f3, f4, f5⟩ := hf it (by simp)
    exact wpAny_pyNext_long_end (I.ok.hd hc) st (by have : n ≤ i := hg; omega) fun h' eb => ⟨rfl, I.turned (t' := s.toks) (fun b o hb e => eb b o hb e) f0 f1 f3 f4 f5⟩
  self := fun _ _ _ _ _ st h => wpAny_pyIter_longiter st h
section
variable {X : Cx} {tg : Expr}
theorem range_itW {pins : List (Addr × Obj)} {σ : L2.St} {H : Hp} {s : Shared} {R : It → Hp → Prop} {E : Value → Shared → Prop} {lo hi : Int} {t u v : Tok} {tk : Nat} (I : Inv X pins σ H s)
    (q : R (Itr lo (hi - lo).toNat) H) : wpAny (model X.prog X.w) X.A (pyIter (.ref s.heap.objs.size)) (PIE X pins σ tg R) E { s with heap := s.heap.push { cls := .type "range", data := .fields #[.int lo t, .int hi u, .int 1 v] }, toks := tk } := by
  have I1 : Inv X pins σ H { s with heap := s.heap.push { cls := .type "range", data := .fields #[.int lo t, .int hi u, .int 1 v] }, toks := tk } := I.kept fun b o e => Heap.get?_push_of_some _ e
  have e1 : lo + ((0 : Nat) : Int) * 1 = lo := by simp
  have e2 : (((hi - lo).toNat : Nat) : Int) - ((0 : Nat) : Int) = Builtin.Range.rangeSize lo hi 1 := by rw [rangeSize_one]; split <;> omega
  cases hs : Builtin.Range.small lo hi 1 with
  | true =>
    refine wpAny_pyIter_range (IsRange.new ..) hs ?_
    refine ⟨(s.heap.push { cls := .type "range", data := .fields #[.int lo t, .int hi u, .int 1 v] }).objs.size, [(s.heap.push { cls := .type "range", data := .fields #[.int lo t, .int hi u, .int 1 v] }).objs.size], _, _, H, rfl,
      I1.kept (t' := tk) fun b o e => Heap.get?_push_of_some _ e, turn_range _ lo (hi - lo).toNat, ?_, fun b hb => ?_, q⟩
    · show IsRangeIter _ _ (lo + ((0 : Nat) : Int) * 1) ((((hi - lo).toNat : Nat) : Int) - ((0 : Nat) : Int)) 1
      rw [e1, e2]
      exact Heap.get?_push_size _ rfl
    · have e : b = (s.heap.push { cls := .type "range", data := .fields #[.int lo t, .int hi u, .int 1 v] }).objs.size := by simpa using hb
      subst e
      exact I1.fpOk (Nat.le_refl _) (I1.hok.fresh (Nat.le_refl _))
  | false =>
    refine wpAny_pyIter_longrange (IsRange.new ..) hs ?_
    refine ⟨(s.heap.push { cls := .type "range", data := .fields #[.int lo t, .int hi u, .int 1 v] }).objs.size, [(s.heap.push { cls := .type "range", data := .fields #[.int lo t, .int hi u, .int 1 v] }).objs.size], _, _, H, rfl,
      I1.kept (t' := tk) fun b o e => Heap.get?_push_of_some _ e, turn_long _ lo (hi - lo).toNat, ?_, fun b hb => ?_, q⟩
    · show IsLongIter _ _ (lo + ((0 : Nat) : Int) * 1) ((((hi - lo).toNat : Nat) : Int) - ((0 : Nat) : Int)) 1
      rw [e1, e2]
      exact Heap.get?_push_size _ rfl
    · have e : b = (s.heap.push { cls := .type "range", data := .fields #[.int lo t, .int hi u, .int 1 v] }).objs.size := by simpa using hb
      subst e
      exact I1.fpOk (Nat.le_refl _) (I1.hok.fresh (Nat.le_refl _))
def iRngW1 (ta : TA) : TI := fun σ H R => ta σ H fun vs H1 => ∃ j : Int, vs = [.int j] ∧ R (Itr 0 j.toNat) H1
def iRngW2 (ta : TA) : TI := fun σ H R => ta σ H fun vs H1 => ∃ i j : Int, vs = [.int i, .int j] ∧ R (Itr i (j - i).toNat) H1
theorem pi_rangeW1 {a : Expr} {ta : TA} {p pos : Pos} (hg : Gl X "range") (hm : X.mg "range" = none) (ha : PA X [a] ta) (hs : starEach [a] X.env = [(false, eval a X.env)] := by rfl) : PI X tg (.Call (.Name "range" p) [a] [] pos) (iRngW1 ta) := by
  refine ⟨fun pins s σ H R I h => ?_⟩
  refine Call_ (ld_blt I hg hm boot_range (PyProof.Rows.callWith_type1 (thn (ha.run pos pins s σ H _ I h) fun us s1 ⟨vs, H1, I1, r1, q1⟩ => ?_) hs rfl))
  obtain ⟨j, e, q⟩ := q1
  subst e
  cases r1 with
  | cons r rr =>
    cases rr
    obtain ⟨t, rfl⟩ := r
    exact call_range_1 (range_itW I1 (by simpa using q))
theorem pi_rangeW2 {a b : Expr} {ta : TA} {p pos : Pos} (hg : Gl X "range") (hm : X.mg "range" = none) (ha : PA X [a, b] ta) (hs : starEach [a, b] X.env = [(false, eval a X.env), (false, eval b X.env)] := by rfl) (hs2 : starEach [b] X.env = [(false, eval b X.env)] := by rfl) :
    PI X tg (.Call (.Name "range" p) [a, b] [] pos) (iRngW2 ta) := by
  refine ⟨fun pins s σ H R I h => ?_⟩
  refine Call_ (ld_blt I hg hm boot_range (PyProof.Rows.callWith_type1 (thn (ha.run pos pins s σ H _ I h) fun us s1 ⟨vs, H1, I1, r1, q1⟩ => ?_) (by rw [hs, hs2]) (by rw [hs2]; rfl)))
  obtain ⟨i, j, e, q⟩ := q1
  subst e
  cases r1 with
  | cons r rr =>
    cases rr with
    | cons r' rr =>
      cases rr
      obtain ⟨t, rfl⟩ := r
      obtain ⟨t', rfl⟩ := r'
      exact call_range_2 (range_itW I1 q)
end
end Rx
namespace Rx
open PySem PySem.Spec PyProof.Rows L2
/-- a def's promise, asked only where no text is under way -/
structure FnG (P : Program) (w : World) (K : PySem.W.Frag) (mg : Str → Option Value) (base : Heap) (k : Nat) (f : Addr) (fd : FuncData) (ps : List Str) (sp : Sp) : Prop where
  len : ∀ vs H Q E, sp vs H Q E → vs.length = ps.length
  run : ∀ (A : Around), A.guards = some [] → Room k A → ∀ (outer : List Env) (s : Shared) (H : Hp) (args : Args) (us : List Value) (vs : List V) (Q : VK) (E : XK), Env0 P w K mg base A outer s H → BindsTo s fd args (ps.zip us) → Vals vs us → sp vs H Q E →
    codeAny (model P w) A (.call (.ref f) args) (CR CX0 outer P w H s Q E) s
theorem FnG.of {P : Program} {w : World} {K : PySem.W.Frag} {mg : Str → Option Value} {base : Heap} {k : Nat} {f : Addr} {fd : FuncData} {ps : List Str} {sp : Sp} (F : FnOk P w K mg base CX0 k f fd ps sp) : FnG P w K mg base k f fd ps sp :=
  ⟨F.len, fun A _ hr outer s H args us vs Q E => F.run A outer s H args us vs Q E hr⟩
section
variable {X : Cx} {k : Nat} {f : Addr} {fd : FuncData} {ps : List Str} {sp : Sp} {x : Str} {e : Expr} {es : List Expr} {p pos : Pos} {t : TA}
theorem runG {pins : List (Addr × Obj)} {σ : L2.St} {H : Hp} {s : Shared} {Q : VK} {us : List Value} {vs : List V} (F : FnG X.prog X.w X.K X.mg X.base k f fd ps sp) (hg : X.A.guards = some []) (hr : Room k X.A) (hb : Binds X.K fd ps [])
    (I : Inv X pins σ H s) (r : Vals vs us) (h : sp vs H Q E0) : wpAny (model X.prog X.w) X.A (call (.ref f) us) (EP X pins σ Q) X.xe s := by
  have hl : us.length = ps.length := r.length.symm.trans (F.len _ _ _ _ h)
  have bt := hb s us I.kIn (by rw [List.append_nil]; exact hl)
  rw [List.append_nil] at bt
  refine wpAny_call (codeAny_mono (F.run X.A hg hr X.stack s H ⟨us, []⟩ us vs Q E0 I.env0 bt r h) fun out s' hq => ?_)
  rcases out with err | fl
  · exact pass0 pins σ H s err s' I hq
  · rcases fl with _ | _ | _ | u
    all_goals first | exact I.after hq | exact hq.elim
/-- f(e, ..) -/
theorem pe_callG (F : FnG X.prog X.w X.K X.mg X.base k f fd ps sp) (gu : X.A.guards = some []) (hr : Room k X.A) (hg : Gl X x) (hm : X.mg x = some (.ref f)) (hk : PySem.W.keepIn X.K (.ref f) = true) (hb : Binds X.K fd ps []) (ha : PA X (e :: es) t)
    (hdb : (x == ("__debug__" : Str)) = false := by decide) (he : starEach (e :: es) X.env = (false, eval e X.env) :: starEach es X.env := by rfl) (hpl : (backTo pos (starEach es X.env)).any (·.1) = false := by rfl) :
    PE X (.Call (.Name x p) (e :: es) [] pos) (tCall sp [] E0 t) :=
  ⟨fun pins s σ H Q I h => wpAny_Call_Name_kw (ld_glob I hg hm (PySem.W.callWith_K (h₀ := X.base) I.ok.mod.kin hk (thn (ha.run pos pins s σ H _ I h) fun us s1 ⟨vs, H1, I1, r, q⟩ => ⟨I1.kIn, runG F gu hr hb I1 r (by have q' : sp (vs ++ []) H1 Q E0 := q; rwa [List.append_nil] at q')⟩) he hpl) hdb)⟩
end
section
variable {P : Program} {w : World} {K : PySem.W.Frag} {mg : Str → Option Value} {base : Heap}
/-- a def whose body is read where no text is under way -/
theorem okG {x qual : Str} {st : Stmt} {f : Addr} {fd : FuncData} {N ps : List Str} {k : Nat} {sp : Sp} (F : Fun K x qual st f fd) (S : FnScope N ps (defScope st)) (len : ∀ vs H Q E, sp vs H Q E → vs.length = ps.length)
    (hbody : ∀ (cdv : Value) (A : Around) (outer : List Env) (s : Shared) (H : Hp) (vs : List V) (Q : VK) (E : XK), A.guards = some [] → Room k (A.deeper (envOfC qual (defScope st) s.heap.objs.size f cdv)) → sp vs H Q E →
      ∃ t, PSs (cxOf CX0 P w K mg base N qual (defScope st) f cdv A outer s H E).nox (defBody st) t ∧ t { nx := fun _ H' => Q .non H', rt := Q } (start N vs) H) : FnG P w K mg base (k + 1) f fd ps sp := by
  obtain ⟨oc, od, kV, doc, pm, an, cdv, ct, osl, rfl, lk, hcd⟩ := F.ex
  refine ⟨len, fun A gu hr outer s H args us vs Q E en bt rv hs => ?_⟩
  have inK : K.In s.heap := en.mod.kin.keeps fun b o h => (en.bs b o h).1
  have names : ∀ y ∈ ps.zip us, (defScope st).names.lookup y.1 = some .local ∨ ((defScope st).names.lookup y.1 = some .cell ∧ ((cellsFrom (s.heap.objs.size + 1) (defScope st).names []).lookup y.1).isSome = true) := by
    rintro ⟨n, v⟩ hy
    exact (S.par n (List.of_mem_zip hy).1).imp id fun q => ⟨q, PySem.W.cellsFrom_some _ _ _ (.inl q)⟩
  refine codeAny_call_function hr.depth (inK _ _ lk) rfl S.co S.gen rfl (PySem.W.codeRec_of inK hcd) (bt _ _ _ _ (wpAny_newFunctionEnv_cells S.kind names fun env he s1 inner => ?_))
  subst he
  refine ⟨(en.mod.nolimit.keeps fun b o h => (en.bs b o h).1).keeps inner.toInCall.keep, codeAny_func ?_⟩
  obtain ⟨t, ht, hq⟩ := hbody cdv A outer s H vs Q E gu (hr.deeper _) hs
  have start0 : Inv (cxOf CX0 P w K mg base N qual (defScope st) f cdv A outer s H E) [] (start N vs) H s1 := inv_start S hr.hd en (len _ _ _ _ hs) rv inner
  have leave : ∀ {σ' : L2.St} {H' : Hp} {v : V} {u : Value} {s' : Shared}, Inv (cxOf CX0 P w K mg base N qual (defScope st) f cdv A outer s H E) [] σ' H' s' → RelV v u → Q v H' → CE outer P w H s Q u s' :=
    fun {σ' H' v u s'} J r q => ⟨v, H', J.os, J.bare, J.base, J.hok, r, q⟩
  refine wpAny_mono (ht.nox.run [] s1 (start N vs) H _ start0 hq) (fun fl s' hs' => ?_) fun _ _ h => h
  rcases fl with _ | _ | _ | u
  · obtain ⟨σ', H', J, q⟩ := hs'
    exact leave (v := V.non) (u := Value.none) J rfl q
  · obtain ⟨_, _, _, q⟩ := hs'
    exact q.elim
  · obtain ⟨_, _, _, q⟩ := hs'
    exact q.elim
  · obtain ⟨v, σ', H', J, r, q⟩ := hs'
    exact leave J r q
end
/-! the law's own call, where nothing is under way -/
section
variable {P : Program} {w : World} {K : PySem.W.Frag} {mg mb : Str → Option Value} {k : Nat} {fa a : Addr} {fd : FuncData} {x : Str} {sp : Sp} {s1 : Shared} {vs : List Value} {ns : List Int}
abbrev EndG (h : Heap) (os : OsState) (r : Result) (s' : Shared) : Prop := r = .ok (.ret (.bool true)) ∧ OldK h s'.heap ∧ s'.os = os ∧ AllBare s'.gens
/-- from one abstract heap that tells the script alone, if at all -/
theorem callG_at (inK : K.In s1.heap) (top : s1.heap.Ns mainGlobals mg) (bl : s1.heap.Ns builtinsNs mb) (blb : ∀ x : Str, x ≠ "__name__" → mb x = bootBuiltins x) (nl : s1.heap.NoLimit) (ng : s1.gens = #[])
    (obj : s1.heap.get? a = some { cls := .type "list", data := .seq vs.toArray }) (hr : Room k callerA) (F : ∀ base : Heap, K.In base → base.Ns mainGlobals mg → FnG P w K mg base k fa fd [x] sp) (bind : ∀ (s : Shared) (u : Value), BindsTo s fd ⟨[u], []⟩ [(x, u)])
    {H : Hp} (only : Only H) (ok : HOk P w H s1.heap) (at_a : ∀ b, H b ≠ none → b = a) (own : H a ≠ none → K.lookup a = none) (q : sp [.ref a] H (fun v _ => v = .bl true) E0) :
    codeAny (model P w) callerA (.call (.ref fa) ⟨[.ref a], []⟩) (EndG s1.heap s1.os) s1 := by
  have told : ∀ b, H b = none ∨ b = a := fun b => (Classical.em (H b = none)).imp id (at_a b)
  have keepN : ∀ {b : Addr} {m : Str → Option Value}, s1.heap.Ns b m → (hidT s1.heap H).Ns b m := fun {b m} ⟨o, es, ep, e, d, r⟩ => ⟨o, es, ep, hidT_get e ((told b).elim id fun z => by
    subst z
    rw [obj] at e
    cases e
    cases (show Data.seq vs.toArray _ = Data.dict es ep from d)), d, r⟩
  have keepK : K.In (hidT s1.heap H) := fun b o e => hidT_get (inK b o e) ((told b).elim id fun z => by
    subst z
    exact Classical.byContradiction fun n => by
      rw [own n] at e
      cases e)
  have md : Mod K mg (hidT s1.heap H) := ⟨keepK, keepN top, ⟨mb, keepN bl, blb⟩, nl.imp fun _ h => ⟨keepN h.1, h.2⟩⟩
  have en : Env0 P w K mg (hidT s1.heap H) callerA [] s1 H := ⟨rfl, md, fun b o e => of_hidT e, Nat.le_of_eq (hidT_size _ _), trivial, fun b hb => (List.not_mem_nil hb).elim, ok, .of_eq ng⟩
  refine codeAny_mono ((F _ keepK (keepN top)).run callerA rfl hr [] s1 H ⟨[.ref a], []⟩ [.ref a] [.ref a] _ _ en (bind s1 (.ref a)) (.cons rfl .nil) q) fun r s' h => ?_
  rcases r with e | fl
  · exact (show False from h).elim
  · rcases fl with _ | _ | _ | u
    · exact (show False from h).elim
    · exact (show False from h).elim
    · exact (show False from h).elim
    · obtain ⟨v, H', os, bare, un, ok', rv, qv⟩ := h
      cases (show v = .bl true from qv)
      cases (show u = Value.bool true from rv)
      refine ⟨rfl, OldK.of_keep fun b o e => ?_, os, bare⟩
      rcases only b with z | ⟨ob, xs, z⟩
      · exact un.keep b o e z (List.not_mem_nil) (List.not_mem_nil)
      · have e1 := (ok b _ z).1
        have e2 := (ok' b _ (un.frzs b ob _ z)).1
        exact (Option.some.inj (e.symm.trans e1)) ▸ e2
theorem callG (inK : K.In s1.heap) (top : s1.heap.Ns mainGlobals mg) (bl : s1.heap.Ns builtinsNs mb) (blb : ∀ x : Str, x ≠ "__name__" → mb x = bootBuiltins x) (nl : s1.heap.NoLimit) (ng : s1.gens = #[])
    (obj : s1.heap.get? a = some { cls := .type "list", data := .seq vs.toArray }) (its0 : IntsAre vs ns) (small : ns.length ≤ sizeLine) (hr : Room k callerA) (F : ∀ base : Heap, K.In base → base.Ns mainGlobals mg → FnG P w K mg base k fa fd [x] sp)
    (bind : ∀ (s : Shared) (u : Value), BindsTo s fd ⟨[u], []⟩ [(x, u)]) (q : ∀ H : Hp, Only H → SqL K H a (ns.map V.int) → sp [.ref a] H (fun v _ => v = .bl true) E0) :
    codeAny (model P w) callerA (.call (.ref fa) ⟨[.ref a], []⟩) (EndG s1.heap s1.os) s1 := by
  have rv := vals_ints its0
  have lv := its0.length
  cases hk : K.lookup a with
  | some o =>
    have e := inK a o hk
    rw [obj] at e
    cases e
    have sq : SqL K (fun _ => none) a (ns.map V.int) := .inr ⟨_, vs.toArray, _, hk, rfl, rfl, rfl, by rw [List.size_toArray, lv]; exact small, by simpa using rv⟩
    exact callG_at inK top bl blb nl ng obj hr F bind (H := fun _ => none) (fun _ => .inl rfl) (fun b u z => nomatch (show (none : Option HO) = some u from z)) (fun b z => absurd rfl z) (fun z => absurd rfl z) (q _ (fun _ => .inl rfl) sq)
  | none =>
    generalize hH : (fun b => if b = a then some (HO.frz { cls := .type "list", data := .seq vs.toArray } (.lst (ns.map V.int))) else none : Hp) = H
    have here : H a = some (.frz { cls := .type "list", data := .seq vs.toArray } (.lst (ns.map V.int))) := by rw [← hH]; exact if_pos rfl
    have else_ : ∀ b, b ≠ a → H b = none := fun b n => by rw [← hH]; exact if_neg n
    have only : Only H := fun b => (Classical.em (b = a)).elim (fun e => .inr ⟨{ cls := .type "list", data := .seq vs.toArray }, ns.map V.int, by rw [e]; exact here⟩) fun n => .inl (else_ b n)
    refine callG_at inK top bl blb nl ng obj hr F bind only (fun b u z => ?_) (fun b z => Classical.byContradiction fun n => z (else_ b n)) (fun _ => hk) (q _ only (.inl (.inr ⟨_, here⟩)))
    by_cases e : b = a
    · subst e
      rw [here] at z
      cases z
      exact ⟨obj, by rw [List.length_map]; exact small, vs, _, rv, obj⟩
    · rw [else_ b e] at z
      cases z
end
/-- the goal behind the head of an open law, by a promise that may tell texts of lists -/
theorem walk_ofG {l : PySem.W.OpenLaw} {n k : Nat} {q : Program} {loose : List Str} {XP : (Str → Option Value) → Heap → Prop} {YP : World → Heap → Prop} {d : DefRec} {K : Params → PySem.W.Frag} {sp : World → Sp} {x : Str}
    (most : l.most = some n) (small : n ≤ sizeLine) (plain : d.params.defaults = []) (hr : Room k callerA) (inK : ∀ (w : World) (h : Heap), YP w h → (K w.params).In h)
    (F : ∀ (w : World) (mg : Str → Option Value) (fa : Addr) (h : Heap), (K w.params).In h → h.Ns mainGlobals mg → mg d.name = some (.ref fa) →
      ∃ fd : FuncData, (∀ (s : Shared) (u : Value), BindsTo s fd ⟨[u], []⟩ [(x, u)]) ∧ ∀ base : Heap, (K w.params).In base → base.Ns mainGlobals mg → FnG l.prog w (K w.params) mg base k fa fd [x] (sp w))
    (enter : ∀ (w : World) (H : Hp) (a : Addr) (ns : List Int), ns.length ≤ n → Only H → SqL (K w.params) H a (ns.map V.int) → sp w [.ref a] H (fun v _ => v = .bl true) E0) :
    PySem.W.WalkO q loose XP YP l.row.toRowW d [] (fun f vs => PySem.call f vs) := by
  refine Att.attach_call most plain fun w s₀ s₁ mg mb fa o pm cd doc a vs ns G Y ho hd hcd hmg obj its0 len ng => ?_
  obtain ⟨fd, bind, hF⟩ := F w mg fa _ (inK w _ Y) G.T.g hmg
  exact callG (inK w _ Y) G.T.g G.T.b G.T.builtins G.T.nolimit ng obj its0 (Nat.le_trans len small) hr hF bind fun H only sq => enter w H a ns len only sq
/-! repr of lists and tuples -/
def rReprD (K : PySem.W.Frag) : List V → Hp → VK → Prop := fun xs H Q => ∃ (a : Addr) (d : PyData), xs = [.ref a] ∧ Dp K H (.ref a) d ∧ d.showable = true ∧ d.hasDict = false ∧ d.depth ≤ 60 ∧ d.shown.length ≤ sizeLine ∧ Q (.str d.shown) H
theorem call_reprD {X : Cx} {k : Nat} (gu : X.A.guards = some []) (hr : Room k X.A) : CallR X (.builtin "repr") (rReprD X.K) := by
  intro pins s σ H xs us Q I r h
  obtain ⟨a, d, rfl, dp, sh, nd, dep, len, q⟩ := h
  obtain ⟨u, rfl, ru⟩ := r.one
  cases ru
  obtain ⟨as, rd⟩ := Dp.reads I d _ _ dp rfl
  have un := hr.un
  refine repr_of_reads' (h₀ := s.heap) rd sh (fun z => by rw [nd] at z; cases z) gu (by omega) (fun _ _ h => h) (fun h' u tk keep => ?_) len
  exact ⟨.str d.shown, H, I.kept keep, ⟨u, rfl⟩, q⟩
/-- repr of any plain data -/
def rReprA (K : PySem.W.Frag) : List V → Hp → VK → Prop := fun xs H Q => ∃ (x : V) (d : PyData), xs = [x] ∧ Dp K H x d ∧ d.showable = true ∧ d.hasDict = false ∧ d.depth ≤ 60 ∧ d.shown.length ≤ sizeLine ∧ Q (.str d.shown) H
theorem call_reprA {X : Cx} {k : Nat} (gu : X.A.guards = some []) (hr : Room k X.A) : CallR X (.builtin "repr") (rReprA X.K) := by
  intro pins s σ H xs us Q I r h
  obtain ⟨x, d, rfl, dp, sh, nd, dep, len, q⟩ := h
  have big : ∀ a, x = .ref a → wpAny (model X.prog X.w) X.A (call (.builtin "repr") us) (EP X pins σ Q) X.xe s := fun a e => by
    subst e
    exact call_reprD gu hr pins s σ H _ us Q I r ⟨a, d, rfl, dp, sh, nd, dep, len, q⟩
  cases dp with
  | non =>
    obtain ⟨u, rfl, ru⟩ := r.one
    cases (show u = Value.none from ru)
    exact P.repr_of_none ⟨.str PyData.none.shown, H, I.tok _, ⟨_, rfl⟩, q⟩
  | bl b =>
    obtain ⟨u, rfl, ru⟩ := r.one
    cases (show u = Value.bool b from ru)
    exact P.repr_of_bool ⟨.str (PyData.bool b).shown, H, I.tok _, ⟨_, rfl⟩, q⟩
  | int i =>
    obtain ⟨u, rfl, t, rfl⟩ := r.one
    exact P.repr_of_int (of_decide_eq_true sh) ⟨.str (PyData.int i).shown, H, I.tok _, ⟨_, rfl⟩, q⟩
  | str z =>
    obtain ⟨u, rfl, t, rfl⟩ := r.one
    exact P.repr_of_str ⟨.str (PyData.str z).shown, H, I.tok _, ⟨_, rfl⟩, q⟩ len
  | lst _ _ => exact big _ rfl
  | tup _ _ => exact big _ rfl
section
variable {K : PySem.W.Frag} {ms : List Addr} {H : Hp} {d : D} {x : V}
theorem rep_repr {P : PyData → Prop} (h : rep ms H d x) (p : plainD d = true) (sh : (pyOf d).showable = true) (nd : (pyOf d).hasDict = false) (dep : (pyOf d).depth ≤ 60) (len : (pyOf d).shown.length ≤ sizeLine) (q : P (pyOf d)) :
    ∃ (x' : V) (d : PyData), [x] = [x'] ∧ Dp K H x' d ∧ d.showable = true ∧ d.hasDict = false ∧ d.depth ≤ 60 ∧ d.shown.length ≤ sizeLine ∧ P d :=
  ⟨x, _, rfl, dp_of (K := K) d x p h, sh, nd, dep, len, q⟩
end
/-! [e for x in range(lo, hi) if test]; min and max of a list of ints -/
section
variable {β : Type} {K : PySem.W.Frag} {ms ps : List Addr} {cs : List (Addr × List V)} {H0 H1 : Hp} {g : TG} {tt : TT} {te : TE} {vl : List Nat} {σ : L2.St} {Qd : Hp → Prop}
theorem lf_rangeC {lo hi : Int} {N : Nat} {L : Addr} {eb : β → D} {body : Int → (Option β → Prop) → Prop} {KM : List β → Prop} (hN : N = (hi - lo).toNat) (w : Wd ms ps cs H0 H1) (nl : H1 L = none) (hM : (rangeI lo hi).length < 100000 ∧ filC body (rangeI lo hi) [] KM)
    (hs : ∀ (x : Int) (n : Nat) (ys : List β) (vs : List V) (k : Option β → Prop) (H : Hp), n < 100000 → Trn ms ps cs H0 H1 L eb n ys vs H → body x k → ∀ Nx : Hp → Prop,
        (∀ y vs' H', k (some y) → Trn ms ps cs H0 H1 L eb (n + 1) (ys ++ [y]) vs' H' → Nx H') → (∀ vs' H', k none → Trn ms ps cs H0 H1 L eb (n + 1) ys vs' H' → Nx H') →
      g (.int x) (wipe σ vl) H fun σ2 H2 => wipe σ2 vl = wipe σ vl ∧ tt σ2 H2 fun b H3 => if b = true then te σ2 H3 fun y H4 => ∃ acc, H4 L = some (.lst acc) ∧ acc.length < sizeLine ∧ Nx (upd H4 L (.lst (acc ++ [y]))) else Nx H3)
    (hd : ∀ ys H, KM ys → Wd ms ps cs H0 H → Keep ms H1 H → rep ms H (.lst (ys.map eb)) (.ref L) → Qd H) :
    ∃ W : Nat → Nat → Hp → Prop, (∃ m, W 0 m (upd H1 L (.lst []))) ∧ ∀ i m H, W i m H →
      ((Itr lo N).stop i H ∧ Qd H) ∨ ((Itr lo N).go i H ∧ ∃ Nx : Hp → Prop, (∀ H', Nx H' → ∃ m', m' < m ∧ W (i + 1) m' H') ∧ ∀ x H', (Itr lo N).yld i H x H' → g x (wipe σ vl) H' fun σ2 H2 => wipe σ2 vl = wipe σ vl ∧ tt σ2 H2 fun b H3 =>
        if b = true then te σ2 H3 fun y H4 => ∃ acc, H4 L = some (.lst acc) ∧ acc.length < sizeLine ∧ Nx (upd H4 L (.lst (acc ++ [y]))) else Nx H3) := by
  obtain ⟨hn, hM⟩ := hM
  subst hN
  rw [rangeI_len] at hn
  refine ⟨fun i m H => m = (hi - lo).toNat - i ∧ i ≤ (hi - lo).toNat ∧ ∃ ys vs, Trn ms ps cs H0 H1 L eb i ys vs H ∧ filC body ((rangeI lo hi).drop i) ys KM, ⟨_, rfl, Nat.zero_le _, [], [], Trn.start w nl, hM⟩, ?_⟩
  rintro i m H ⟨rfl, hi', ys, vs, T, q⟩
  by_cases hlt : i < (hi - lo).toNat
  · refine .inr ⟨hlt, fun H' => i + 1 ≤ (hi - lo).toNat ∧ ∃ ys vs, Trn ms ps cs H0 H1 L eb (i + 1) ys vs H' ∧ filC body ((rangeI lo hi).drop (i + 1)) ys KM, fun H' p' => ⟨_, by omega, rfl, p'⟩, fun x H' y => ?_⟩
    obtain ⟨e, y⟩ := y
    subst e y
    rw [drop_cons' (rangeI_get hlt)] at q
    exact hs _ i ys vs _ H' (by omega) T q _ (fun y vs' H' k T' => ⟨hlt, _, _, T', k⟩) fun vs' H' k T' => ⟨hlt, _, _, T', k⟩
  · have e : i = (hi - lo).toNat := by omega
    refine .inl ⟨by rw [e]; exact Nat.le_refl _, ?_⟩
    have q' : KM ys := by
      rw [List.drop_of_length_le (by rw [rangeI_len]; omega)] at q
      exact q
    obtain ⟨w', k', r'⟩ := T.done w nl
    exact hd ys H q' w' k' r'
variable {x : V} {H : Hp}
theorem rep_minL {ns : List Int} {P : List Int → Prop} (h : rep ms H (.lst (ns.map fun n => D.v (.int n))) x) (ne : 0 < ns.length) (q : P ns) :
    ∃ (a : Addr) (ns : List Int), [x] = [V.ref a] ∧ SqL K H a (ns.map V.int) ∧ 0 < ns.length ∧ P ns := by
  simp only [rep] at h
  obtain ⟨p, vs, e, _, hp, hr⟩ := h
  have ev := repL_ints hr
  subst ev e
  exact ⟨p, ns, rfl, .inl (.inl hp), ne, q⟩
end
/-! repr and str of own instances, by the class's own def -/
def rOwnText (C : Addr) (sp : Sp) (E : XK) : List V → Hp → VK → Prop := fun xs H Q => ∃ (x : V) (a dx : Addr) (fs : List (Str × V)), xs = [x] ∧ x = .ref a ∧ H a = some (.ins C dx fs) ∧ sp [x] H (fun v H' => ∃ z : Str, v = .str z ∧ Q v H') E
structure OwnText (K : PySem.W.Frag) (C : Addr) (name : Str) (f : Addr) : Prop where
  hs : PySem.W.findIn K (.ref C) name = some (some (.ref f))
  hf : PySem.W.isFn K (.ref f) = true
section
variable {X : Cx} {n : Nat} {CX : CXT} {C f : Addr} {fd : FuncData} {ps : List Str} {sp : Sp} {E : XK}
theorem ownText_run (F : FnOk X.prog X.w X.K X.mg X.base CX n f fd ps sp) {A : Around} (hr : Room n A) (hb : Binds X.K fd ps []) (hx : Passes CX X E) {pins : List (Addr × Obj)} {σ : L2.St} {H : Hp} {s : Shared} {a : Addr} {Q : VK} (I : Inv X pins σ H s)
    (en : Env0 X.prog X.w X.K X.mg X.base A X.stack s H) (h : sp [.ref a] H (fun v H' => ∃ z : Str, v = .str z ∧ Q v H') E) : wpAny (model X.prog X.w) A (call (.ref f) [.ref a]) (PySem.W.StrBack (EP X pins σ Q)) X.xe s := by
  have hl := F.len _ _ _ _ h
  have bt := hb s [.ref a] I.kIn (by rw [List.append_nil]; exact hl)
  rw [List.append_nil] at bt
  refine wpAny_call (codeAny_mono (F.run A X.stack s H ⟨[.ref a], []⟩ [.ref a] [.ref a] _ E hr en bt (.cons rfl .nil) h) fun out s' hq => ?_)
  rcases out with err | fl
  · exact hx pins σ H s err s' I hq
  · rcases fl with _ | _ | _ | u
    · exact hq.elim
    · exact hq.elim
    · exact hq.elim
    · obtain ⟨v, H', I', rv, z, ez, q⟩ := I.after hq
      subst ez
      obtain ⟨t, rfl⟩ := rv
      exact ⟨.str z, H', I', ⟨t, rfl⟩, q⟩
theorem call_reprOwn (F : FnOk X.prog X.w X.K X.mg X.base CX n f fd ps sp) (hr : Room (n + 1) X.A) (o : OwnText X.K C "__repr__" f) (hb : Binds X.K fd ps []) (hx : Passes CX X E) : CallR X (.builtin "repr") (rOwnText C sp E) := by
  intro pins s σ H xs us Q I r h
  obtain ⟨x, a, dx, fs, rfl, rfl, ha, hsp⟩ := h
  obtain ⟨u, rfl, ru⟩ := r.one
  cases ru
  obtain ⟨mA, J, _⟩ := ins_get I.hok ha
  obtain ⟨od, J, _⟩ := J.look
  obtain ⟨m, hF⟩ := I.fr
  exact PySem.W.repr_K hr.in1.units0 hF I.ok.mod.kin J o.hs o.hf (ownText_run F hr.in1 hb hx I I.env0.in1 hsp)
theorem call_strOwn (F : FnOk X.prog X.w X.K X.mg X.base CX n f fd ps sp) (hr : Room (n + 2) X.A) (o : OwnText X.K C "__str__" f) (hb : Binds X.K fd ps []) (hx : Passes CX X E) : CallR X (.type "str") (rOwnText C sp E) := by
  intro pins s σ H xs us Q I r h
  obtain ⟨x, a, dx, fs, rfl, rfl, ha, hsp⟩ := h
  obtain ⟨u, rfl, ru⟩ := r.one
  cases ru
  obtain ⟨mA, J, _⟩ := ins_get I.hok ha
  obtain ⟨od, J, _⟩ := J.look
  exact PySem.W.kso_call hr.in1.in1.units0 I.kIn J o.hs o.hf (ownText_run F hr.in1.in1 hb hx I I.env0.in1.in1 hsp)
end
theorem rep_ownText {ms : List Addr} {H : Hp} {C : Addr} {ns : List Str} {ds : List D} {u : V} {P : V → Prop} (h : rep ms H (.ins C ns ds) u) (k : P u) :
    ∃ (x : V) (a dx : Addr) (fs : List (Str × V)), [u] = [x] ∧ x = .ref a ∧ H a = some (.ins C dx fs) ∧ P x := by
  obtain ⟨p, dx, fs, e, hp⟩ := rep_ins h
  exact ⟨u, p, dx, fs, rfl, e, hp, k⟩
/-! results that may be None -/
def encO {α : Type} (e : α → D) : Option α → D
  | none => .v .non
  | some y => e y
theorem rep_isN {α : Type} {e : α → D} {ms : List Addr} {H : Hp} {m : Option α} {u : V} (he : ∀ y, ∃ ds, e y = .tup ds) (h : rep ms H (encO e m) u) : decide (u = .non) = m.isNone := by
  cases m with
  | none =>
    rw [of_v h]
    rfl
  | some y =>
    obtain ⟨ds, ed⟩ := he y
    have h' : rep ms H (e y) u := h
    rw [ed] at h'
    simp only [rep] at h'
    obtain ⟨p, _, e1, _⟩ := h'
    rw [e1]
    rfl
theorem rep_isSome {α : Type} {e : α → D} {ms : List Addr} {H : Hp} {m : Option α} {u : V} (he : ∀ y, ∃ ds, e y = .tup ds) (h : rep ms H (encO e m) u) : (!decide (u = .non)) = m.isSome := by
  rw [rep_isN he h]
  cases m <;> rfl
theorem rep_some {α : Type} {e : α → D} {ms : List Addr} {H : Hp} {m : Option α} {u : V} {y : α} (hy : m = some y) (h : rep ms H (encO e m) u) : rep ms H (e y) u := by
  subst hy
  exact h
/-! a def called by keywords alone -/
def tCallKw (n : Nat) (gV : List V → List V → List V) (sp : Sp) (E : XK) (tk : TA) : TE := fun σ H Q => tk σ H fun zs H1 => zs.length = n ∧ sp (gV [] zs) H1 Q E
theorem pe_callKw {X : Cx} {CX : CXT} {k : Nat} {f : Addr} {fd : FuncData} {ps ks : List Str} {sp : Sp} {E : XK} {x : Str} {p pos : Pos} {kws : List Keyword} {tk : TA} {g : List Value → List Value → List Value} {gV : List V → List V → List V}
    (F : FnOk X.prog X.w X.K X.mg X.base CX k f fd ps sp) (hr : Room k X.A) (hg : Gl X x) (hm : X.mg x = some (.ref f)) (hk : PySem.W.keepIn X.K (.ref f) = true) (hb : KBn X.K fd ps 0 ks g gV) (hx : Passes CX X E) (hkw : PK X kws tk)
    (hall : (backToKw pos (keywordEach kws X.env)).all (·.1.isSome) = true := by rfl) (hks : (backToKw pos (keywordEach kws X.env)).filterMap (·.1) = ks := by rfl) (hdb : (x == ("__debug__" : Str)) = false := by decide)
    (hpl : ((backTo pos (starEach [] X.env)).any (·.1) || (backToKw pos (keywordEach kws X.env)).any (·.1.isNone)) = false := by rfl) : PE X (.Call (.Name x p) [] kws pos) (tCallKw ks.length gV sp E tk) :=
  ⟨fun pins s σ H Q I h => wpAny_Call_Name_kw (ld_glob I hg hm (PySem.W.callWith_KW0 (first := []) (h₀ := X.base) I.ok.mod.kin hk hall (thn (hkw.run pos pins s σ H _ I h) fun ws s2 ⟨zs, H2, I2, rz, l2, q2⟩ => ⟨I2.kIn, by
    rw [hks]
    exact run_fnN (us := []) (vs := []) F hr hb hx I2 .nil rz rfl l2 q2⟩) hpl) hdb)⟩
end Rx
namespace Rx
open PySem PySem.Spec PyProof.Rows L2
section
variable {K : PySem.W.Frag} {ms ps : List Addr} {cs : List (Addr × List V)} {H0 H H1 H' : Hp} {x : V} {ds : List D}
theorem wd_none {p : Addr} (w : Wd ms ps cs H0 H) (np : H p = none) : H0 p = none := by
  cases q : H0 p with
  | none => rfl
  | some o => exact absurd np (w.grow p (by rw [q]; exact fun z => nomatch z))
def rLstOf (K : PySem.W.Frag) : List V → Hp → VK → Prop := fun xs H Q => ∃ p ys, xs = [.ref p] ∧ (SqL K H p ys ∨ SqT K H p ys) ∧ ∀ l, H l = none → Q (.ref l) (upd H l (.lst ys))
theorem rep_listT {P : List V → Prop} (h : rep ms H (.tup ds) x) (k : ∀ ys, repL ms H ds ys → P ys) :
    ∃ p ys, [x] = [.ref p] ∧ (SqL K H p ys ∨ SqT K H p ys) ∧ P ys := by
  simp only [rep] at h
  obtain ⟨p, vs, rfl, _, hp, hr⟩ := h
  exact ⟨p, vs, rfl, .inr (.inl (.inl hp)), k vs hr⟩
theorem rep_listL {P : List V → Prop} (h : rep ms H (.lst ds) x) (k : ∀ ys, repL ms H ds ys → P ys) :
    ∃ p ys, [x] = [.ref p] ∧ (SqL K H p ys ∨ SqT K H p ys) ∧ P ys := by
  simp only [rep] at h
  obtain ⟨p, vs, rfl, _, hp, hr⟩ := h
  exact ⟨p, vs, rfl, .inl (.inl (.inl hp)), k vs hr⟩
mutual
theorem rep_noL {L : Addr} {vs vs' : List V} (hL : H L = some (.lst vs)) : ∀ (d : D) (u : V), noL d = true → rep ms H d u → rep ms (upd H L (.lst vs')) d u
  | .v x, u, _, h => by
    simp only [rep] at h ⊢
    exact h
  | .lst ds, u, n, h => by
    simp only [noL] at n
    cases n
  | .tup ds, u, n, h => by
    simp only [noL] at n
    simp only [rep] at h ⊢
    obtain ⟨p, us, e, np, hp, hl⟩ := h
    refine ⟨p, us, e, np, ?_, repL_noL hL ds us n hl⟩
    rw [upd_ne (fun z => by rw [z, hL] at hp; cases hp)]
    exact hp
  | .ins C ns ds, u, n, h => by
    simp only [noL] at n
    simp only [rep] at h ⊢
    obtain ⟨p, dx, us, e, np, hp, hn, hl⟩ := h
    refine ⟨p, dx, us, e, np, ?_, hn, repL_noL hL ds us n hl⟩
    rw [upd_ne (fun z => by rw [z, hL] at hp; cases hp)]
    exact hp
  | .dct ks ds, u, n, h => by
    simp only [noL] at n
    simp only [rep] at h ⊢
    obtain ⟨p, us, e, np, hp, hn, hl⟩ := h
    refine ⟨p, us, e, np, ?_, hn, repL_noL hL ds us n hl⟩
    rw [upd_ne (fun z => by rw [z, hL] at hp; cases hp)]
    exact hp
theorem repL_noL {L : Addr} {vs vs' : List V} (hL : H L = some (.lst vs)) : ∀ (ds : List D) (us : List V), noLs ds = true → repL ms H ds us → repL ms (upd H L (.lst vs')) ds us
  | [], us, _, h => by
    simp only [repL] at h ⊢
    exact h
  | d :: ds, us, n, h => by
    simp only [noLs, Bool.and_eq_true] at n
    simp only [repL] at h ⊢
    obtain ⟨u, ws, e, h1, h2⟩ := h
    exact ⟨u, ws, e, rep_noL hL d u n.1 h1, repL_noL hL ds ws n.2 h2⟩
end
theorem noLs_map {α : Type} {e : α → D} (hn : ∀ x, noL (e x) = true) : ∀ xs : List α, noLs (xs.map e) = true
  | [] => rfl
  | x :: xs => by
    show (noL (e x) && noLs (xs.map e)) = true
    rw [hn x, noLs_map hn xs]
    rfl
theorem repL_set {α : Type} {e : α → D} {y : α} {v : V} : ∀ {xs : List α} {vs : List V} (j : Nat), repL ms H (xs.map e) vs → rep ms H (e y) v → repL ms H ((xs.set j y).map e) (vs.set j v)
  | [], vs, j, h, r => by
    have ev : vs = [] := by
      simp only [List.map_nil, repL] at h
      exact h
    subst ev
    simpa using h
  | x :: xs, vs, 0, h, r => by
    simp only [List.map_cons, repL] at h
    obtain ⟨u, us, rfl, h1, h2⟩ := h
    exact repL_cons r h2
  | x :: xs, vs, j + 1, h, r => by
    simp only [List.map_cons, repL] at h
    obtain ⟨u, us, rfl, h1, h2⟩ := h
    exact repL_cons h1 (repL_set j h2 r)
/-- L, a list of this def's own, may be told anew -/
theorem wd_own {L : Addr} {vs vs' : List V} (w : Wd ms ps cs H0 H) (nm : L ∉ ms) (hL : H L = some (.lst vs)) (o : H0 L = none) : Wd ms ps cs H0 (upd H L (.lst vs')) := by
  refine ⟨fun a o' n h => ?_, fun a h => ?_, fun m h => ?_, fun a h => ?_, w.pm, fun c h => ?_⟩
  · rw [upd_ne (ne_of_none h o)]
    exact w.kp a o' n h
  · by_cases e : a = L
    · rw [e, upd_same]
      exact fun z => nomatch z
    · rw [upd_ne e]
      exact w.grow a h
  · rw [upd_ne (fun z => nm (by rw [← z]; exact h))]
    exact w.tr m h
  · obtain ⟨i, j, h1, h3⟩ := w.pot a h
    exact ⟨i, j, by rw [upd_ne (fun z => nm (by rw [← z]; exact w.pm a h))]; exact h1, h3⟩
  · obtain ⟨h1, h3, h4, h5⟩ := w.cel c h
    exact ⟨by rw [upd_ne (fun z => nm (by rw [← z]; exact h3))]; exact h1, h3, h4, h5⟩
theorem rep_setL {α : Type} {e : α → D} {xs : List α} {y : α} {k : Int} {v : V} {L : Addr} {Q : Hp → Prop} (w : Wd ms ps cs H0 H) (h : rep ms H (.lst (xs.map e)) (.ref L)) (o : H0 L = none) (hn : ∀ x, noL (e x) = true)
    (h0 : 0 ≤ k) (hj : k.toNat < xs.length) (r : rep ms H (e y) v)
    (kk : ∀ H', Wd ms ps cs H0 H' → rep ms H' (.lst ((xs.set k.toNat y).map e)) (.ref L) → (∀ d u, noL d = true → rep ms H d u → rep ms H' d u) → Q H') : rSetL (.ref L) (.int k) v H Q := by
  simp only [rep] at h
  obtain ⟨p, vs, e1, np, hp, hr⟩ := h
  cases e1
  have hl := repL_len hr
  rw [List.length_map] at hl
  refine ⟨L, vs, k, k.toNat, rfl, rfl, hp, ?_, kk _ (wd_own w np hp o) ?_ fun d u n h => rep_noL hp d u n h⟩
  · unfold ixN
    rw [if_pos h0, if_pos (by omega)]
  · simp only [rep]
    exact ⟨L, _, rfl, np, upd_same, repL_set _ (repL_noL hp _ _ (noLs_map hn xs) hr) (rep_noL hp _ _ (hn y) r)⟩
end

/-! rules whose reading names the frame itself (within a comprehension its context is not known to the reading) -/
section
variable {X : Cx} {K : PySem.W.Frag}
theorem ix_listK (hK : X.K = K) : IxR X (rIxL K) := by
  subst hK
  exact ix_list
theorem ix_tupK (hK : X.K = K) : IxR X (rIxT K) := by
  subst hK
  exact ix_tup
end
end Rx
namespace Rx
open PySem PySem.Spec PyProof.Rows L2
section
variable {K : PySem.W.Frag} {ms ms' ps : List Addr} {H0 H H' H1 : Hp} {L L' : Addr} {d d' : D} {ds : List D} {u x : V} {vs : List V}
/-- what stands at L -/
def valO (ms : List Addr) (H : Hp) (L : Addr) : D → Prop
  | .lst ds => ∃ vs, H L = some (.lst vs) ∧ repL ms H ds vs
  | .dct ks ds => ∃ vs, H L = some (.dK (ks.zip vs)) ∧ ks.length = vs.length ∧ repL ms H ds vs
  | _ => False
theorem valO_map (f : ∀ p o, p ∉ ms → H p = some o → p ∉ ms' ∧ H' p = some o) (g : ∀ o, H L = some o → H' L = some o) : ∀ d : D, valO ms H L d → valO ms' H' L d
  | .lst ds, ⟨vs, h1, h2⟩ => ⟨vs, g _ h1, repL_map f ds vs h2⟩
  | .dct ks ds, ⟨vs, h1, h2, h3⟩ => ⟨vs, g _ h1, h2, repL_map f ds vs h3⟩
  | .v _, h => h
  | .tup _, h => h
  | .ins _ _ _, h => h
structure MutO (ms ps : List Addr) (H0 H : Hp) (L : Addr) (d : D) : Prop where
  im : L ∈ ms
  hp : L ∉ ps
  h0 : H0 L = none
  val : valO ms H L d
theorem MutO.some (m : MutO ms ps H0 H L d) : ∃ o, H L = some o := by
  have h := m.val
  cases d with
  | lst ds => exact ⟨_, h.choose_spec.1⟩
  | dct ks ds => exact ⟨_, h.choose_spec.1⟩
  | v _ => exact h.elim
  | tup _ => exact h.elim
  | ins _ _ _ => exact h.elim
theorem mo_ret (w : Wd ms ps [] H0 H) (e : Ret ps H H') (m : MutO ms ps H0 H L d) : MutO ms ps H0 H' L d :=
  ⟨m.im, m.hp, m.h0, valO_map (fun p o n hp => ⟨n, e.kp p o (fun z => n (w.pm p z)) hp⟩) (fun o h => e.kp L o m.hp h) d m.val⟩
theorem mo_ext (e : Ret [] H H') (m : MutO ms ps H0 H L d) : MutO ms ps H0 H' L d :=
  ⟨m.im, m.hp, m.h0, valO_map (fun p o n hp => ⟨n, e.kp p o (by simp) hp⟩) (fun o h => e.kp L o (by simp) h) d m.val⟩
theorem mo_ne (nl : H L = none) (m : MutO ms ps H0 H L' d) : L' ≠ L := fun z => by
  obtain ⟨o, h⟩ := m.some
  rw [z, nl] at h
  cases h
theorem mo_cell {o : HO} (nl : H L = none) (m : MutO ms ps H0 H L' d) : MutO (L :: ms) ps H0 (upd H L o) L' d :=
  ⟨List.mem_cons_of_mem _ m.im, m.hp, m.h0, valO_map (fun p o n hp => ⟨fun z => by
    rcases List.mem_cons.mp z with z | z
    · exact ne_of_none hp nl z
    · exact n z, by rw [upd_ne (ne_of_none hp nl)]; exact hp⟩) (fun o h => by rw [upd_ne (mo_ne nl m)]; exact h) d m.val⟩
theorem mo_put {o : HO} (lm : L ∈ ms) (ne : L' ≠ L) (m : MutO ms ps H0 H L' d) : MutO ms ps H0 (upd H L o) L' d :=
  ⟨m.im, m.hp, m.h0, valO_map (fun p o n hp => ⟨n, by rw [upd_ne (fun z => n (by rw [z]; exact lm))]; exact hp⟩) (fun o h => by rw [upd_ne ne]; exact h) d m.val⟩
theorem mo_sub (s : ∀ a ∈ ms', a ∈ ms) (i : L ∈ ms') (m : MutO ms ps H0 H L d) : MutO ms' ps H0 H L d :=
  ⟨i, m.hp, m.h0, valO_map (fun p o n hp => ⟨fun z => n (s p z), hp⟩) (fun o h => h) d m.val⟩
theorem rep_sub (s : ∀ a ∈ ms', a ∈ ms) (h : rep ms H d u) : rep ms' H d u := rep_map (fun p o n hp => ⟨fun z => n (s p z), hp⟩) d u h
theorem wd_sub (s : ∀ a ∈ ms', a ∈ ms) (hp : ∀ a ∈ ps, a ∈ ms') (w : Wd ms ps [] H0 H) : Wd ms' ps [] H0 H :=
  ⟨w.kp, w.grow, fun m h => w.tr m (s m h), w.pot, hp, fun _ h => absurd h List.not_mem_nil⟩
theorem keep_sub (h : ∀ a ∈ ms, a ∈ ms' ∨ H1 a = none) (k : Keep ms H1 H) : Keep ms' H1 H := fun a o n e => k a o (fun z => by
  rcases h a z with z | z
  · exact n z
  · rw [z] at e
    cases e) e
theorem mo_rep (n : L ∉ ms') (s : ∀ a ∈ ms', a ∈ ms) (m : MutO ms ps H0 H L d) : rep ms' H d (.ref L) := by
  have h := m.val
  cases d with
  | lst ds =>
    obtain ⟨vs, h1, h2⟩ := h
    simp only [rep]
    exact ⟨L, vs, rfl, n, h1, repL_map (fun p o n hp => ⟨fun z => n (s p z), hp⟩) ds vs h2⟩
  | dct ks ds =>
    obtain ⟨vs, h1, h2, h3⟩ := h
    simp only [rep]
    exact ⟨L, vs, rfl, n, h1, h2, repL_map (fun p o n hp => ⟨fun z => n (s p z), hp⟩) ds vs h3⟩
  | v _ => exact h.elim
  | tup _ => exact h.elim
  | ins _ _ _ => exact h.elim
/-- a new thing of one's own -/
theorem wd_cell {o : HO} (w : Wd ms ps [] H0 H) (nl : H L = none) : Wd (L :: ms) ps [] H0 (upd H L o) := by
  have w1 := w.ret0 (Ext.new (o := o) nl)
  refine ⟨w1.kp, w1.grow, fun m h => ?_, w1.pot, fun a h => List.mem_cons_of_mem _ (w.pm a h), fun _ h => absurd h List.not_mem_nil⟩
  rcases List.mem_cons.mp h with rfl | h
  · rw [upd_same]
    exact fun z => nomatch z
  · exact w1.tr m h
theorem pot_new (w : Wd ms ps [] H0 H) (nl : H L = none) : L ∉ ps := fun z => by
  obtain ⟨i, j, h, _⟩ := w.pot L z
  rw [nl] at h
  cases h
theorem nm_new (w : Wd ms ps [] H0 H) (nl : H L = none) : L ∉ ms := fun z => w.tr L z nl
theorem mo_newL (w : Wd ms ps [] H0 H) (nl : H L = none) (r : repL ms H ds vs) : MutO (L :: ms) ps H0 (upd H L (.lst vs)) L (.lst ds) :=
  ⟨List.mem_cons_self, pot_new w nl, wd_none w nl, vs, upd_same, repL_map (fun p o n hp => ⟨fun z => by
    rcases List.mem_cons.mp z with z | z
    · exact ne_of_none hp nl z
    · exact n z, by rw [upd_ne (ne_of_none hp nl)]; exact hp⟩) _ _ r⟩
theorem mo_newD {ks : List Key} (w : Wd ms ps [] H0 H) (nl : H L = none) (hl : ks.length = vs.length) (r : repL ms H ds vs) : MutO (L :: ms) ps H0 (upd H L (.dK (ks.zip vs))) L (.dct ks ds) :=
  ⟨List.mem_cons_self, pot_new w nl, wd_none w nl, vs, upd_same, hl, repL_map (fun p o n hp => ⟨fun z => by
    rcases List.mem_cons.mp z with z | z
    · exact ne_of_none hp nl z
    · exact n z, by rw [upd_ne (ne_of_none hp nl)]; exact hp⟩) _ _ r⟩
/-- told anew -/
theorem wd_put {o : HO} (w : Wd ms ps [] H0 H) (m : MutO ms ps H0 H L d) : Wd ms ps [] H0 (upd H L o) := by
  refine ⟨fun a o' n h => ?_, fun a h => ?_, fun a h => ?_, fun a h => ?_, w.pm, fun _ h => absurd h List.not_mem_nil⟩
  · rw [upd_ne (ne_of_none h m.h0)]
    exact w.kp a o' n h
  · by_cases e : a = L
    · rw [e, upd_same]
      exact fun z => nomatch z
    · rw [upd_ne e]
      exact w.grow a h
  · by_cases e : a = L
    · rw [e, upd_same]
      exact fun z => nomatch z
    · rw [upd_ne e]
      exact w.tr a h
  · obtain ⟨i, j, h1, h3⟩ := w.pot a h
    exact ⟨i, j, by rw [upd_ne (fun z => m.hp (by rw [← z]; exact h))]; exact h1, h3⟩
theorem mo_setL (m : MutO ms ps H0 H L d) (r : repL ms H ds vs) : MutO ms ps H0 (upd H L (.lst vs)) L (.lst ds) :=
  ⟨m.im, m.hp, m.h0, vs, upd_same, repL_put m.im r⟩
theorem mo_appU {P : Addr → List V → V → Prop} (m : MutO ms ps H0 H L (.lst ds)) (hl : ds.length < 16777216) (k : ∀ vs, repL ms H ds vs → P L vs u) :
    ∃ (l : Addr) (xs : List V) (y : V), V.ref L = .ref l ∧ [u] = [y] ∧ H l = some (.lst xs) ∧ xs.length < sizeLine ∧ P l xs y := by
  obtain ⟨vs, h1, h2⟩ := m.val
  refine ⟨L, vs, u, rfl, rfl, h1, ?_, k vs h2⟩
  rw [← repL_len h2, sizeLine_eq]
  exact hl
theorem mo_tyL (m : MutO ms ps H0 H L (.lst ds)) : tyV K "list" (.ref L) H := by
  obtain ⟨vs, h1, h2⟩ := m.val
  exact .inl ⟨rfl, vs, .inl (.inl h1)⟩
theorem mo_setU {α : Type} {e : α → D} {xs : List α} {k : Int} {v : V} {Q : Hp → Prop} (m : MutO ms ps H0 H L (.lst (xs.map e))) (h0 : 0 ≤ k) (hj : k.toNat < xs.length)
    (kk : ∀ vs, repL ms H (xs.map e) vs → Q (upd H L (.lst (vs.set k.toNat v)))) : rSetL (.ref L) (.int k) v H Q := by
  obtain ⟨vs, h1, h2⟩ := m.val
  have hl := repL_len h2
  rw [List.length_map] at hl
  refine ⟨L, vs, k, k.toNat, rfl, rfl, h1, ?_, kk vs h2⟩
  unfold ixN
  rw [if_pos h0, if_pos (by omega)]
/-- a list of one's own, as the comprehension's end wants it -/
theorem mo_end {n : Nat} {Nx : Hp → Prop} (m : MutO ms ps H0 H L (.lst ds)) (hn : n < 100000) (hy : ds.length ≤ n) (h : ∀ vs, repL ms H ds vs → Nx (upd H L (.lst (vs ++ [u])))) :
    ∃ acc, H L = some (.lst acc) ∧ acc.length < sizeLine ∧ Nx (upd H L (.lst (acc ++ [u]))) := by
  obtain ⟨vs, h1, h2⟩ := m.val
  refine ⟨vs, h1, ?_, h vs h2⟩
  have q := repL_len h2
  have e : sizeLine = 16777216 := sizeLine_eq
  omega
theorem repL_snoc {α : Type} {e : α → D} {xs : List α} {y : α} (r : repL ms H (xs.map e) vs) (h : rep ms H (e y) u) : repL ms H ((xs ++ [y]).map e) (vs ++ [u]) := by
  rw [List.map_append]
  exact repL_app r (repL_one h)
theorem repL_cat {α : Type} {e : α → D} {xs ys : List α} {us : List V} (r : repL ms H (xs.map e) vs) (h : repL ms H (ys.map e) us) : repL ms H ((xs ++ ys).map e) (vs ++ us) := by
  rw [List.map_append]
  exact repL_app r h
end

/-! loops by any invariant -/
section
variable {α S : Type} {K : PySem.W.Frag} {H1 : Hp} {g : TG} {tb : TS} {D' : Ends} {σ : L2.St}
theorem for_rangeG {lo hi : Int} {N : Nat} {body : Int → S → (S → Prop) → Prop} {KM : S → Prop} (SI : S → L2.St → Hp → Prop) (s0 : S) (hN : N = (hi - lo).toNat) (hM : forC body (rangeI lo hi) s0 KM) (h0 : SI s0 σ H1)
    (hs : ∀ (x : Int) (s : S) (k : S → Prop) (σ : L2.St) (H : Hp), SI s σ H → body x s k → ∀ Nx : L2.St → Hp → Prop, (∀ s' σ' H', k s' → SI s' σ' H' → Nx σ' H') →
      g (.int x) σ H fun σ2 H2 => tb { D' with nx := Nx, ct := Nx, bk := D'.nx } σ2 H2)
    (hd : ∀ s σ H, KM s → SI s σ H → D'.nx σ H) :
    ∃ W : Nat → Nat → L2.St → Hp → Prop, (∃ m, W 0 m σ H1) ∧ ∀ i m σ H, W i m σ H →
      ((Itr lo N).stop i H ∧ D'.nx σ H) ∨ ((Itr lo N).go i H ∧ ∃ Nx : L2.St → Hp → Prop, (∀ σ' H', Nx σ' H' → ∃ m', m' < m ∧ W (i + 1) m' σ' H') ∧ ∀ x H', (Itr lo N).yld i H x H' → g x σ H' fun σ2 H2 => tb { D' with nx := Nx, ct := Nx, bk := D'.nx } σ2 H2) := by
  subst hN
  refine for_range (lo := lo) (n := (hi - lo).toNat) (D := D') (fun i σ H => ∃ s, SI s σ H ∧ forC body ((rangeI lo hi).drop i) s KM) ⟨s0, h0, hM⟩ (fun i σ H hi' ⟨s, si, q⟩ => ?_) (fun σ H ⟨s, si, q⟩ => ?_)
  · rw [drop_cons' (rangeI_get hi')] at q
    exact hs _ s _ σ H si q _ fun s' σ' H' hk si2 => ⟨s', si2, hk⟩
  · rw [List.drop_of_length_le (by rw [rangeI_len]; exact Nat.le_refl _)] at q
    exact hd s σ H q si
theorem for_listG {items : List α} {e : α → D} {ms : List Addr} {a : Addr} {xs : List V} {body : α → S → (S → Prop) → Prop} {KM : S → Prop} (SI : S → L2.St → Hp → Prop) (s0 : S) (an : a ∉ ms) (ha : H1 a = some (.lst xs)) (hx : repL ms H1 (items.map e) xs)
    (kp : ∀ s σ H, SI s σ H → Keep ms H1 H) (hM : forC body items s0 KM) (h0 : SI s0 σ H1)
    (hs : ∀ (x : α) (u : V) (s : S) (k : S → Prop) (σ : L2.St) (H : Hp), SI s σ H → rep ms H (e x) u → body x s k → ∀ Nx : L2.St → Hp → Prop, (∀ s' σ' H', k s' → SI s' σ' H' → Nx σ' H') →
      g u σ H fun σ2 H2 => tb { D' with nx := Nx, ct := Nx, bk := D'.nx } σ2 H2)
    (hd : ∀ s σ H, KM s → SI s σ H → D'.nx σ H) :
    ∃ W : Nat → Nat → L2.St → Hp → Prop, (∃ m, W 0 m σ H1) ∧ ∀ i m σ H, W i m σ H →
      ((Itl K a).stop i H ∧ D'.nx σ H) ∨ ((Itl K a).go i H ∧ ∃ Nx : L2.St → Hp → Prop, (∀ σ' H', Nx σ' H' → ∃ m', m' < m ∧ W (i + 1) m' σ' H') ∧ ∀ x H', (Itl K a).yld i H x H' → g x σ H' fun σ2 H2 => tb { D' with nx := Nx, ct := Nx, bk := D'.nx } σ2 H2) := by
  have hl : items.length = xs.length := by
    have := repL_len hx
    rwa [List.length_map] at this
  refine for_list (xs := xs) (D := D') (fun i σ H => ∃ s, SI s σ H ∧ forC body (items.drop i) s KM) ⟨s0, h0, hM⟩ (fun i σ H _ ⟨s, si, _⟩ => .inl (.inl (kp s σ H si a _ an ha))) (fun i x σ H hx' ⟨s, si, q⟩ => ?_) (fun σ H ⟨s, si, q⟩ => ?_)
  · have hi : i < xs.length := (List.getElem?_eq_some_iff.mp hx').1
    have hit : items[i]? = some (items[i]'(by omega)) := List.getElem?_eq_getElem (by omega)
    rw [drop_cons' hit] at q
    obtain ⟨v, hv, rv⟩ := repL_get (repL_keep (kp s σ H si) hx) (j := i) (d := e (items[i]'(by omega))) (by rw [List.getElem?_map, hit]; rfl)
    rw [hx'] at hv
    have ev : x = v := Option.some.inj hv
    subst ev
    exact hs _ x s _ σ H si rv q _ fun s' σ' H' hk si2 => ⟨s', si2, hk⟩
  · rw [List.drop_of_length_le (by omega)] at q
    exact hd s σ H q si
theorem while_G {c : TT} {fuel : Nat} {body : S → (S → Prop) → (S → Prop) → Prop} {KM : S → Prop} (SI : S → L2.St → Hp → Prop) (s0 : S) (hM : whileC body fuel s0 KM) (h0 : SI s0 σ H1)
    (hs : ∀ (s : S) (k1 k2 : S → Prop) (σ : L2.St) (H : Hp), SI s σ H → body s k1 k2 → ∀ (Nx : L2.St → Hp → Prop) (Ex : L2.St → Hp → Prop), (∀ s' σ' H', k1 s' → SI s' σ' H' → Nx σ' H') → (∀ s' σ' H', k2 s' → SI s' σ' H' → Ex σ' H') →
      c σ H fun b H1 => if b = true then tb { D' with nx := Nx, ct := Nx, bk := D'.nx } σ H1 else Ex σ H1)
    (hd : ∀ s σ H, KM s → SI s σ H → D'.nx σ H)
    (mono : ∀ σ H Q Q', (∀ b H1, Q b H1 → Q' b H1) → c σ H Q → c σ H Q') : tWhile c tb D' σ H1 := by
  refine ⟨fun m σ H => ∃ s, SI s σ H ∧ whileC body m s KM, ⟨fuel, s0, h0, hM⟩, ?_⟩
  rintro m σ H ⟨s, si, q⟩
  cases m with
  | zero => exact False.elim q
  | succ m =>
    refine mono _ _ _ _ (fun b H2 hb => ?_) (hs s _ _ σ H si q (fun σ' H' => ∃ s, SI s σ' H' ∧ whileC body m s KM) D'.nx (fun s' σ' H' hk si2 => ⟨s', si2, hk⟩) fun s' σ' H' hk si2 => hd s' σ' H' hk si2)
    cases b with
    | true => exact ⟨_, fun σ' H' p => ⟨m, Nat.lt_succ_self m, p⟩, hb⟩
    | false => exact hb
end

/-! comprehensions by any invariant -/
section
variable {α β : Type} {K : PySem.W.Frag} {H1 H2 : Hp} {g : TG} {tt : TT} {te : TE} {vl : List Nat} {σ : L2.St} {Qd : Hp → Prop} {L : Addr}
/-- one turn -/
abbrev Turn (g : TG) (tt : TT) (te : TE) (vl : List Nat) (σ : L2.St) (L : Addr) (u : V) (H : Hp) (Nx : Hp → Prop) : Prop :=
  g u (wipe σ vl) H fun σ2 H2 => wipe σ2 vl = wipe σ vl ∧ tt σ2 H2 fun b H3 => if b = true then te σ2 H3 fun y H4 => ∃ acc, H4 L = some (.lst acc) ∧ acc.length < sizeLine ∧ Nx (upd H4 L (.lst (acc ++ [y]))) else Nx H3
theorem lc_rangeG {lo hi : Int} {N : Nat} {body : Int → (β → Prop) → Prop} {KM : List β → Prop} (SI : Nat → List β → Hp → Prop) (hN : N = (hi - lo).toNat) (hM : (rangeI lo hi).length < 100000 ∧ mapC body (rangeI lo hi) [] KM) (h0 : SI 0 [] (upd H1 L (.lst [])))
    (hs : ∀ (x : Int) (n : Nat) (ys : List β) (k : β → Prop) (H : Hp), n < 100000 → SI n ys H → body x k → ∀ Nx : Hp → Prop, (∀ y H', k y → SI (n + 1) (ys ++ [y]) H' → Nx H') → Turn g tt te vl σ L (.int x) H Nx)
    (hd : ∀ n ys H, KM ys → SI n ys H → Qd H) :
    ∃ W : Nat → Nat → Hp → Prop, (∃ m, W 0 m (upd H1 L (.lst []))) ∧ ∀ i m H, W i m H →
      ((Itr lo N).stop i H ∧ Qd H) ∨ ((Itr lo N).go i H ∧ ∃ Nx : Hp → Prop, (∀ H', Nx H' → ∃ m', m' < m ∧ W (i + 1) m' H') ∧ ∀ x H', (Itr lo N).yld i H x H' → g x (wipe σ vl) H' fun σ2 H2 => wipe σ2 vl = wipe σ vl ∧ tt σ2 H2 fun b H3 =>
        if b = true then te σ2 H3 fun y H4 => ∃ acc, H4 L = some (.lst acc) ∧ acc.length < sizeLine ∧ Nx (upd H4 L (.lst (acc ++ [y]))) else Nx H3) := by
  obtain ⟨hn, hM⟩ := hM
  subst hN
  rw [rangeI_len] at hn
  refine ⟨fun i m H => m = (hi - lo).toNat - i ∧ i ≤ (hi - lo).toNat ∧ ∃ ys, SI i ys H ∧ mapC body ((rangeI lo hi).drop i) ys KM, ⟨_, rfl, Nat.zero_le _, [], h0, hM⟩, ?_⟩
  rintro i m H ⟨rfl, hi', ys, T, q⟩
  by_cases hlt : i < (hi - lo).toNat
  · refine .inr ⟨hlt, fun H' => i + 1 ≤ (hi - lo).toNat ∧ ∃ ys, SI (i + 1) ys H' ∧ mapC body ((rangeI lo hi).drop (i + 1)) ys KM, fun H' p' => ⟨_, by omega, rfl, p'⟩, fun x H' y => ?_⟩
    obtain ⟨e, y⟩ := y
    subst e y
    rw [drop_cons' (rangeI_get hlt)] at q
    exact hs _ i ys _ H' (by omega) T q _ fun y H' k T' => ⟨hlt, _, T', k⟩
  · have e : i = (hi - lo).toNat := by omega
    refine .inl ⟨by rw [e]; exact Nat.le_refl _, ?_⟩
    rw [List.drop_of_length_le (by rw [rangeI_len]; omega)] at q
    exact hd _ ys H q T
theorem lf_rangeG {lo hi : Int} {N : Nat} {body : Int → (Option β → Prop) → Prop} {KM : List β → Prop} (SI : Nat → List β → Hp → Prop) (hN : N = (hi - lo).toNat) (hM : (rangeI lo hi).length < 100000 ∧ filC body (rangeI lo hi) [] KM) (h0 : SI 0 [] (upd H1 L (.lst [])))
    (hs : ∀ (x : Int) (n : Nat) (ys : List β) (k : Option β → Prop) (H : Hp), n < 100000 → SI n ys H → body x k → ∀ Nx : Hp → Prop, (∀ y H', k (some y) → SI (n + 1) (ys ++ [y]) H' → Nx H') → (∀ H', k none → SI (n + 1) ys H' → Nx H') → Turn g tt te vl σ L (.int x) H Nx)
    (hd : ∀ n ys H, KM ys → SI n ys H → Qd H) :
    ∃ W : Nat → Nat → Hp → Prop, (∃ m, W 0 m (upd H1 L (.lst []))) ∧ ∀ i m H, W i m H →
      ((Itr lo N).stop i H ∧ Qd H) ∨ ((Itr lo N).go i H ∧ ∃ Nx : Hp → Prop, (∀ H', Nx H' → ∃ m', m' < m ∧ W (i + 1) m' H') ∧ ∀ x H', (Itr lo N).yld i H x H' → g x (wipe σ vl) H' fun σ2 H2 => wipe σ2 vl = wipe σ vl ∧ tt σ2 H2 fun b H3 =>
        if b = true then te σ2 H3 fun y H4 => ∃ acc, H4 L = some (.lst acc) ∧ acc.length < sizeLine ∧ Nx (upd H4 L (.lst (acc ++ [y]))) else Nx H3) := by
  obtain ⟨hn, hM⟩ := hM
  subst hN
  rw [rangeI_len] at hn
  refine ⟨fun i m H => m = (hi - lo).toNat - i ∧ i ≤ (hi - lo).toNat ∧ ∃ ys, SI i ys H ∧ filC body ((rangeI lo hi).drop i) ys KM, ⟨_, rfl, Nat.zero_le _, [], h0, hM⟩, ?_⟩
  rintro i m H ⟨rfl, hi', ys, T, q⟩
  by_cases hlt : i < (hi - lo).toNat
  · refine .inr ⟨hlt, fun H' => i + 1 ≤ (hi - lo).toNat ∧ ∃ ys, SI (i + 1) ys H' ∧ filC body ((rangeI lo hi).drop (i + 1)) ys KM, fun H' p' => ⟨_, by omega, rfl, p'⟩, fun x H' y => ?_⟩
    obtain ⟨e, y⟩ := y
    subst e y
    rw [drop_cons' (rangeI_get hlt)] at q
    exact hs _ i ys _ H' (by omega) T q _ (fun y H' k T' => ⟨hlt, _, T', k⟩) fun H' k T' => ⟨hlt, _, T', k⟩
  · have e : i = (hi - lo).toNat := by omega
    refine .inl ⟨by rw [e]; exact Nat.le_refl _, ?_⟩
    rw [List.drop_of_length_le (by rw [rangeI_len]; omega)] at q
    exact hd _ ys H q T
theorem lc_strG {z : Str} {body : Str → (β → Prop) → Prop} {KM : List β → Prop} (SI : Nat → List β → Hp → Prop) (hM : (signs z).length < 100000 ∧ mapC body (signs z) [] KM) (h0 : SI 0 [] (upd H1 L (.lst [])))
    (hs : ∀ (x : Str) (n : Nat) (ys : List β) (k : β → Prop) (H : Hp), n < 100000 → SI n ys H → body x k → ∀ Nx : Hp → Prop, (∀ y H', k y → SI (n + 1) (ys ++ [y]) H' → Nx H') → Turn g tt te vl σ L (.str x) H Nx)
    (hd : ∀ n ys H, KM ys → SI n ys H → Qd H) :
    ∃ W : Nat → Nat → Hp → Prop, (∃ m, W 0 m (upd H1 L (.lst []))) ∧ ∀ i m H, W i m H →
      ((Its z).stop i H ∧ Qd H) ∨ ((Its z).go i H ∧ ∃ Nx : Hp → Prop, (∀ H', Nx H' → ∃ m', m' < m ∧ W (i + 1) m' H') ∧ ∀ x H', (Its z).yld i H x H' → g x (wipe σ vl) H' fun σ2 H2 => wipe σ2 vl = wipe σ vl ∧ tt σ2 H2 fun b H3 =>
        if b = true then te σ2 H3 fun y H4 => ∃ acc, H4 L = some (.lst acc) ∧ acc.length < sizeLine ∧ Nx (upd H4 L (.lst (acc ++ [y]))) else Nx H3) := by
  obtain ⟨hn, hM⟩ := hM
  rw [signs_len] at hn
  refine ⟨fun i m H => m = z.cps.size - i ∧ i ≤ z.cps.size ∧ ∃ ys, SI i ys H ∧ mapC body ((signs z).drop i) ys KM, ⟨_, rfl, Nat.zero_le _, [], h0, hM⟩, ?_⟩
  rintro i m H ⟨rfl, hi', ys, T, q⟩
  by_cases hlt : i < z.cps.size
  · refine .inr ⟨hlt, fun H' => i + 1 ≤ z.cps.size ∧ ∃ ys, SI (i + 1) ys H' ∧ mapC body ((signs z).drop (i + 1)) ys KM, fun H' p' => ⟨_, by omega, rfl, p'⟩, fun x H' y => ?_⟩
    obtain ⟨e, c, hc, y⟩ := y
    subst e y
    rw [drop_cons' (signs_get hc)] at q
    exact hs _ i ys _ H' (by omega) T q _ fun y H' k T' => ⟨hlt, _, T', k⟩
  · have e : i = z.cps.size := by omega
    refine .inl ⟨by rw [e]; exact Nat.le_refl _, ?_⟩
    rw [List.drop_of_length_le (by rw [signs_len]; omega)] at q
    exact hd _ ys H q T
/-- over a list; the items stand outside what changes -/
theorem lc_listG {items : List α} {e : α → D} {ms : List Addr} {a : Addr} {xs : List V} {body : α → (β → Prop) → Prop} {KM : List β → Prop} (SI : Nat → List β → Hp → Prop) (an : a ∉ ms) (ha : H1 a = some (.lst xs)) (hx : repL ms H1 (items.map e) xs) (nl : H1 L = none)
    (kp : ∀ n ys H, SI n ys H → Keep (L :: ms) H1 H) (hM : items.length < 100000 ∧ mapC body items [] KM) (h0 : SI 0 [] (upd H1 L (.lst [])))
    (hs : ∀ (x : α) (u : V) (n : Nat) (ys : List β) (k : β → Prop) (H : Hp), n < 100000 → SI n ys H → rep (L :: ms) H (e x) u → body x k → ∀ Nx : Hp → Prop, (∀ y H', k y → SI (n + 1) (ys ++ [y]) H' → Nx H') → Turn g tt te vl σ L u H Nx)
    (hd : ∀ n ys H, KM ys → SI n ys H → Qd H) :
    ∃ W : Nat → Nat → Hp → Prop, (∃ m, W 0 m (upd H1 L (.lst []))) ∧ ∀ i m H, W i m H →
      ((Itl K a).stop i H ∧ Qd H) ∨ ((Itl K a).go i H ∧ ∃ Nx : Hp → Prop, (∀ H', Nx H' → ∃ m', m' < m ∧ W (i + 1) m' H') ∧ ∀ x H', (Itl K a).yld i H x H' → g x (wipe σ vl) H' fun σ2 H2 => wipe σ2 vl = wipe σ vl ∧ tt σ2 H2 fun b H3 =>
        if b = true then te σ2 H3 fun y H4 => ∃ acc, H4 L = some (.lst acc) ∧ acc.length < sizeLine ∧ Nx (upd H4 L (.lst (acc ++ [y]))) else Nx H3) := by
  obtain ⟨hn, hM⟩ := hM
  have hl : items.length = xs.length := by
    have := repL_len hx
    rwa [List.length_map] at this
  have aM : a ∉ L :: ms := fun z => by
    rcases List.mem_cons.mp z with z | z
    · exact ne_of_none ha nl z
    · exact an z
  have hx1 : repL (L :: ms) H1 (items.map e) xs := repL_new nl hx
  refine ⟨fun i m H => m = xs.length - i ∧ i ≤ xs.length ∧ ∃ ys, SI i ys H ∧ mapC body (items.drop i) ys KM, ⟨_, rfl, Nat.zero_le _, [], h0, hM⟩, ?_⟩
  rintro i m H ⟨rfl, hi', ys, T, q⟩
  have hA : H a = some (.lst xs) := kp i ys H T a _ aM ha
  by_cases hlt : i < xs.length
  · refine .inr ⟨⟨xs, xs[i], .inl (.inl hA), by simp [hlt]⟩, fun H' => i + 1 ≤ xs.length ∧ ∃ ys, SI (i + 1) ys H' ∧ mapC body (items.drop (i + 1)) ys KM, fun H' p' => ⟨_, by omega, rfl, p'⟩, fun x H' y => ?_⟩
    obtain ⟨e1, y⟩ := y
    subst e1
    have hxi := y xs (.inl (.inl hA))
    have hit : items[i]? = some (items[i]'(by omega)) := List.getElem?_eq_getElem (by omega)
    rw [drop_cons' hit] at q
    obtain ⟨v, hv, rv⟩ := repL_get (repL_keep (kp i ys H' T) hx1) (j := i) (d := e (items[i]'(by omega))) (by rw [List.getElem?_map, hit]; rfl)
    rw [hxi] at hv
    have ev : x = v := Option.some.inj hv
    subst ev
    exact hs _ x i ys _ H' (by omega) T rv q _ fun y H'' k T' => ⟨hlt, _, T', k⟩
  · refine .inl ⟨⟨xs, .inl (.inl hA), by omega⟩, ?_⟩
    rw [List.drop_of_length_le (by omega)] at q
    exact hd _ ys H q T
theorem lf_listG {items : List α} {e : α → D} {ms : List Addr} {a : Addr} {xs : List V} {body : α → (Option β → Prop) → Prop} {KM : List β → Prop} (SI : Nat → List β → Hp → Prop) (an : a ∉ ms) (ha : H1 a = some (.lst xs)) (hx : repL ms H1 (items.map e) xs) (nl : H1 L = none)
    (kp : ∀ n ys H, SI n ys H → Keep (L :: ms) H1 H) (hM : items.length < 100000 ∧ filC body items [] KM) (h0 : SI 0 [] (upd H1 L (.lst [])))
    (hs : ∀ (x : α) (u : V) (n : Nat) (ys : List β) (k : Option β → Prop) (H : Hp), n < 100000 → SI n ys H → rep (L :: ms) H (e x) u → body x k → ∀ Nx : Hp → Prop, (∀ y H', k (some y) → SI (n + 1) (ys ++ [y]) H' → Nx H') → (∀ H', k none → SI (n + 1) ys H' → Nx H') → Turn g tt te vl σ L u H Nx)
    (hd : ∀ n ys H, KM ys → SI n ys H → Qd H) :
    ∃ W : Nat → Nat → Hp → Prop, (∃ m, W 0 m (upd H1 L (.lst []))) ∧ ∀ i m H, W i m H →
      ((Itl K a).stop i H ∧ Qd H) ∨ ((Itl K a).go i H ∧ ∃ Nx : Hp → Prop, (∀ H', Nx H' → ∃ m', m' < m ∧ W (i + 1) m' H') ∧ ∀ x H', (Itl K a).yld i H x H' → g x (wipe σ vl) H' fun σ2 H2 => wipe σ2 vl = wipe σ vl ∧ tt σ2 H2 fun b H3 =>
        if b = true then te σ2 H3 fun y H4 => ∃ acc, H4 L = some (.lst acc) ∧ acc.length < sizeLine ∧ Nx (upd H4 L (.lst (acc ++ [y]))) else Nx H3) := by
  obtain ⟨hn, hM⟩ := hM
  have hl : items.length = xs.length := by
    have := repL_len hx
    rwa [List.length_map] at this
  have aM : a ∉ L :: ms := fun z => by
    rcases List.mem_cons.mp z with z | z
    · exact ne_of_none ha nl z
    · exact an z
  have hx1 : repL (L :: ms) H1 (items.map e) xs := repL_new nl hx
  refine ⟨fun i m H => m = xs.length - i ∧ i ≤ xs.length ∧ ∃ ys, SI i ys H ∧ filC body (items.drop i) ys KM, ⟨_, rfl, Nat.zero_le _, [], h0, hM⟩, ?_⟩
  rintro i m H ⟨rfl, hi', ys, T, q⟩
  have hA : H a = some (.lst xs) := kp i ys H T a _ aM ha
  by_cases hlt : i < xs.length
  · refine .inr ⟨⟨xs, xs[i], .inl (.inl hA), by simp [hlt]⟩, fun H' => i + 1 ≤ xs.length ∧ ∃ ys, SI (i + 1) ys H' ∧ filC body (items.drop (i + 1)) ys KM, fun H' p' => ⟨_, by omega, rfl, p'⟩, fun x H' y => ?_⟩
    obtain ⟨e1, y⟩ := y
    subst e1
    have hxi := y xs (.inl (.inl hA))
    have hit : items[i]? = some (items[i]'(by omega)) := List.getElem?_eq_getElem (by omega)
    rw [drop_cons' hit] at q
    obtain ⟨v, hv, rv⟩ := repL_get (repL_keep (kp i ys H' T) hx1) (j := i) (d := e (items[i]'(by omega))) (by rw [List.getElem?_map, hit]; rfl)
    rw [hxi] at hv
    have ev : x = v := Option.some.inj hv
    subst ev
    exact hs _ x i ys _ H' (by omega) T rv q _ (fun y H'' k T' => ⟨hlt, _, T', k⟩) fun H'' k T' => ⟨hlt, _, T', k⟩
  · refine .inl ⟨⟨xs, .inl (.inl hA), by omega⟩, ?_⟩
    rw [List.drop_of_length_le (by omega)] at q
    exact hd _ ys H q T
end
end Rx
namespace Rx
open PySem PySem.Spec PyProof.Rows L2
/-! a thing of one's own is let go -/
structure Drop (ms : List Addr) (L : Addr) (ms' : List Addr) : Prop where
  sub : ∀ a ∈ ms', a ∈ ms
  ex : ∀ a ∈ ms, a ∈ ms' ∨ a = L
theorem dr_here {L : Addr} {ms : List Addr} : Drop (L :: ms) L ms := ⟨fun _ h => List.mem_cons_of_mem _ h, fun a h => (List.mem_cons.mp h).elim .inr .inl⟩
theorem dr_cons {L x : Addr} {ms ms' : List Addr} (d : Drop ms L ms') : Drop (x :: ms) L (x :: ms') :=
  ⟨fun a h => (List.mem_cons.mp h).elim (fun e => by rw [e]; exact List.mem_cons_self) fun h => List.mem_cons_of_mem _ (d.sub a h), fun a h => (List.mem_cons.mp h).elim (fun e => .inl (by rw [e]; exact List.mem_cons_self)) fun h => (d.ex a h).imp (List.mem_cons_of_mem _) id⟩
theorem nm_cons {L x : Addr} {ms : List Addr} (ne : L ≠ x) (n : L ∉ ms) : L ∉ x :: ms := fun z => (List.mem_cons.mp z).elim ne n
section
variable {K : PySem.W.Frag} {ms ms' ps : List Addr} {H0 H H' H1 : Hp} {L L' : Addr} {d d' : D} {ds : List D} {u x : V} {vs : List V}
theorem nm_dr (dr : Drop ms L ms') (n : L' ∉ ms) : L' ∉ ms' := fun z => n (dr.sub _ z)
theorem keep_dr (dr : Drop ms L ms') (n : H1 L = none) (k : Keep ms H1 H) : Keep ms' H1 H := fun a o na e => k a o (fun z => by
  rcases dr.ex a z with z | z
  · exact na z
  · rw [z, n] at e
    cases e) e
theorem wd_dr (dr : Drop ms L ms') (hp : L ∉ ps) (w : Wd ms ps [] H0 H) : Wd ms' ps [] H0 H := wd_sub dr.sub (fun a h => (dr.ex a (w.pm a h)).elim id fun e => absurd (by rw [← e]; exact h) hp) w
theorem rep_dr (dr : Drop ms L ms') (h : rep ms H d u) : rep ms' H d u := rep_sub dr.sub h
theorem repL_dr (dr : Drop ms L ms') (h : repL ms H ds vs) : repL ms' H ds vs := repL_map (fun p o n hp => ⟨fun z => n (dr.sub p z), hp⟩) ds vs h
theorem mo_dr (dr : Drop ms L ms') (ne : L' ≠ L) (m : MutO ms ps H0 H L' d) : MutO ms' ps H0 H L' d := mo_sub dr.sub ((dr.ex _ m.im).elim id fun e => absurd e ne) m
theorem mo_rep_dr (dr : Drop ms L ms') (n : L ∉ ms') (m : MutO ms ps H0 H L d) : rep ms' H d (.ref L) := mo_rep n dr.sub m
mutual
def noM : D → Bool
  | .v _ => true
  | .lst _ => false
  | .tup ds => noMs ds
  | .ins _ _ ds => noMs ds
  | .dct _ _ => false
def noMs : List D → Bool
  | [] => true
  | d :: ds => noM d && noMs ds
end
def isMo : Option HO → Prop
  | some (.lst _) => True
  | some (.dK _) => True
  | _ => False
theorem MutO.isMo (m : MutO ms ps H0 H L d) : isMo (H L) := by
  have h := m.val
  cases d with
  | lst ds =>
    rw [h.choose_spec.1]
    trivial
  | dct ks ds =>
    rw [h.choose_spec.1]
    trivial
  | v _ => exact h.elim
  | tup _ => exact h.elim
  | ins _ _ _ => exact h.elim
mutual
theorem rep_liftO (dr : Drop ms L ms') (hL : Rx.isMo (H L)) : ∀ (d : D) (u : V), noM d = true → rep ms' H d u → rep ms H d u
  | .v x, u, _, h => by
    simp only [rep] at h ⊢
    exact h
  | .lst ds, u, n, h => by
    simp only [noM] at n
    cases n
  | .dct _ ds, u, n, h => by
    simp only [noM] at n
    cases n
  | .tup ds, u, n, h => by
    simp only [noM] at n
    simp only [rep] at h ⊢
    obtain ⟨p, us, e, np, hp, hl⟩ := h
    refine ⟨p, us, e, fun z => ?_, hp, repL_liftO dr hL ds us n hl⟩
    rcases dr.ex p z with z | z
    · exact np z
    · rw [← z, hp] at hL
      exact hL
  | .ins C ns ds, u, n, h => by
    simp only [noM] at n
    simp only [rep] at h ⊢
    obtain ⟨p, dx, us, e, np, hp, hn, hl⟩ := h
    refine ⟨p, dx, us, e, fun z => ?_, hp, hn, repL_liftO dr hL ds us n hl⟩
    rcases dr.ex p z with z | z
    · exact np z
    · rw [← z, hp] at hL
      exact hL
theorem repL_liftO (dr : Drop ms L ms') (hL : Rx.isMo (H L)) : ∀ (ds : List D) (us : List V), noMs ds = true → repL ms' H ds us → repL ms H ds us
  | [], us, _, h => by
    simp only [repL] at h ⊢
    exact h
  | d :: ds, us, n, h => by
    simp only [noMs, Bool.and_eq_true] at n
    simp only [repL] at h ⊢
    obtain ⟨u, ws, e, h1, h2⟩ := h
    exact ⟨u, ws, e, rep_liftO dr hL d u n.1 h1, repL_liftO dr hL ds ws n.2 h2⟩
end
theorem mo_ixN {α : Type} {e : α → D} {xs : List α} {i : Int} {y : α} {Q : VK} (m : MutO ms ps H0 H L (.lst (xs.map e))) (hi : atI xs i = some y) (k : ∀ v, rep ms H (e y) v → Q v H) : rIxL K (.ref L) (.int i) H Q := by
  obtain ⟨vs, hp, hr⟩ := m.val
  have hl := repL_len hr
  rw [List.length_map] at hl
  unfold atI at hi
  cases hx : ixN xs.length i with
  | none =>
    rw [hx] at hi
    cases hi
  | some j =>
    rw [hx] at hi
    have hi' : xs[j]? = some y := hi
    obtain ⟨v, hv, rv⟩ := repL_get (d := e y) hr (by rw [List.getElem?_map, hi']; rfl)
    refine ⟨L, vs, i, v, rfl, rfl, .inl (.inl hp), ?_, k v rv⟩
    unfold atI
    rw [← hl, hx]
    exact hv
theorem mo_len {α : Type} {e : α → D} {xs : List α} {P : Nat → Prop} (m : MutO ms ps H0 H L (.lst (xs.map e))) (k : P xs.length) : ∃ y n, [V.ref L] = [y] ∧ LenV K y H n ∧ P n := by
  obtain ⟨vs, hp, hr⟩ := m.val
  have hl := repL_len hr
  rw [List.length_map] at hl
  exact ⟨_, xs.length, rfl, .inl ⟨vs, .inl (.inl hp), hl⟩, k⟩
end
end Rx
namespace Rx
open PySem PySem.Spec PyProof.Rows L2
section
variable {K : PySem.W.Frag} {ms ms' ps : List Addr} {H0 H H' H1 : Hp} {L L' : Addr} {d d' : D} {ds : List D} {u x : V} {vs : List V}
theorem mo_extU {α : Type} {e : α → D} {ys : List α} {P : Addr → List V → List V → Prop} (m : MutO ms ps H0 H L (.lst ds)) (h : rep ms H (.lst (ys.map e)) x) (hl : ds.length + ys.length ≤ 16777216) (k : ∀ vs us, repL ms H ds vs → repL ms H (ys.map e) us → P L vs us) :
    ∃ (l b : Addr) (xs zs : List V), V.ref L = .ref l ∧ [x] = [.ref b] ∧ H l = some (.lst xs) ∧ H b = some (.lst zs) ∧ xs.length + zs.length ≤ sizeLine ∧ P l xs zs := by
  obtain ⟨vs, h1, h2⟩ := m.val
  simp only [rep] at h
  obtain ⟨p, us, rfl, _, hp, hr⟩ := h
  have a := repL_len h2
  have b := repL_len hr
  rw [List.length_map] at b
  refine ⟨L, p, vs, us, rfl, rfl, h1, hp, ?_, k vs us h2 hr⟩
  rw [sizeLine_eq]
  omega
theorem repL_erase {α : Type} {e : α → D} : ∀ {xs : List α} {vs : List V} (k : Nat), repL ms H (xs.map e) vs → repL ms H ((xs.eraseIdx k).map e) (vs.eraseIdx k)
  | [], vs, k, h => by
    have ev : vs = [] := by
      simp only [List.map_nil, repL] at h
      exact h
    subst ev
    simpa using h
  | x :: xs, vs, 0, h => by
    simp only [List.map_cons, repL] at h
    obtain ⟨u, us, rfl, _, h2⟩ := h
    exact h2
  | x :: xs, vs, k + 1, h => by
    simp only [List.map_cons, repL] at h
    obtain ⟨u, us, rfl, h1, h2⟩ := h
    exact repL_cons h1 (repL_erase k h2)
theorem mo_popU {α : Type} {e : α → D} {xs : List α} {i : Int} {y : α} {P : Addr → List V → Nat → V → Prop} (m : MutO ms ps H0 H L (.lst (xs.map e))) (h0 : 0 ≤ i) (hi : xs[i.toNat]? = some y) (hb : i < 2 ^ 63) (k : ∀ vs v, repL ms H (xs.map e) vs → rep ms H (e y) v → P L vs i.toNat v) :
    ∃ (l : Addr) (xs : List V) (i' : Int) (k : Nat) (y : V), V.ref L = .ref l ∧ [V.int i] = [.int i'] ∧ H l = some (.lst xs) ∧ -(2 ^ 63) ≤ i' ∧ i' < 2 ^ 63 ∧ seqIndex? i' xs.length = some k ∧ xs[k]? = some y ∧ P l xs k y := by
  obtain ⟨vs, h1, h2⟩ := m.val
  have hl := repL_len h2
  rw [List.length_map] at hl
  obtain ⟨v, hv, rv⟩ := repL_get (d := e y) h2 (by rw [List.getElem?_map, hi]; rfl)
  have lt := (List.getElem?_eq_some_iff.mp hi).1
  refine ⟨L, vs, i, i.toNat, v, rfl, rfl, h1, by omega, hb, ?_, hv, k vs v h2 rv⟩
  unfold seqIndex?
  first
    | (simp only []; split <;> first | rfl | (exfalso; omega))
    | (rw [if_neg (by omega), if_pos (by omega)])
    | (simp; omega)
end
/-! a comprehension that changes things: its state is carried -/
def mapS {α β S : Type} (body : α → S → (β → S → Prop) → Prop) : List α → List β → S → (List β → S → Prop) → Prop
  | [], acc, s, k => k acc s
  | x :: xs, acc, s, k => body x s fun y s' => mapS body xs (acc ++ [y]) s' k
section
variable {α β S : Type} {K : PySem.W.Frag} {H1 H2 : Hp} {g : TG} {tt : TT} {te : TE} {vl : List Nat} {σ : L2.St} {Qd : Hp → Prop} {L : Addr}
theorem lc_rangeS {lo hi : Int} {N : Nat} {body : Int → S → (β → S → Prop) → Prop} {KM : List β → S → Prop} (SI : Nat → List β → S → Hp → Prop) (s0 : S) (hN : N = (hi - lo).toNat) (hM : (rangeI lo hi).length < 100000 ∧ mapS body (rangeI lo hi) [] s0 KM) (h0 : SI 0 [] s0 (upd H1 L (.lst [])))
    (hs : ∀ (x : Int) (n : Nat) (ys : List β) (s : S) (k : β → S → Prop) (H : Hp), n < 100000 → SI n ys s H → body x s k → ∀ Nx : Hp → Prop, (∀ y s' H', k y s' → SI (n + 1) (ys ++ [y]) s' H' → Nx H') → Turn g tt te vl σ L (.int x) H Nx)
    (hd : ∀ n ys s H, KM ys s → SI n ys s H → Qd H) :
    ∃ W : Nat → Nat → Hp → Prop, (∃ m, W 0 m (upd H1 L (.lst []))) ∧ ∀ i m H, W i m H →
      ((Itr lo N).stop i H ∧ Qd H) ∨ ((Itr lo N).go i H ∧ ∃ Nx : Hp → Prop, (∀ H', Nx H' → ∃ m', m' < m ∧ W (i + 1) m' H') ∧ ∀ x H', (Itr lo N).yld i H x H' → g x (wipe σ vl) H' fun σ2 H2 => wipe σ2 vl = wipe σ vl ∧ tt σ2 H2 fun b H3 =>
        if b = true then te σ2 H3 fun y H4 => ∃ acc, H4 L = some (.lst acc) ∧ acc.length < sizeLine ∧ Nx (upd H4 L (.lst (acc ++ [y]))) else Nx H3) := by
  obtain ⟨hn, hM⟩ := hM
  subst hN
  rw [rangeI_len] at hn
  refine ⟨fun i m H => m = (hi - lo).toNat - i ∧ i ≤ (hi - lo).toNat ∧ ∃ ys s, SI i ys s H ∧ mapS body ((rangeI lo hi).drop i) ys s KM, ⟨_, rfl, Nat.zero_le _, [], s0, h0, hM⟩, ?_⟩
  rintro i m H ⟨rfl, hi', ys, s, T, q⟩
  by_cases hlt : i < (hi - lo).toNat
  · refine .inr ⟨hlt, fun H' => i + 1 ≤ (hi - lo).toNat ∧ ∃ ys s, SI (i + 1) ys s H' ∧ mapS body ((rangeI lo hi).drop (i + 1)) ys s KM, fun H' p' => ⟨_, by omega, rfl, p'⟩, fun x H' y => ?_⟩
    obtain ⟨e, y⟩ := y
    subst e y
    rw [drop_cons' (rangeI_get hlt)] at q
    exact hs _ i ys s _ H' (by omega) T q _ fun y s' H' k T' => ⟨hlt, _, _, T', k⟩
  · have e : i = (hi - lo).toNat := by omega
    refine .inl ⟨by rw [e]; exact Nat.le_refl _, ?_⟩
    rw [List.drop_of_length_le (by rw [rangeI_len]; omega)] at q
    exact hd _ ys s H q T
end
end Rx
namespace Rx
open PySem PySem.Spec PyProof.Rows L2
section
variable {ms : List Addr} {H : Hp} {x y : V}
theorem rep_catU {α : Type} {xs ys : List α} {e : α → D} {P : List V → List V → Prop} (h1 : rep ms H (.lst (xs.map e)) x) (h2 : rep ms H (.lst (ys.map e)) y) (hz : xs.length + ys.length ≤ sizeLine)
    (k : ∀ vs us, repL ms H (xs.map e) vs → repL ms H (ys.map e) us → P vs us) : ∃ p q vs us, x = .ref p ∧ y = .ref q ∧ H p = some (.lst vs) ∧ H q = some (.lst us) ∧ vs.length + us.length ≤ sizeLine ∧ P vs us := by
  simp only [rep] at h1 h2
  obtain ⟨p, vs, rfl, np, hp, r1⟩ := h1
  obtain ⟨q, us, rfl, nq, hq, r2⟩ := h2
  have l1 := repL_len r1
  have l2 := repL_len r2
  rw [List.length_map] at l1 l2
  exact ⟨p, q, vs, us, rfl, rfl, hp, hq, by rw [← l1, ← l2]; exact hz, k vs us r1 r2⟩
end
end Rx
namespace Rx
open PySem PySem.Spec PyProof.Rows L2
section
variable {K : PySem.W.Frag} {ms : List Addr} {H : Hp} {x y : V} {ds : List D} {vs : List V}
/-- what a list holds -/
theorem rep_lsU {P : List V → Prop} (h : rep ms H (.lst ds) x) (k : ∀ vs, repL ms H ds vs → P vs) : ∃ a xs, x = .ref a ∧ SqL K H a xs ∧ P xs := by
  simp only [rep] at h
  obtain ⟨p, vs, rfl, np, hp, hr⟩ := h
  exact ⟨p, vs, rfl, .inl (.inl hp), k vs hr⟩
theorem rep_tpU {P : List V → Prop} (h : rep ms H (.tup ds) x) (k : ∀ vs, repL ms H ds vs → P vs) : ∃ a xs, x = .ref a ∧ SqT K H a xs ∧ P xs := by
  simp only [rep] at h
  obtain ⟨p, vs, rfl, np, hp, hr⟩ := h
  exact ⟨p, vs, rfl, .inl (.inl hp), k vs hr⟩
theorem rep_iterT {ds : List D} {P : Addr → Prop} (h : rep ms H (.tup ds) x) (k : ∀ a xs, x = .ref a → a ∉ ms → H a = some (.tup xs) → repL ms H ds xs → P a) : ∃ a, x = .ref a ∧ (∃ xs, SqT K H a xs) ∧ P a := by
  simp only [rep] at h
  obtain ⟨p, vs, e, n, hp, hr⟩ := h
  exact ⟨p, e, ⟨vs, .inl (.inl hp)⟩, k p vs e n hp hr⟩
theorem repL_rev : ∀ {ds : List D} {vs : List V}, repL ms H ds vs → repL ms H ds.reverse vs.reverse
  | [], vs, h => by
    have e := repL_empty h
    subst e
    exact repL_nil
  | d :: ds, vs, h => by
    obtain ⟨u, us, rfl, h1, h2⟩ := repL_uncons h
    rw [List.reverse_cons, List.reverse_cons]
    exact repL_app (repL_rev h2) (repL_one h1)
theorem repL_revM {α : Type} {e : α → D} {xs : List α} (h : repL ms H (xs.map e) vs) : repL ms H (xs.reverse.map e) vs.reverse := by
  rw [List.map_reverse]
  exact repL_rev h
theorem repL_take : ∀ (n : Nat) {ds : List D} {vs : List V}, repL ms H ds vs → repL ms H (ds.take n) (vs.take n)
  | 0, _, _, _ => by
    rw [List.take_zero, List.take_zero]
    exact repL_nil
  | n + 1, [], vs, h => by
    have e := repL_empty h
    subst e
    exact repL_nil
  | n + 1, d :: ds, vs, h => by
    obtain ⟨u, us, rfl, h1, h2⟩ := repL_uncons h
    exact repL_cons h1 (repL_take n h2)
theorem repL_drop : ∀ (n : Nat) {ds : List D} {vs : List V}, repL ms H ds vs → repL ms H (ds.drop n) (vs.drop n)
  | 0, _, _, h => h
  | n + 1, [], vs, h => by
    have e := repL_empty h
    subst e
    exact repL_nil
  | n + 1, d :: ds, vs, h => by
    obtain ⟨u, us, rfl, h1, h2⟩ := repL_uncons h
    exact repL_drop n h2
/-- a slice -/
def cutM {α : Type} (xs : List α) (lo hi : Option Int) : List α := (xs.drop (HT.sIx xs.length 0 lo)).take (HT.sIx xs.length xs.length hi - HT.sIx xs.length 0 lo)
theorem repL_cut {α : Type} {e : α → D} {xs : List α} {lo hi : Option Int} (h : repL ms H (xs.map e) vs) : repL ms H ((cutM xs lo hi).map e) (cutV vs lo hi) := by
  have hl := repL_len h
  rw [List.length_map] at hl
  unfold cutM cutV
  rw [List.map_take, List.map_drop, hl]
  exact repL_take _ (repL_drop _ h)
end
/-! walks over tuples -/
section
variable {α β S : Type} {K : PySem.W.Frag} {H1 : Hp} {g : TG} {tt : TT} {te : TE} {vl : List Nat} {σ : L2.St} {Qd : Hp → Prop} {L : Addr}
theorem lc_tupG {items : List α} {e : α → D} {ms : List Addr} {a : Addr} {xs : List V} {body : α → (β → Prop) → Prop} {KM : List β → Prop} (SI : Nat → List β → Hp → Prop) (an : a ∉ ms) (ha : H1 a = some (.tup xs)) (hx : repL ms H1 (items.map e) xs) (nl : H1 L = none)
    (kp : ∀ n ys H, SI n ys H → Keep (L :: ms) H1 H) (hM : items.length < 100000 ∧ mapC body items [] KM) (h0 : SI 0 [] (upd H1 L (.lst [])))
    (hs : ∀ (x : α) (u : V) (n : Nat) (ys : List β) (k : β → Prop) (H : Hp), n < 100000 → SI n ys H → rep (L :: ms) H (e x) u → body x k → ∀ Nx : Hp → Prop, (∀ y H', k y → SI (n + 1) (ys ++ [y]) H' → Nx H') → Turn g tt te vl σ L u H Nx)
    (hd : ∀ n ys H, KM ys → SI n ys H → Qd H) :
    ∃ W : Nat → Nat → Hp → Prop, (∃ m, W 0 m (upd H1 L (.lst []))) ∧ ∀ i m H, W i m H →
      ((Itt K a).stop i H ∧ Qd H) ∨ ((Itt K a).go i H ∧ ∃ Nx : Hp → Prop, (∀ H', Nx H' → ∃ m', m' < m ∧ W (i + 1) m' H') ∧ ∀ x H', (Itt K a).yld i H x H' → g x (wipe σ vl) H' fun σ2 H2 => wipe σ2 vl = wipe σ vl ∧ tt σ2 H2 fun b H3 =>
        if b = true then te σ2 H3 fun y H4 => ∃ acc, H4 L = some (.lst acc) ∧ acc.length < sizeLine ∧ Nx (upd H4 L (.lst (acc ++ [y]))) else Nx H3) := by
  obtain ⟨hn, hM⟩ := hM
  have hl : items.length = xs.length := by
    have := repL_len hx
    rwa [List.length_map] at this
  have aM : a ∉ L :: ms := fun z => by
    rcases List.mem_cons.mp z with z | z
    · exact ne_of_none ha nl z
    · exact an z
  have hx1 : repL (L :: ms) H1 (items.map e) xs := repL_new nl hx
  refine ⟨fun i m H => m = xs.length - i ∧ i ≤ xs.length ∧ ∃ ys, SI i ys H ∧ mapC body (items.drop i) ys KM, ⟨_, rfl, Nat.zero_le _, [], h0, hM⟩, ?_⟩
  rintro i m H ⟨rfl, hi', ys, T, q⟩
  have hA : H a = some (.tup xs) := kp i ys H T a _ aM ha
  by_cases hlt : i < xs.length
  · refine .inr ⟨⟨xs, xs[i], .inl (.inl hA), by simp [hlt]⟩, fun H' => i + 1 ≤ xs.length ∧ ∃ ys, SI (i + 1) ys H' ∧ mapC body (items.drop (i + 1)) ys KM, fun H' p' => ⟨_, by omega, rfl, p'⟩, fun x H' y => ?_⟩
    obtain ⟨e1, y⟩ := y
    subst e1
    have hxi := y xs (.inl (.inl hA))
    have hit : items[i]? = some (items[i]'(by omega)) := List.getElem?_eq_getElem (by omega)
    rw [drop_cons' hit] at q
    obtain ⟨v, hv, rv⟩ := repL_get (repL_keep (kp i ys H' T) hx1) (j := i) (d := e (items[i]'(by omega))) (by rw [List.getElem?_map, hit]; rfl)
    rw [hxi] at hv
    have ev : x = v := Option.some.inj hv
    subst ev
    exact hs _ x i ys _ H' (by omega) T rv q _ fun y H'' k T' => ⟨hlt, _, T', k⟩
  · refine .inl ⟨⟨xs, .inl (.inl hA), by omega⟩, ?_⟩
    rw [List.drop_of_length_le (by omega)] at q
    exact hd _ ys H q T
end
end Rx
namespace Rx
open PySem PySem.Spec PyProof.Rows L2
/-! the same rules, their readings without the context -/
section
variable {X : Cx} {K : PySem.W.Frag}
theorem call_lenK (hK : X.K = K) : CallR X (.builtin "len") (fun xs H Q => ∃ x n, xs = [x] ∧ LenV K x H n ∧ Q (.int n) H) := by
  subst hK
  exact call_len
theorem call_isiK (hK : X.K = K) : CallR X (.builtin "isinstance") (rIsi K) := by
  subst hK
  exact call_isi
theorem sl_listK (hK : X.K = K) : SlR X (rSlL K) := by
  subst hK
  exact sl_list
theorem call_list_ofK (hK : X.K = K) : CallR X (.type "list") (fun xs H Q => ∃ p ys, xs = [.ref p] ∧ (SqL K H p ys ∨ SqT K H p ys) ∧ ∀ l, H l = none → Q (.ref l) (upd H l (.lst ys))) := by
  subst hK
  exact call_list_of
theorem cr_maxK (hK : X.K = K) (hc : X.calm = true) : CallR X (.builtin "max") (rMax K) := by
  subst hK
  exact cr_max hc
theorem cr_minK (hK : X.K = K) (hc : X.calm = true) : CallR X (.builtin "min") (rMin K) := by
  subst hK
  exact cr_min hc
theorem cr_anyK (hK : X.K = K) (hc : X.calm = true) : CallR X (.builtin "any") (rAny K) := by
  subst hK
  exact cr_any hc
theorem cr_allK (hK : X.K = K) (hc : X.calm = true) : CallR X (.builtin "all") (rAll K) := by
  subst hK
  exact cr_all hc
theorem op_eqDK (hK : X.K = K) (hu : X.A.units + 64 < cLine) : OpR X (compareOp .Eq) (rEqD K) := by
  subst hK
  exact op_eqD hu
theorem op_neDK (hK : X.K = K) (hu : X.A.units + 64 < cLine) : OpR X (compareOp .NotEq) (rNeD K) := by
  subst hK
  exact op_neD hu
theorem call_reprAK {k : Nat} (hK : X.K = K) (gu : X.A.guards = some []) (hr : Room k X.A) : CallR X (.builtin "repr") (rReprA K) := by
  subst hK
  exact call_reprA gu hr
theorem mt_lcountSK (hK : X.K = K) : MtR X "list.count" (rCntS K) := by
  subst hK
  exact mt_lcountS
end
end Rx
namespace Rx
open PySem PySem.Spec PyProof.Rows L2
section
variable {X : Cx} {K : PySem.W.Frag} {T name id : String} {o e : Expr} {es : List Expr} {r : V → List V → Hp → VK → Prop} {to : TE} {t : TA} {apos cpos : Pos}
theorem pe_bmK (hK : X.K = K) (pa : PlainAttrs T) (slot : Slot T name id) (hty : typeOf (.builtin id) = pure (.type "method_descriptor")) (hm : MtR X id r) (ho : PE X o to) (ha : PA X (e :: es) t)
    (hbase : attributeBase o name X.env (eval o X.env) = eval o X.env := by rfl)
    (hfew : ((backTo cpos (starEach (e :: es) X.env)).all (fun x => !x.1) && (backToKw cpos (keywordEach [] X.env)).all (fun x => x.1.isSome)
      && decide ((e :: es).length + ([] : List Keyword).length + (if ([] : List Keyword).isEmpty then 0 else 1) < 30)) = true := by rfl)
    (hline : (apos.endLine == cpos.line) = true := by rfl) (hs : starEach (e :: es) X.env = (false, eval e X.env) :: starEach es X.env := by rfl) (hplain : (backTo cpos (starEach es X.env)).any (·.1) = false := by rfl) :
    PE X (.Call (.Attribute o name apos) (e :: es) [] cpos) (tBM K T r to t) := by
  subst hK
  exact pe_bm pa slot hty hm ho ha hbase hfew hline hs hplain
end
end Rx
namespace Rx
open PySem PySem.Spec PyProof.Rows L2
section
variable {M : Model} {s : Shared} {K : PySem.W.Frag} {C : Addr}
theorem looksT {v : Value} {T : String} (h : s.TypeIs v T) : PySem.W.Looks M s.heap (typeOf v) (.type T) := fun A Q E s' k q => wpAny_typeOf (by
  cases v with
  | ref a =>
    obtain ⟨o, e, c⟩ := h
    exact ⟨o, k _ _ e, c⟩
  | _ => exact h) q
theorem sub_non : PySem.W.subIn K (.type "NoneType") (.ref C) = some false := by
  show ((fastBuiltinMro "NoneType").map _) = _
  rw [show fastBuiltinMro "NoneType" = some [.type "NoneType", .type "object"] by decide +kernel]
  simp
theorem sub_bool : PySem.W.subIn K (.type "bool") (.ref C) = some false := by
  show ((fastBuiltinMro "bool").map _) = _
  rw [show fastBuiltinMro "bool" = some [.type "bool", .type "int", .type "object"] by decide +kernel]
  simp
theorem sub_int : PySem.W.subIn K (.type "int") (.ref C) = some false := by
  show ((fastBuiltinMro "int").map _) = _
  rw [show fastBuiltinMro "int" = some [.type "int", .type "object"] by decide +kernel]
  simp
theorem sub_str : PySem.W.subIn K (.type "str") (.ref C) = some false := by
  show ((fastBuiltinMro "str").map _) = _
  rw [show fastBuiltinMro "str" = some [.type "str", .type "object"] by decide +kernel]
  simp
theorem sub_list : PySem.W.subIn K (.type "list") (.ref C) = some false := by
  show ((fastBuiltinMro "list").map _) = _
  rw [show fastBuiltinMro "list" = some [.type "list", .type "object"] by decide +kernel]
  simp
theorem sub_tuple : PySem.W.subIn K (.type "tuple") (.ref C) = some false := by
  show ((fastBuiltinMro "tuple").map _) = _
  rw [show fastBuiltinMro "tuple" = some [.type "tuple", .type "object"] by decide +kernel]
  simp
theorem sub_dict : PySem.W.subIn K (.type "dict") (.ref C) = some false := by
  show ((fastBuiltinMro "dict").map _) = _
  rw [show fastBuiltinMro "dict" = some [.type "dict", .type "object"] by decide +kernel]
  simp
theorem sub_ty {H : Hp} {x : V} {T : String} (t : TyB K H x T) (nb : ∀ b, x ≠ .byt b) : PySem.W.subIn K (.type T) (.ref C) = some false := by
  cases t with
  | non => exact sub_non
  | bl b => exact sub_bool
  | int i => exact sub_int
  | str z => exact sub_str
  | byt b => exact absurd rfl (nb b)
  | lst h => exact sub_list
  | tup h => exact sub_tuple
  | dK h => exact sub_dict
end
section
variable {M : Model} {prog : Program} {w : World} {A : Around} {E : Value → Shared → Prop} {s : Shared} {K : PySem.W.Frag} {x C : Addr} {uy : Value} {ox : Obj} {od : Option Obj}
theorem entry_objNeA {Q : Fin → Shared → Prop} (hu : A.units < cLine) (hcall : wpAny M A (callSpecialIfBound? (.ref x) (Str.ofString "__eq__") [uy]) (fun r s' => ∃ b, r = some (.bool b) ∧ Q (.done (.ret (.bool (!b)))) s') E s) :
    wpAny M A (Builtin.«object.__ne__» ⟨[.ref x, uy], []⟩) Q E s := by
  unfold Builtin.«object.__ne__»
  repeat (first
    | with_reducible refine wpAny_cRoomFor hu ?_
    | (refine wpAny_bind (m := callSpecialIfBound? (.ref x) (Str.ofString "__eq__") [uy])
        (wpAny_mono hcall (fun r s' hr => by
          obtain ⟨b, rfl, hq⟩ := hr
          repeat (first | exact hq | exact wpAny_pure hq | exact wpAny_truthy_bool hq | (refine wpAny_bind (m := truthy (.bool _)) (wpAny_truthy_bool ?_)) | wp_step)) fun _ _ e => e))
    | wp_step)
theorem call_objNeA {Q : Value → Shared → Prop} (X : K.In s.heap) (I : PySem.W.InstAt s.heap x ox C od) (hm : PySem.W.mroIn K C (.type "object") = some true) (hu : A.in1.units < cLine)
    (hcall : wpAny (model prog w) A.in1 (callSpecialIfBound? (.ref x) (Str.ofString "__eq__") [uy]) (fun r s' => ∃ b, r = some (.bool b) ∧ Q (.bool (!b)) s') E s) :
    wpAny (model prog w) A (call (.builtin "object.__ne__") [.ref x, uy]) Q E s := by
  refine wpAny_call (codeAny_call_builtin F.cmp_object.ne.plain F.cmpEntry_ne (PySem.W.check_slot F.cmpKind_ne F.cmpSplit_ne (I.type.andThen (PySem.W.looks_mroIn X hm)) (F.cmpArgs_ne _ _) (entry_objNeA hu (wpAny_mono hcall (fun r s' hr => ?_) fun _ _ e => e))))
  obtain ⟨b, rfl, hq⟩ := hr
  first | exact ⟨b, rfl, hq⟩ | exact ⟨b, rfl, wpAny_pure hq⟩
end
/-- not an instance -/
def noI : D → Bool
  | .v .non => true
  | .v (.bl _) => true
  | .v (.int _) => true
  | .v (.str _) => true
  | .v _ => false
  | .ins _ _ _ => false
  | _ => true
theorem rep_TyB {K : PySem.W.Frag} {ms : List Addr} {H : Hp} {d : D} {u : V} (h : rep ms H d u) (n : noI d = true) : ∃ T, TyB K H u T ∧ (∀ b, u ≠ .byt b) ∧ TyX K H u (.type T) := by
  cases d with
  | v x =>
    obtain rfl := of_v h
    cases u <;> simp only [noI] at n
    · exact ⟨_, .non, (fun _ z => nomatch z), .base .non⟩
    · exact ⟨_, .bl _, (fun _ z => nomatch z), .base (.bl _)⟩
    · exact ⟨_, .int _, (fun _ z => nomatch z), .base (.int _)⟩
    · exact ⟨_, .str _, (fun _ z => nomatch z), .base (.str _)⟩
    all_goals cases n
  | lst ds =>
    simp only [rep] at h
    obtain ⟨p, vs, rfl, _, hp, _⟩ := h
    exact ⟨_, .lst (.inl (.inl hp)), (fun _ z => nomatch z), .base (.lst hp)⟩
  | tup ds =>
    simp only [rep] at h
    obtain ⟨p, vs, rfl, _, hp, _⟩ := h
    exact ⟨_, .tup (.inl (.inl hp)), (fun _ z => nomatch z), .base (.tup hp)⟩
  | dct ks ds =>
    simp only [rep] at h
    obtain ⟨p, vs, rfl, _, hp, _⟩ := h
    exact ⟨_, .dK hp, (fun _ z => nomatch z), .base (.dK hp)⟩
  | ins _ _ _ => cases n
/-- own == with any value that is no instance -/
def rOwnEqA (K : PySem.W.Frag) (C : Addr) (sp : Sp) (E : XK) : R2 := fun x y H Q => ∃ a dx fs T, x = .ref a ∧ H a = some (.ins C dx fs) ∧ TyB K H y T ∧ (∀ b, y ≠ .byt b) ∧ sp [x, y] H (fun v H' => ∃ r : Bool, v = .bl r ∧ Q v H') E
def rOwnNeA (K : PySem.W.Frag) (C : Addr) (sp : Sp) (E : XK) : R2 := fun x y H Q => ∃ a dx fs T, x = .ref a ∧ H a = some (.ins C dx fs) ∧ TyB K H y T ∧ (∀ b, y ≠ .byt b) ∧ sp [x, y] H (fun v H' => ∃ r : Bool, v = .bl r ∧ Q (.bl (!r)) H') E
theorem op_eqOwnA {X : Cx} {K : PySem.W.Frag} (hK : X.K = K) {n : Nat} {CX : CXT} {C f : Addr} {fd : FuncData} {ps : List Str} {sp : Sp} {E : XK} (F : FnOk X.prog X.w X.K X.mg X.base CX n f fd ps sp) (hr : Room n X.A)
    (o : OwnEq X.K C f) (hb : Binds X.K fd ps []) (hx : Passes CX X E) : OpR X (compareOp .Eq) (rOwnEqA K C sp E) := by
  subst hK
  intro pins s σ H x y v u Q I rx ry d
  show wpAny (model X.prog X.w) X.A (richCompare .Eq v u) (EP X pins σ Q) X.xe s
  obtain ⟨a, dx, fs, T, rfl, ha, ty, nb, hsp⟩ := d
  cases rx
  obtain ⟨mA, J, _⟩ := ins_get I.hok ha
  obtain ⟨od, J, _⟩ := J.look
  obtain ⟨m, hF⟩ := I.fr
  refine PySem.W.cmp_K (op := .Eq) (tb := .type T) hr.units0 hF I.ok.mod.kin J (looksT (ty.is I ry)) (by simp [PySem.W.notFirst, sub_ty ty nb]) o.hs o.hf ?_
  have hl := F.len _ _ _ _ hsp
  have r2 : Vals [V.ref a, y] [Value.ref a, u] := .cons rfl (.cons ry .nil)
  refine wpAny_call (codeAny_mono (F.run X.A X.stack s H ⟨[.ref a, u], []⟩ [.ref a, u] [.ref a, y] _ E hr I.env0 (by
    have := hb s [.ref a, u] I.kIn (by simpa using hl)
    simpa using this) r2 hsp) fun r s' hq => ?_)
  cases r with
  | error e => exact hx pins σ H s e s' I hq
  | ok fl =>
    cases fl with
    | ret w =>
      obtain ⟨z, H', I', rz, ⟨r, ez, q⟩⟩ := I.after hq
      subst ez
      cases (show w = Value.bool r from rz)
      exact ⟨.bl r, H', I', rfl, q⟩
    | next => exact False.elim hq
    | brk => exact False.elim hq
    | cont => exact False.elim hq
theorem op_neOwnA {X : Cx} {K : PySem.W.Frag} (hK : X.K = K) {n : Nat} {CX : CXT} {C f : Addr} {fd : FuncData} {ps : List Str} {sp : Sp} {E : XK} (F : FnOk X.prog X.w X.K X.mg X.base CX n f fd ps sp) (hr : Room (n + 1) X.A)
    (o : OwnEq X.K C f) (o' : OwnNe X.K C) (hb : Binds X.K fd ps []) (hx : Passes CX X E) : OpR X (compareOp .NotEq) (rOwnNeA K C sp E) := by
  subst hK
  intro pins s σ H x y v u Q I rx ry d
  show wpAny (model X.prog X.w) X.A (richCompare .NotEq v u) (EP X pins σ Q) X.xe s
  obtain ⟨a, dx, fs, T, rfl, ha, ty, nb, hsp⟩ := d
  cases rx
  obtain ⟨mA, J, _⟩ := ins_get I.hok ha
  obtain ⟨od, J, _⟩ := J.look
  have J' := looksT (M := model X.prog X.w) (ty.is I ry)
  have hl := F.len _ _ _ _ hsp
  have r2 : Vals [V.ref a, y] [Value.ref a, u] := .cons rfl (.cons ry .nil)
  have one : wpAny (model X.prog X.w) X.A (tryCompare (.ref a) (cmpInfo .NotEq).2.1 u) (fun r s' => ∃ v, r = some v ∧ EP X pins σ Q v s') X.xe s := by
    unfold tryCompare
    refine wpAny_bind (ifBound_objNe I.kIn J o'.hne (call_objNeA I.kIn J o'.hm hr.in1.units0 (PySem.W.ifBound_K I.kIn J o.hs o.hf ?_)))
    refine wpAny_call (codeAny_mono (F.run X.A.in1 X.stack s H ⟨[.ref a, u], []⟩ [.ref a, u] [.ref a, y] _ E hr.in1 I.env0.in1 (by
      have := hb s [.ref a, u] I.kIn (by simpa using hl)
      simpa using this) r2 hsp) fun r s' hq => ?_)
    cases r with
    | error e => exact hx pins σ H s e s' I hq
    | ok fl =>
      cases fl with
      | ret w =>
        obtain ⟨z, H', I', rz, ⟨r, ez, q⟩⟩ := I.after hq
        subst ez
        cases (show w = Value.bool r from rz)
        exact ⟨r, rfl, wpAny_pure ⟨_, rfl, .bl (!r), H', I', rfl, q⟩⟩
      | next => exact False.elim hq
      | brk => exact False.elim hq
      | cont => exact False.elim hq
  unfold richCompare
  simp only [oneThing_ref]
  refine wpAny_holding (wpAny_bind (wpAny_cRoomFor hr.units0 ?_))
  refine wpAny_bind (J.type.here (wpAny_bind (J'.here ?_)))
  rw [show (Value.ref C != Value.type T) = true from by simp]
  refine wpAny_bind ((PySem.W.looks_subIn I.kIn (sub_ty ty nb)).here ?_)
  simp only [Bool.false_eq_true, if_false]
  refine wpAny_bind (wpAny_mono one (fun r s' z => ?_) fun _ _ e => e)
  obtain ⟨v, rfl, hq⟩ := z
  exact wpAny_pure hq
section
variable {K : PySem.W.Frag} {ms : List Addr} {H : Hp} {x y : V} {d : D}
theorem rep_eqOwnA {C : Addr} {ns : List Str} {ds : List D} {sp : Sp} {E : XK} {Q : VK} (h1 : rep ms H (.ins C ns ds) x) (h2 : rep ms H d y) (n : noI d = true) (k : sp [x, y] H (fun v H' => ∃ r : Bool, v = .bl r ∧ Q v H') E) : rOwnEqA K C sp E x y H Q := by
  obtain ⟨p, dx, fs, e, hp⟩ := rep_ins h1
  obtain ⟨T, ty, nb, _⟩ := rep_TyB (K := K) h2 n
  subst e
  exact ⟨p, dx, fs, T, rfl, hp, ty, nb, k⟩
theorem rep_neOwnA {C : Addr} {ns : List Str} {ds : List D} {sp : Sp} {E : XK} {Q : VK} (h1 : rep ms H (.ins C ns ds) x) (h2 : rep ms H d y) (n : noI d = true) (k : sp [x, y] H (fun v H' => ∃ r : Bool, v = .bl r ∧ Q (.bl (!r)) H') E) : rOwnNeA K C sp E x y H Q := by
  obtain ⟨p, dx, fs, e, hp⟩ := rep_ins h1
  obtain ⟨T, ty, nb, _⟩ := rep_TyB (K := K) h2 n
  subst e
  exact ⟨p, dx, fs, T, rfl, hp, ty, nb, k⟩
/-- a class of the text's own, for isinstance that says no -/
structure IsN (K : PySem.W.Frag) (C : Addr) : Prop where
  ic : PySem.W.isClsIn K C = true
  ty : PySem.W.typeIn K (.ref C) = some (.type "type")
theorem rep_isN2 {C : Addr} {P : Bool → Prop} (h : rep ms H d x) (n : noI d = true) (c : IsN K C) (k : P false) :
    ∃ (x' c : V) (t u : Value) (b : Bool), [x, .ref C] = [x', c] ∧ ClsV c u ∧ TyX K H x' t ∧ PySem.W.kitOne K t u = some b ∧ P b := by
  obtain ⟨T, ty, nb, tx⟩ := rep_TyB (K := K) h n
  refine ⟨x, _, .type T, .ref C, false, rfl, .own C, tx, ?_, k⟩
  · unfold PySem.W.kitOne
    rw [if_neg (by simp)]
    show (if ((PySem.W.clsIn K C).isSome && PySem.W.typeIn K (.ref C) == some (.type "type")) = true then PySem.W.subIn K (.type T) (.ref C) else none) = some false
    rw [sub_ty ty nb]
    have h1 := c.ic
    unfold PySem.W.isClsIn at h1
    rw [h1, c.ty]
    simp
end
end Rx
namespace Rx
open PySem PySem.Spec PyProof.Rows L2
theorem pe_never {X : Cx} {e : Expr} : PE X e (fun _ _ _ => False) := ⟨fun _ _ _ _ _ _ h => h.elim⟩
section
variable {ms ps : List Addr} {cs : List (Addr × List V)} {H0 H H' : Hp} {u : V}
theorem rep_dynL {α : Type} {e : α → D} {xs : List α} (h : rep ms H (.lst (xs.map e)) u) : rep ms H (.lst ((xs.map e).map fun y : D => y)) u := by
  rw [List.map_id']
  exact h
theorem rep_dct0 {p : Addr} (w : Wd ms ps cs H0 H) (np : H p = none) (hp : H' p = some (.dK [])) : rep ms H' (.dct [] []) (.ref p) := by
  simp only [rep]
  exact ⟨p, [], rfl, fun z => w.tr p z np, hp, rfl, repL_nil⟩
end
end Rx
namespace Rx
open PySem PySem.Spec PyProof.Rows L2
section
variable {κ : Type} [DecidableEq κ]
theorem any_zip {k : κ} : ∀ {ks : List κ} {vs : List V}, ks.length = vs.length → ((ks.zip vs).any fun kv => decide (kv.1 = k)) = decide (k ∈ ks)
  | [], [], _ => by simp
  | k0 :: ks, v :: vs, h => by
    have ih := any_zip (k := k) (ks := ks) (vs := vs) (by simpa using h)
    rw [List.zip_cons_cons, List.any_cons, ih]
    by_cases e : k0 = k
    · subst e
      simp
    · have e' : k ≠ k0 := fun z => e z.symm
      simp [e, e']
  | [], _ :: _, h => by simp at h
  | _ :: _, [], h => by simp at h
theorem putK_new {k : κ} {v : V} {ks : List κ} {vs : List V} (h : ks.length = vs.length) (n : k ∉ ks) : putK (ks.zip vs) k v = (ks ++ [k]).zip (vs ++ [v]) := by
  unfold putK
  rw [any_zip h, if_neg (by simpa using n), List.zip_append h]
  rfl
theorem putK_old {k : κ} {v : V} : ∀ {ks : List κ} {vs : List V} {j : Nat}, ks.length = vs.length → ks.Nodup → ks[j]? = some k → putK (ks.zip vs) k v = ks.zip (vs.set j v) := by
  intro ks vs j h nd hj
  have hk : k ∈ ks := List.mem_of_getElem? hj
  unfold putK
  rw [any_zip h, if_pos (by simpa using hk)]
  induction ks generalizing vs j with
  | nil => simp at hj
  | cons k0 ks ih =>
    cases vs with
    | nil => simp at h
    | cons v0 vs =>
      have nd' := List.nodup_cons.mp nd
      cases j with
      | zero =>
        have e : k0 = k := Option.some.inj hj
        subst e
        rw [List.zip_cons_cons, List.map_cons, if_pos rfl, List.set_cons_zero, List.zip_cons_cons]
        congr 1
        conv => rhs; rw [← List.map_id (ks.zip vs)]
        refine List.map_congr_left fun q hq => ?_
        rw [if_neg]
        · rfl
        · intro z
          exact nd'.1 (by rw [← z]; exact (List.of_mem_zip (show (q.1, q.2) ∈ ks.zip vs from hq)).1)
      | succ j =>
        have hj' : ks[j]? = some k := by simpa using hj
        have ne : ¬ k0 = k := fun z => nd'.1 (by rw [z]; exact List.mem_of_getElem? hj')
        rw [List.zip_cons_cons, List.map_cons, if_neg ne, List.set_cons_succ, List.zip_cons_cons]
        congr 1
        exact ih (by simpa using h) nd'.2 hj' (List.mem_of_getElem? hj')
theorem valV_zip {k : κ} : ∀ {ks : List κ} {vs : List V} {j : Nat}, ks.Nodup → ks[j]? = some k → ks.length = vs.length → valV (ks.zip vs) k = vs[j]?
  | [], _, _, _, hj, _ => by simp at hj
  | k0 :: ks, [], _, _, _, h => by simp at h
  | k0 :: ks, v :: vs, 0, _, hj, _ => by
    have e : k0 = k := Option.some.inj hj
    subst e
    simp [valV]
  | k0 :: ks, v :: vs, j + 1, nd, hj, h => by
    have nd' := List.nodup_cons.mp nd
    have hj' : ks[j]? = some k := by simpa using hj
    have ne : ¬ k0 = k := fun z => nd'.1 (by rw [z]; exact List.mem_of_getElem? hj')
    rw [List.zip_cons_cons, valV_neg (p := (k0, v)) ne, valV_zip nd'.2 hj' (by simpa using h)]
    rfl
end
theorem mergeK_nodup : ∀ {more : List (Key × V)} {acc : List (Key × V)}, ((acc ++ more).map (·.1)).Nodup → mergeK acc more = acc ++ more
  | [], acc, _ => by simp [mergeK]
  | q :: more, acc, h => by
    have n : q.1 ∉ acc.map (·.1) := by
      rw [List.map_append, List.nodup_append] at h
      exact fun z => h.2.2 q.1 z q.1 (by simp) rfl
    have e : putK acc q.1 q.2 = acc ++ [q] := by
      unfold putK
      rw [if_neg]
      intro z
      obtain ⟨w, hw, ew⟩ := List.any_eq_true.mp z
      exact n (List.mem_map.mpr ⟨w, hw, of_decide_eq_true ew⟩)
    show mergeK (putK acc q.1 q.2) more = _
    rw [e, mergeK_nodup (by rw [List.append_assoc]; exact h), List.append_assoc]
    rfl
section
variable {K : PySem.W.Frag} {ms ps : List Addr} {H0 H H' H1 : Hp} {L : Addr} {d : D} {ds : List D} {u x y : V} {vs : List V} {ks : List Key} {k : Key}
theorem map_fst_zip' : ∀ {ks : List Key} {vs : List V}, ks.length = vs.length → (ks.zip vs).map (·.1) = ks
  | [], [], _ => rfl
  | k :: ks, v :: vs, h => by
    rw [List.zip_cons_cons, List.map_cons, map_fst_zip' (by simpa using h)]
  | [], _ :: _, h => by simp at h
  | _ :: _, [], h => by simp at h
theorem merge_zip (h : ks.length = vs.length) (nd : ks.Nodup) : mergeK [] (ks.zip vs) = ks.zip vs := by
  rw [mergeK_nodup (by rw [List.nil_append, map_fst_zip' h]; exact nd), List.nil_append]
/-- what a dict of one's own holds, as it is made -/
theorem mo_nilD (w : Wd ms ps [] H0 H) (nl : H L = none) : MutO (L :: ms) ps H0 (upd H L (.dK [])) L (.dct [] []) :=
  mo_newD (ks := []) (vs := []) (ds := []) w nl rfl repL_nil
theorem mo_dK0 (m : MutO ms ps H0 H L (.dct [] [])) : H L = some (.dK []) := by
  obtain ⟨vs, h1, h2, _⟩ := m.val
  rw [h1]
  simp
theorem mo_setD (m : MutO ms ps H0 H L d) (hl : ks.length = vs.length) (r : repL ms H ds vs) : MutO ms ps H0 (upd H L (.dK (ks.zip vs))) L (.dct ks ds) :=
  ⟨m.im, m.hp, m.h0, vs, upd_same, hl, repL_put m.im r⟩
/-- d[k] = v, a new key -/
theorem mo_putU {v : V} {Q : Hp → Prop} (m : MutO ms ps H0 H L (.dct ks ds)) (n : k ∉ ks) (hk : ks.length < 16777216)
    (q : ∀ vs, ks.length = vs.length → repL ms H ds vs → Q (upd H L (.dK ((ks ++ [k]).zip (vs ++ [v]))))) : rSetD (.ref L) (kV k) v H Q := by
  obtain ⟨vs, h1, h2, h3⟩ := m.val
  refine ⟨L, _, rfl, DPut.k h1 ?_, ?_⟩
  · rw [List.length_zip, ← h2, sizeLine_eq, Nat.min_self]
    exact hk
  · rw [putK_new h2 n]
    exact q vs h2 h3
/-- d[k] = v, a key that is there -/
theorem mo_putO {v : V} {Q : Hp → Prop} (j : Nat) (m : MutO ms ps H0 H L (.dct ks ds)) (nd : ks.Nodup) (hj : ks[j]? = some k) (hk : ks.length < 16777216)
    (q : ∀ vs, ks.length = (vs.set j v).length → repL ms H ds vs → Q (upd H L (.dK (ks.zip (vs.set j v))))) : rSetD (.ref L) (kV k) v H Q := by
  obtain ⟨vs, h1, h2, h3⟩ := m.val
  refine ⟨L, _, rfl, DPut.k h1 ?_, ?_⟩
  · rw [List.length_zip, ← h2, sizeLine_eq, Nat.min_self]
    exact hk
  · rw [putK_old h2 nd hj]
    exact q vs (by rw [List.length_set]; exact h2) h3
theorem repL_setD {v : V} {e : D} : ∀ {ds : List D} {vs : List V} (j : Nat), repL ms H ds vs → rep ms H e v → repL ms H (ds.set j e) (vs.set j v)
  | [], vs, j, h, r => by
    have ev := repL_empty h
    subst ev
    simpa using h
  | d :: ds, vs, 0, h, r => by
    obtain ⟨u, us, rfl, h1, h2⟩ := repL_uncons h
    exact repL_cons r h2
  | d :: ds, vs, j + 1, h, r => by
    obtain ⟨u, us, rfl, h1, h2⟩ := repL_uncons h
    exact repL_cons h1 (repL_setD j h2 r)
theorem dgetL (h1 : H L = some (.dK (ks.zip vs))) (nd : ks.Nodup) (hl : ks.length = vs.length) {j : Nat} (hj : ks[j]? = some k) {v : V} (hv : vs[j]? = some v) : DGet H L (kV k) (some v) := by
  have := DGet.k (k := k) h1
  rw [valV_zip nd hj hl, hv] at this
  exact this
/-- d[k], k a written key -/
theorem rep_dget {Q : VK} (j : Nat) (h : rep ms H (.dct ks ds) x) (nd : ks.Nodup) (hj : ks[j]? = some k) (hd : ds[j]? = some d) (q : ∀ v, rep ms H d v → Q v H) :
    ∃ a v, x = .ref a ∧ DGet H a (kV k) (some v) ∧ Q v H := by
  simp only [rep] at h
  obtain ⟨p, vs, rfl, _, hp, hl, hr⟩ := h
  obtain ⟨v, hv, rv⟩ := repL_get hr hd
  exact ⟨p, v, rfl, dgetL hp nd hl hj hv, q v rv⟩
theorem mo_dget {Q : VK} (j : Nat) (m : MutO ms ps H0 H L (.dct ks ds)) (nd : ks.Nodup) (hj : ks[j]? = some k) (hd : ds[j]? = some d) (q : ∀ v, rep ms H d v → Q v H) :
    ∃ a v, V.ref L = .ref a ∧ DGet H a (kV k) (some v) ∧ Q v H := by
  obtain ⟨vs, hp, hl, hr⟩ := m.val
  obtain ⟨v, hv, rv⟩ := repL_get hr hd
  exact ⟨L, v, rfl, dgetL hp nd hl hj hv, q v rv⟩
/-- d[k], any key: what is found -/
def getM {α : Type} (ks : List Key) (xs : List α) (k : Key) : Option α := ((ks.zip xs).find? fun q => decide (q.1 = k)).map (·.2)
theorem getM_at {α : Type} {y : α} : ∀ {ks : List Key} {xs : List α}, getM ks xs k = some y → ∃ j : Nat, ks[j]? = some k ∧ xs[j]? = some y
  | [], _, h => by simp [getM] at h
  | _ :: _, [], h => by simp [getM] at h
  | k0 :: ks, x :: xs, h => by
    by_cases e : k0 = k
    · subst e
      simp [getM] at h
      exact ⟨0, rfl, by rw [h]; rfl⟩
    · have h' : getM ks xs k = some y := by
        unfold getM at h ⊢
        rw [List.zip_cons_cons, List.find?_cons_of_neg (by simpa using e)] at h
        exact h
      obtain ⟨j, h1, h2⟩ := getM_at h'
      exact ⟨j + 1, by simpa using h1, by simpa using h2⟩
theorem rep_dgetM {α : Type} {e : α → D} {xs : List α} {y : α} {Q : VK} (h : rep ms H (.dct ks (xs.map e)) x) (nd : ks.Nodup) (hy : getM ks xs k = some y) (q : ∀ v, rep ms H (e y) v → Q v H) :
    ∃ a v, x = .ref a ∧ DGet H a (kV k) (some v) ∧ Q v H := by
  obtain ⟨j, h1, h2⟩ := getM_at hy
  exact rep_dget j h nd h1 (by rw [List.getElem?_map, h2]; rfl) q
/-- dict(list(d.items())) -/
theorem rep_items {Q : VK} (w : Wd ms ps [] H0 H) (h : rep ms H (.dct ks ds) x)
    (q : ∀ (H' : Hp) (p : Addr), Ret [] H H' → (∀ (r : List V → Hp → Prop), (∀ vs, ks.length = vs.length → repL ms H' ds vs → (∃ ps, SqL K H' p (ps.map V.ref) ∧ Paired (fun p kv => SqT K H' p [kV kv.1, kv.2]) ps (ks.zip vs)) → r vs H') → ∃ vs, ks.length = vs.length ∧ repL ms H' ds vs ∧ r vs H') → Q (.ref p) H') :
    ∃ (d : Addr) (kvs : List (Key × V)), x = .ref d ∧ H d = some (.dK kvs) ∧ ∀ (H' : Hp) (p : Addr) (ts : List Addr), (∀ b o, H b = some o → H' b = some o) → H p = none → (∀ t ∈ ts, H t = none) → p ∉ ts → H' p = some (.lst (ts.map V.ref)) → Paired (fun (t : Addr) (q : Key × V) => H' t = some (.tup [kV q.1, q.2])) ts kvs → Q (.ref p) H' := by
  simp only [rep] at h
  obtain ⟨d, vs, rfl, _, hp, hl, hr⟩ := h
  refine ⟨d, _, rfl, hp, fun H' p ts keep np nts pt hl' hpd => ?_⟩
  have e : Ret [] H H' := ⟨fun a o _ z => keep a o z, fun _ z => absurd z List.not_mem_nil, fun a z => by
    cases c : H a with
    | none => exact absurd c z
    | some o => rw [keep a o c]; exact fun z => nomatch z⟩
  refine q H' p e fun r hr' => ⟨vs, hl, repL_ext e hr, hr' vs hl (repL_ext e hr) ⟨ts, .inl (.inl hl'), ?_⟩⟩
  clear hr' hl' q hp
  generalize ks.zip vs = kvs at hpd
  induction hpd with
  | nil => exact .nil
  | cons a _ ih => exact .cons (.inl (.inl a)) (ih (fun t z => nts t (List.mem_cons_of_mem _ z)) fun z => pt (List.mem_cons_of_mem _ z))
end
end Rx
namespace Rx
open PySem PySem.Spec PyProof.Rows L2
section
variable {X : Cx} {K : PySem.W.Frag}
theorem call_dictPK (hK : X.K = K) (hcalm : X.calm = true) : CallR X (.type "dict") (fun xs H Q => ∃ (a : Addr) (ps : List Addr) (kvs : List (Key × V)), xs = [.ref a] ∧ SqL K H a (ps.map V.ref) ∧ Paired (fun p kv => SqT K H p [kV kv.1, kv.2]) ps kvs ∧
    ∀ p, H p = none → Q (.ref p) (upd H p (.dK (mergeK [] kvs)))) := by
  subst hK
  exact call_dictP hcalm
end
end Rx
namespace Rx
theorem nin_of {α : Type} {ks : List α} {k : α} (h : (ks ++ [k]).Nodup) : k ∉ ks := fun z => by
  rw [List.nodup_append] at h
  exact h.2.2 k z k (by simp) rfl
end Rx
namespace Rx
open PySem PySem.Spec PyProof.Rows L2
/-! a new instance, while its __init__ runs -/
section
variable {ms ps : List Addr} {H0 H H' He : Hp} {p L C dx : Addr} {d : D} {u : V} {fs : List (Str × V)} {o : HO}
structure KpI (p : Addr) (He H : Hp) : Prop where
  kp : ∀ a o, a ≠ p → He a = some o → H a = some o
  gr : ∀ a, He a ≠ none → H a ≠ none
theorem ki_refl : KpI p H H := ⟨fun _ _ _ h => h, fun _ h => h⟩
theorem ki_wd (k : KpI p He H0) (w : Wd ms [] [] H0 H) : KpI p He H := ⟨fun a o n h => w.kp a o (by simp) (k.kp a o n h), fun a h => w.grow a (k.gr a h)⟩
theorem ki_put (k : KpI p He H0) (w : Wd ms [] [] H0 H) : KpI p He (upd H p o) := ⟨fun a o' n h => by
  rw [upd_ne n]
  exact (ki_wd k w).kp a o' n h, fun a h => by
  by_cases e : a = p
  · rw [e, upd_same]
    exact fun z => nomatch z
  · rw [upd_ne e]
    exact (ki_wd k w).gr a h⟩
theorem wd_at (w : Wd ms [] [] H0 H) : Wd ms [] [] (upd H p o) (upd H p o) := ⟨fun _ _ _ h => h, fun _ h => h, fun m h => by
  by_cases e : m = p
  · rw [e, upd_same]
    exact fun z => nomatch z
  · rw [upd_ne e]
    exact w.tr m h, fun _ h => absurd h List.not_mem_nil, fun _ h => absurd h List.not_mem_nil, fun _ h => absurd h List.not_mem_nil⟩
theorem at_put (hp : H p = some (.ins C dx fs)) (m : MutO ms ps H0 H L d) : upd H L o p = some (.ins C dx fs) := by
  rw [upd_ne (fun z => ?_)]
  · exact hp
  · have h := m.isMo
    rw [← z, hp] at h
    exact h
theorem putF_zip {f : Str} {v : V} : ∀ {ns : List Str} {us : List V}, ns.length = us.length → f ∉ ns → putF f v (ns.zip us) = (ns ++ [f]).zip (us ++ [v])
  | [], [], _, _ => by simp [putF]
  | [], _ :: _, h, _ => by simp at h
  | _ :: _, [], h, _ => by simp at h
  | n :: ns, u :: us, h, nn => by
    have e : ¬ n = f := fun z => nn (by rw [z]; exact List.mem_cons_self)
    have ih := putF_zip (f := f) (v := v) (ns := ns) (us := us) (by simpa using h) fun z => nn (List.mem_cons_of_mem _ z)
    simp only [List.zip_cons_cons, List.cons_append]
    unfold putF
    rw [if_neg e, ih]
theorem mem_new (nl : H p = none) (h : rep ms H d u) (ndx : H dx = none) {o1 o2 : HO} : rep (p :: ms) (upd (upd H dx o1) p o2) d u :=
  rep_map (fun a o n hp => ⟨fun z => by
    rcases List.mem_cons.mp z with z | z
    · exact ne_of_none hp nl z
    · exact n z, by rw [upd_ne (ne_of_none hp nl), upd_ne (ne_of_none hp ndx)]; exact hp⟩) d u h
theorem wd_new (w : Wd ms ps cs H0 H) (nl : H p = none) (ndx : H dx = none) {o1 o2 : HO} : Wd (p :: ms) [] [] (upd (upd H dx o1) p o2) (upd (upd H dx o1) p o2) := ⟨fun _ _ _ h => h, fun _ h => h, fun m h => by
  by_cases e : m = p
  · rw [e, upd_same]
    exact fun z => nomatch z
  · rw [upd_ne e]
    by_cases e2 : m = dx
    · rw [e2, upd_same]
      exact fun z => nomatch z
    · rw [upd_ne e2]
      exact w.tr m ((List.mem_cons.mp h).elim (fun z => absurd z e) id), fun _ h => absurd h List.not_mem_nil, fun _ h => absurd h List.not_mem_nil, fun _ h => absurd h List.not_mem_nil⟩
theorem ext_new (k : KpI p (upd (upd H dx o1) p o2) H') (nl : H p = none) (ndx : H dx = none) : Ret [] H H' := ⟨fun a o _ h => k.kp a o (ne_of_none h nl) (by rw [upd_ne (ne_of_none h nl), upd_ne (ne_of_none h ndx)]; exact h), fun _ z => absurd z List.not_mem_nil, fun a h => k.gr a (by
  by_cases e : a = p
  · rw [e, upd_same]
    exact fun z => nomatch z
  · rw [upd_ne e]
    by_cases e2 : a = dx
    · rw [e2, upd_same]
      exact fun z => nomatch z
    · rw [upd_ne e2]
      exact h)⟩
theorem rep_insW (w : Wd ms ps cs H0 H) (np : H p = none) {ns : List Str} {us : List V} {ds : List D} (hp : H' p = some (.ins C dx (ns.zip us))) (hl : ns.length = us.length) (hr : repL (p :: ms) H' ds us) : rep ms H' (.ins C ns ds) (.ref p) := by
  simp only [rep]
  exact ⟨p, dx, us, rfl, fun z => w.tr p z np, hp, hl, repL_weak hr⟩
end
end Rx
namespace Rx
open PySem PySem.Spec PyProof.Rows L2
section
variable {K : PySem.W.Frag} {x qual : Str} {params : Arguments} {body : List Stmt} {scope : Scope} {dvs : List V} {f : Addr} {fd : FuncData} {ps : List Str}
/-- a def with defaults, called with all its arguments -/
theorem FunD_b0 (F : FunD K x qual params body scope dvs [] f fd) (hd : dvs ≠ [])
    (h : ∀ (T : Addr) (kV doc pm : Value) (an : Option Addr) (cdv ct : Value) (us its : List Value), us.length = ps.length → its.length = dvs.length →
      ∃ k, bindArgs (PySem.W.fnOf x qual params body scope (.ref T) kV doc pm an cdv ct) ⟨us, []⟩ = seqItems? (.ref T) >>= k ∧ k (some its.toArray) = pure (ps.zip us)) : Binds K fd ps [] := by
  obtain ⟨ds, rd, hb⟩ := F.binds1 (ps := ps) ps.length dvs.length hd (by omega) fun T kV doc pm an cdv ct us its h1 h2 => by
    obtain ⟨k, e1, e2⟩ := h T kV doc pm an cdv ct us its h1 h2
    refine ⟨k, e1, ?_⟩
    rw [e2, List.drop_of_length_le (by omega), List.append_nil]
  rw [List.drop_length] at rd
  cases rd
  exact hb
end
end Rx
namespace Rx
open PySem PySem.Spec PyProof.Rows L2
/-! x in a written dict, x there -/
def rInW (K : PySem.W.Frag) (w : World) (d : Addr) (b : Bool) : R2 := fun x y H Q => ∃ (z c : Str), x = .str z ∧ y = .ref d ∧ KDct K w d z (.str c) ∧ Q (.bl b) H
section
variable {X : Cx} {K : PySem.W.Frag} {w : World} {d : Addr}
theorem op_inW (hK : X.K = K) (hw : X.w = w) (low : (d == sysModules) = false) : OpR X (compareOp .In) (rInW K w d true) := by
  subst hK hw
  intro pins s σ H x y v u Q I rx ry h
  obtain ⟨z, c, rfl, rfl, ⟨es, n, u0, at_, lit, ns, ru⟩, q⟩ := h
  exact op_in_kd ⟨at_, lit, low⟩ pins s σ H _ _ v u Q I rx ry ⟨z, some u0, rfl, rfl, ns, q⟩
theorem op_ninW (hK : X.K = K) (hw : X.w = w) (low : (d == sysModules) = false) : OpR X (compareOp .NotIn) (rInW K w d false) := by
  subst hK hw
  intro pins s σ H x y v u Q I rx ry h
  obtain ⟨z, c, rfl, rfl, ⟨es, n, u0, at_, lit, ns, ru⟩, q⟩ := h
  exact op_notIn_kd ⟨at_, lit, low⟩ pins s σ H _ _ v u Q I rx ry ⟨z, some u0, rfl, rfl, ns, q⟩
theorem rep_inW {l : List (Str × Str)} {z c : Str} {b : Bool} {H : Hp} {σ : L2.St} {Q : VK} (t : ∀ z c : Str, l.lookup z = some c → KDct K w d z (.str c)) (h : l.lookup z = some c) (q : Q (.bl b) H) : tC (V.ref d) σ H fun y H2 => rInW K w d b (.str z) y H2 Q := ⟨z, c, rfl, rfl, t z c h, q⟩
end
end Rx
namespace Rx
open PySem PySem.Spec PyProof.Rows L2
/-! ranges with a step -/
def rangeS (lo hi c : Int) : List Int := (List.range (if lo < hi then (hi - lo - 1) / c + 1 else 0).toNat).map fun i => lo + ((i : Nat) : Int) * c
def RgB (lo hi : Int) : Prop := -(2 ^ 60) ≤ lo ∧ lo < 2 ^ 60 ∧ -(2 ^ 60) ≤ hi ∧ hi < 2 ^ 60
theorem rangeS_len {lo hi c : Int} : (rangeS lo hi c).length = (if lo < hi then (hi - lo - 1) / c + 1 else 0).toNat := by simp [rangeS]
theorem rangeS_get {lo hi c : Int} {i : Nat} (h : i < (rangeS lo hi c).length) : (rangeS lo hi c)[i]? = some (lo + (i : Int) * c) := by
  rw [rangeS_len] at h
  simp [rangeS, List.getElem?_map, List.getElem?_range h]
theorem rgS_size {lo hi c : Int} (hc : 0 < c) : Builtin.Range.rangeSize lo hi c = ((rangeS lo hi c).length : Int) := by
  rw [rangeS_len]
  unfold Builtin.Range.rangeSize
  rw [if_pos hc]
  split
  · have := Int.ediv_nonneg (a := hi - lo - 1) (b := c) (by omega) (by omega)
    omega
  · rfl
theorem rgS_small {lo hi c : Int} (hc : 0 < c) (hc2 : c < 2 ^ 30) (hb : RgB lo hi) : Builtin.Range.small lo hi c = true := by
  obtain ⟨h1, h2, h3, h4⟩ := hb
  have e : Builtin.Range.rangeSize lo hi c ≤ 2 ^ 61 ∧ 0 ≤ Builtin.Range.rangeSize lo hi c := by
    unfold Builtin.Range.rangeSize
    rw [if_pos hc]
    split
    · have a := Int.ediv_nonneg (a := hi - lo - 1) (b := c) (by omega) (by omega)
      have b := Int.ediv_le_self (a := hi - lo - 1) c (by omega)
      omega
    · omega
  unfold Builtin.Range.small
  have f : ∀ z : Int, -(2 ^ 62) ≤ z → z < 2 ^ 62 → Builtin.Range.rangeFitsLong z = true := by
    intro z a b
    unfold Builtin.Range.rangeFitsLong
    simp only [Bool.and_eq_true, decide_eq_true_eq]
    omega
  rw [f lo (by omega) (by omega), f hi (by omega) (by omega), f c (by omega) (by omega), f _ (by omega) (by omega), if_pos hc, f (hi + (c - 1)) (by omega) (by omega)]
  simp
theorem rgC_of {lo hi c : Int} (hc : 0 < c) (hc2 : c < 2 ^ 30) (hb : RgB lo hi) : RgC lo hi c (rangeS lo hi c).length :=
  ⟨by omega, by omega, rgS_small hc hc2 hb, rgS_size hc⟩
section
variable {α β : Type} {K : PySem.W.Frag} {H1 H2 : Hp} {g : TG} {tt : TT} {te : TE} {vl : List Nat} {σ : L2.St} {Qd : Hp → Prop} {L : Addr}
theorem lc_rangeTG {lo hi c : Int} {body : Int → (β → Prop) → Prop} {KM : List β → Prop} (SI : Nat → List β → Hp → Prop) (hM : (rangeS lo hi c).length < 100000 ∧ mapC body (rangeS lo hi c) [] KM) (h0 : SI 0 [] (upd H1 L (.lst [])))
    (hs : ∀ (x : Int) (n : Nat) (ys : List β) (k : β → Prop) (H : Hp), n < 100000 → SI n ys H → body x k → ∀ Nx : Hp → Prop, (∀ y H', k y → SI (n + 1) (ys ++ [y]) H' → Nx H') → Turn g tt te vl σ L (.int x) H Nx)
    (hd : ∀ n ys H, KM ys → SI n ys H → Qd H) :
    ∃ W : Nat → Nat → Hp → Prop, (∃ m, W 0 m (upd H1 L (.lst []))) ∧ ∀ i m H, W i m H →
      ((Itc lo c (rangeS lo hi c).length).stop i H ∧ Qd H) ∨ ((Itc lo c (rangeS lo hi c).length).go i H ∧ ∃ Nx : Hp → Prop, (∀ H', Nx H' → ∃ m', m' < m ∧ W (i + 1) m' H') ∧ ∀ x H', (Itc lo c (rangeS lo hi c).length).yld i H x H' → g x (wipe σ vl) H' fun σ2 H2 => wipe σ2 vl = wipe σ vl ∧ tt σ2 H2 fun b H3 =>
        if b = true then te σ2 H3 fun y H4 => ∃ acc, H4 L = some (.lst acc) ∧ acc.length < sizeLine ∧ Nx (upd H4 L (.lst (acc ++ [y]))) else Nx H3) := by
  obtain ⟨hn, hM⟩ := hM
  refine ⟨fun i m H => m = (rangeS lo hi c).length - i ∧ i ≤ (rangeS lo hi c).length ∧ ∃ ys, SI i ys H ∧ mapC body ((rangeS lo hi c).drop i) ys KM, ⟨_, rfl, Nat.zero_le _, [], h0, hM⟩, ?_⟩
  rintro i m H ⟨rfl, hi', ys, T, q⟩
  by_cases hlt : i < (rangeS lo hi c).length
  · refine .inr ⟨hlt, fun H' => i + 1 ≤ (rangeS lo hi c).length ∧ ∃ ys, SI (i + 1) ys H' ∧ mapC body ((rangeS lo hi c).drop (i + 1)) ys KM, fun H' p' => ⟨_, by omega, rfl, p'⟩, fun x H' y => ?_⟩
    obtain ⟨e, y⟩ := y
    subst e y
    rw [drop_cons' (rangeS_get hlt)] at q
    exact hs _ i ys _ H' (by omega) T q _ fun y H' k T' => ⟨hlt, _, T', k⟩
  · have e : i = (rangeS lo hi c).length := by omega
    refine .inl ⟨by rw [e]; exact Nat.le_refl _, ?_⟩
    rw [List.drop_of_length_le (by omega)] at q
    exact hd _ ys H q T
theorem lf_rangeTG {lo hi c : Int} {body : Int → (Option β → Prop) → Prop} {KM : List β → Prop} (SI : Nat → List β → Hp → Prop) (hM : (rangeS lo hi c).length < 100000 ∧ filC body (rangeS lo hi c) [] KM) (h0 : SI 0 [] (upd H1 L (.lst [])))
    (hs : ∀ (x : Int) (n : Nat) (ys : List β) (k : Option β → Prop) (H : Hp), n < 100000 → SI n ys H → body x k → ∀ Nx : Hp → Prop, (∀ y H', k (some y) → SI (n + 1) (ys ++ [y]) H' → Nx H') → (∀ H', k none → SI (n + 1) ys H' → Nx H') → Turn g tt te vl σ L (.int x) H Nx)
    (hd : ∀ n ys H, KM ys → SI n ys H → Qd H) :
    ∃ W : Nat → Nat → Hp → Prop, (∃ m, W 0 m (upd H1 L (.lst []))) ∧ ∀ i m H, W i m H →
      ((Itc lo c (rangeS lo hi c).length).stop i H ∧ Qd H) ∨ ((Itc lo c (rangeS lo hi c).length).go i H ∧ ∃ Nx : Hp → Prop, (∀ H', Nx H' → ∃ m', m' < m ∧ W (i + 1) m' H') ∧ ∀ x H', (Itc lo c (rangeS lo hi c).length).yld i H x H' → g x (wipe σ vl) H' fun σ2 H2 => wipe σ2 vl = wipe σ vl ∧ tt σ2 H2 fun b H3 =>
        if b = true then te σ2 H3 fun y H4 => ∃ acc, H4 L = some (.lst acc) ∧ acc.length < sizeLine ∧ Nx (upd H4 L (.lst (acc ++ [y]))) else Nx H3) := by
  obtain ⟨hn, hM⟩ := hM
  refine ⟨fun i m H => m = (rangeS lo hi c).length - i ∧ i ≤ (rangeS lo hi c).length ∧ ∃ ys, SI i ys H ∧ filC body ((rangeS lo hi c).drop i) ys KM, ⟨_, rfl, Nat.zero_le _, [], h0, hM⟩, ?_⟩
  rintro i m H ⟨rfl, hi', ys, T, q⟩
  by_cases hlt : i < (rangeS lo hi c).length
  · refine .inr ⟨hlt, fun H' => i + 1 ≤ (rangeS lo hi c).length ∧ ∃ ys, SI (i + 1) ys H' ∧ filC body ((rangeS lo hi c).drop (i + 1)) ys KM, fun H' p' => ⟨_, by omega, rfl, p'⟩, fun x H' y => ?_⟩
    obtain ⟨e, y⟩ := y
    subst e y
    rw [drop_cons' (rangeS_get hlt)] at q
    exact hs _ i ys _ H' (by omega) T q _ (fun y H' k T' => ⟨hlt, _, T', k⟩) fun H' k T' => ⟨hlt, _, T', k⟩
  · have e : i = (rangeS lo hi c).length := by omega
    refine .inl ⟨by rw [e]; exact Nat.le_refl _, ?_⟩
    rw [List.drop_of_length_le (by omega)] at q
    exact hd _ ys H q T
theorem lc_rangeTS {lo hi c : Int} {body : Int → S → (β → S → Prop) → Prop} {KM : List β → S → Prop} (SI : Nat → List β → S → Hp → Prop) (s0 : S) (hM : (rangeS lo hi c).length < 100000 ∧ mapS body (rangeS lo hi c) [] s0 KM) (h0 : SI 0 [] s0 (upd H1 L (.lst [])))
    (hs : ∀ (x : Int) (n : Nat) (ys : List β) (s : S) (k : β → S → Prop) (H : Hp), n < 100000 → SI n ys s H → body x s k → ∀ Nx : Hp → Prop, (∀ y s' H', k y s' → SI (n + 1) (ys ++ [y]) s' H' → Nx H') → Turn g tt te vl σ L (.int x) H Nx)
    (hd : ∀ n ys s H, KM ys s → SI n ys s H → Qd H) :
    ∃ W : Nat → Nat → Hp → Prop, (∃ m, W 0 m (upd H1 L (.lst []))) ∧ ∀ i m H, W i m H →
      ((Itc lo c (rangeS lo hi c).length).stop i H ∧ Qd H) ∨ ((Itc lo c (rangeS lo hi c).length).go i H ∧ ∃ Nx : Hp → Prop, (∀ H', Nx H' → ∃ m', m' < m ∧ W (i + 1) m' H') ∧ ∀ x H', (Itc lo c (rangeS lo hi c).length).yld i H x H' → g x (wipe σ vl) H' fun σ2 H2 => wipe σ2 vl = wipe σ vl ∧ tt σ2 H2 fun b H3 =>
        if b = true then te σ2 H3 fun y H4 => ∃ acc, H4 L = some (.lst acc) ∧ acc.length < sizeLine ∧ Nx (upd H4 L (.lst (acc ++ [y]))) else Nx H3) := by
  obtain ⟨hn, hM⟩ := hM
  refine ⟨fun i m H => m = (rangeS lo hi c).length - i ∧ i ≤ (rangeS lo hi c).length ∧ ∃ ys s, SI i ys s H ∧ mapS body ((rangeS lo hi c).drop i) ys s KM, ⟨_, rfl, Nat.zero_le _, [], s0, h0, hM⟩, ?_⟩
  rintro i m H ⟨rfl, hi', ys, s, T, q⟩
  by_cases hlt : i < (rangeS lo hi c).length
  · refine .inr ⟨hlt, fun H' => i + 1 ≤ (rangeS lo hi c).length ∧ ∃ ys s, SI (i + 1) ys s H' ∧ mapS body ((rangeS lo hi c).drop (i + 1)) ys s KM, fun H' p' => ⟨_, by omega, rfl, p'⟩, fun x H' y => ?_⟩
    obtain ⟨e, y⟩ := y
    subst e y
    rw [drop_cons' (rangeS_get hlt)] at q
    exact hs _ i ys s _ H' (by omega) T q _ fun y s' H' k T' => ⟨hlt, _, _, T', k⟩
  · have e : i = (rangeS lo hi c).length := by omega
    refine .inl ⟨by rw [e]; exact Nat.le_refl _, ?_⟩
    rw [List.drop_of_length_le (by omega)] at q
    exact hd _ ys s H q T
end
section
variable {α S : Type} {K : PySem.W.Frag} {H1 : Hp} {g : TG} {tb : TS} {D' : Ends} {σ : L2.St}
theorem for_rangeTG {lo hi c : Int} {body : Int → S → (S → Prop) → Prop} {KM : S → Prop} (SI : S → L2.St → Hp → Prop) (s0 : S) (hM : forC body (rangeS lo hi c) s0 KM) (h0 : SI s0 σ H1)
    (hs : ∀ (x : Int) (s : S) (k : S → Prop) (σ : L2.St) (H : Hp), SI s σ H → body x s k → ∀ Nx : L2.St → Hp → Prop, (∀ s' σ' H', k s' → SI s' σ' H' → Nx σ' H') →
      g (.int x) σ H fun σ2 H2 => tb { D' with nx := Nx, ct := Nx, bk := D'.nx } σ2 H2)
    (hd : ∀ s σ H, KM s → SI s σ H → D'.nx σ H) :
    ∃ W : Nat → Nat → L2.St → Hp → Prop, (∃ m, W 0 m σ H1) ∧ ∀ i m σ H, W i m σ H →
      ((Itc lo c (rangeS lo hi c).length).stop i H ∧ D'.nx σ H) ∨ ((Itc lo c (rangeS lo hi c).length).go i H ∧ ∃ Nx : L2.St → Hp → Prop, (∀ σ' H', Nx σ' H' → ∃ m', m' < m ∧ W (i + 1) m' σ' H') ∧ ∀ x H', (Itc lo c (rangeS lo hi c).length).yld i H x H' → g x σ H' fun σ2 H2 => tb { D' with nx := Nx, ct := Nx, bk := D'.nx } σ2 H2) := by
  refine L2.for_rangeC (lo := lo) (c := c) (n := (rangeS lo hi c).length) (D := D') (fun i σ H => ∃ s, SI s σ H ∧ forC body ((rangeS lo hi c).drop i) s KM) ⟨s0, h0, hM⟩ (fun i σ H hi' ⟨s, si, q⟩ => ?_) (fun σ H ⟨s, si, q⟩ => ?_)
  · rw [drop_cons' (rangeS_get hi')] at q
    exact hs _ s _ σ H si q _ fun s' σ' H' hk si2 => ⟨s', si2, hk⟩
  · rw [List.drop_of_length_le (Nat.le_refl _)] at q
    exact hd s σ H q si
end
theorem paired_at {ys : List V} {l : List Value} (hl : ys.length = l.length) (h : ∀ (i : Nat) (v : V) (u : Value), ys[i]? = some v → l[i]? = some u → L2.RelV v u) : Vals ys l := by
  induction ys generalizing l with
  | nil =>
    cases l with
    | nil => exact .nil
    | cons _ _ => cases hl
  | cons y ys ih =>
    cases l with
    | nil => cases hl
    | cons u l => exact .cons (h 0 y u rfl rfl) (ih (Nat.succ.inj hl) fun i v u a b => h (i + 1) v u a b)
section
variable {X : L2.Cx} {a b c e : PySem.Expr} {ta : TA}
/-- list(range(a, b, c)) -/
def tLstRg3 (ta : TA) : TE := fun σ H Q => ta σ H fun vs H1 => ∃ i j c : Int, vs = [.int i, .int j, .int c] ∧ (0 < c ∧ c < 2 ^ 30) ∧ RgB i j ∧ (rangeS i j c).length ≤ 2 ^ 24 ∧ ∀ q, H1 q = none → Q (.ref q) (upd H1 q (.lst ((rangeS i j c).map V.int)))
theorem pe_listRg3 {p pos p' pos' : Pos} (hc : X.calm = true) (hl : Gl X "list") (hlm : X.mg "list" = none) (hg : Gl X "range") (hm : X.mg "range" = none) (ha : PA X [a, b, c] ta)
    (hs : starEach [a, b, c] X.env = [(false, eval a X.env), (false, eval b X.env), (false, eval c X.env)] := by rfl) (hs2 : starEach [b, c] X.env = [(false, eval b X.env), (false, eval c X.env)] := by rfl) :
    PE X (.Call (.Name "list" p) [.Call (.Name "range" p') [a, b, c] [] pos'] [] pos) (tLstRg3 ta) := by
  refine ⟨fun pins s σ H Q I h => ?_⟩
  refine Call_ (ld_blt I hl hlm boot_list (PyProof.Rows.callWith_type1 (e := .Call (.Name "range" p') [a, b, c] [] pos') (rest := []) (PyProof.Rows.args_cons (Call_ (ld_blt I hg hm boot_range (PyProof.Rows.callWith_type1 (thn (ha.run pos' pins s σ H _ I h) fun us s1 ⟨vs, H1, I1, r1, q1⟩ => ?_) (by rw [hs, hs2]) (by rw [hs2]; rfl)))) rfl) rfl rfl))
  obtain ⟨i, j, c, e, ⟨c0, c1⟩, hb, hn, q⟩ := q1
  subst e
  cases r1 with
  | cons r rr =>
  cases rr with
  | cons r' rr =>
  cases rr with
  | cons r'' rr =>
  cases rr
  obtain ⟨t, rfl⟩ := r
  obtain ⟨t', rfl⟩ := r'
  obtain ⟨t'', rfl⟩ := r''
  refine call_range_3 (by omega) (PyProof.Rows.args_nil ?_) (.inl ?_)
  · have I2 : L2.Inv X pins σ H1 { heap := s1.heap.push { cls := .type "range", data := .fields #[.int i t, .int j t', .int c t''] }, gens := s1.gens, drawn := s1.drawn, toks := s1.toks, os := s1.os } := I1.kept fun b o e => Heap.get?_push_of_some _ e
    refine call_list_range (I2.ok.hd hc) (IsRange.new _ i j c t t' t'') (rgS_small c0 c1 hb) (rgS_size c0) hn fun h' tk acc' c' hk hob hit => ?_
    obtain ⟨hi1, hi2⟩ := hit
    refine ⟨.ref _, _, I2.laid (a := _) (o := .lst ((rangeS i j c).map V.int)) (t' := tk) hk (Nat.le_refl _) ?_, rfl, q _ I2.fresh⟩
    refine ⟨by rw [List.length_map, sizeLine_eq]; omega, acc'.toList, c', paired_at (by rw [List.length_map]; exact hi1.symm) fun k v u hv hu => ?_, hob⟩
    rw [List.getElem?_map] at hv
    have lt : k < (rangeS i j c).length := by
      rcases Nat.lt_or_ge k (rangeS i j c).length with h | h
      · exact h
      · rw [List.getElem?_eq_none h] at hv
        cases hv
    rw [rangeS_get lt] at hv
    cases hv
    obtain ⟨tt, e⟩ := hi2 k u (by simpa using hu)
    exact ⟨tt, e⟩
  · unfold Builtin.divisionGoesByPylong
    have e : c.natAbs.log2 < 30 := (Nat.log2_lt (by omega)).mpr (by omega)
    have d : (if (c == 0) = true then 0 else c.natAbs.log2 / 30 + 1) ≤ 1 := by
      split
      · omega
      · omega
    simp only [Bool.and_eq_false_iff, decide_eq_false_iff_not]
    exact .inl (by omega)
end
/-! text[::-1] -/
def revS (z : Str) : Str := ⟨z.cps.reverse⟩
theorem revS_len (z : Str) : (revS z).length = z.length := by
  show (z.cps.reverse).size = z.cps.size
  exact Array.size_reverse
theorem revS_eq (z : Str) (u : Tok) : Txt.sliceBy z none none (-1, u) = revS z := by
  have h := step_rev_list z u
  have e : (Txt.sliceBy z none none (-1, u)).cps = (revS z).cps := by
    apply Array.toList_inj.mp
    rw [h]
    show _ = (z.cps.reverse).toList
    rw [Array.toList_reverse]
    apply List.ext_getElem?
    intro i
    rw [List.getElem?_map]
    by_cases c : i < z.length
    · rw [List.getElem?_range c, List.getElem?_reverse (by exact c)]
      show some (z.cps.getD (z.length - 1 - i) 0) = z.cps.toList[z.length - 1 - i]?
      rw [Array.getD_eq_getD_getElem?, ← Array.getElem?_toList, List.getElem?_eq_getElem (show z.length - 1 - i < z.cps.toList.length from (by have : z.cps.toList.length = z.length := rfl; omega))]
      rfl
    · rw [List.getElem?_eq_none (by simpa using c), List.getElem?_eq_none (by rw [List.length_reverse]; exact Nat.le_of_not_lt c)]
      rfl
  cases hx : Txt.sliceBy z none none (-1, u) with
  | mk c =>
    rw [hx] at e
    show Str.mk c = Str.mk _
    rw [show c = _ from e]
    rfl
section
variable {X : L2.Cx} {e : PySem.Expr} {te : TE}
def tRevS (te : TE) : TE := fun σ H Q => te σ H fun x H1 => ∃ z : Str, x = .str z ∧ z.length ≤ sizeLine ∧ Q (.str (revS z)) H1
theorem pe_revS {e : PySem.Expr} {k : Nat} {p1 p2 p3 pos : Pos} (h : PE X e te)  (hl : ∀ o r : Value, letTemporaryGo e o r = pure () := by intros; rfl) :
    PE X (.Subscript e (.Slice none none (some (.UnaryOp .USub (.Constant (.int 1) k p1) p2)) p3) pos) (tRevS te) := by
  refine ⟨fun pins s σ H Q I q => ?_⟩
  have hn : PE X (.UnaryOp .USub (.Constant (.int 1) k p1) p2) (tC (.int (-1))) := ⟨fun pins s σ H Q I q => (pe_un un_neg pe_int).run pins s σ H Q I ⟨1, rfl, q⟩⟩
  refine wpAny_Subscript_Slice_step (T := "str") (id := "str.__getitem__") (by rfl) (thn (h.run pins s σ H _ I q) fun v s1 ⟨x, H1, I1, r1, q1⟩ => ?_) hl
  obtain ⟨z, e, hz, q1⟩ := q1
  subst e
  obtain ⟨t, rfl⟩ := r1
  refine wpAny_Slice (evalPart_none_step (evalPart_none_step (wpAny_evalPart_some (thn (hn.run pins s1 σ H1 (fun y H2 => y = .int (-1) ∧ H2 = H1) I1 ⟨rfl, rfl⟩) fun v s2 ⟨y, H2, I2, r2, q2⟩ => ?_))))
  obtain ⟨e1, e2⟩ := q2
  subst e1 e2
  obtain ⟨t2, rfl⟩ := r2
  refine ⟨rfl, wpAny_getItem_str_slice (l := none) (u := none) (st := some (-1, t2)) ⟨_, Heap.get?_push_size _ rfl, rfl, rfl⟩ (by rfl) ?_⟩
  have e : sliceMade z t none none (some (-1, t2)) = .str (revS z) := by
    rw [← revS_eq z t2]
    rfl
  rw [e]
  unfold Made.post
  exact ⟨by rw [revS_len]; exact hz, .str (revS z), _, I2.kept fun b o e => Heap.get?_push_of_some _ e, ⟨_, rfl⟩, q1⟩
end
theorem repL_intsM {ms : List Addr} {H : Hp} {xs : List Int} : repL ms H (xs.map fun y_ : Int => D.v (V.int y_)) (xs.map V.int) := by
  have e1 : xs.map (fun y_ : Int => D.v (V.int y_)) = (xs.map V.int).map D.v := by
    rw [List.map_map]
    rfl
  rw [e1]
  exact repL_flat.mpr rfl
/-! results that may be None, of plain values -/
def optV {α : Type} (f : α → V) : Option α → V
  | none => .non
  | some y => f y
theorem rep_oV {α : Type} {f : α → V} {ms : List Addr} {H : Hp} {m : Option α} : rep ms H (encO (fun y_ : α => D.v (f y_)) m) (optV f m) := by
  cases m <;> exact rep_v
theorem rep_optV {α : Type} {f : α → V} {ms : List Addr} {H : Hp} {m : Option α} {u : V} (h : rep ms H (encO (fun y_ : α => D.v (f y_)) m) u) : u = optV f m := by
  cases m <;> exact of_v h
theorem optV_isN {α : Type} {f : α → V} {m : Option α} (he : ∀ y, f y ≠ .non) : decide (optV f m = .non) = m.isNone := by
  cases m with
  | none => rfl
  | some y => exact decide_eq_false (he y)
theorem optV_isSome {α : Type} {f : α → V} {m : Option α} (he : ∀ y, f y ≠ .non) : (!decide (optV f m = .non)) = m.isSome := by
  rw [optV_isN he]
  cases m <;> rfl
theorem optV_some {α : Type} {f : α → V} {m : Option α} {y : α} (h : m = some y) : optV f m = f y := by rw [h]; rfl
theorem scal_oo {a b : Option Int} : scal (optV V.int a) (optV V.int b) = true := by
  cases a <;> cases b <;> rfl
theorem scal_oi {a : Option Int} {b : Int} : scal (optV V.int a) (V.int b) = true := by
  cases a <;> rfl
theorem scal_io {a : Int} {b : Option Int} : scal (V.int a) (optV V.int b) = true := by
  cases b <;> rfl
theorem scal_on {a : Option Int} : scal (optV V.int a) V.non = true := by
  cases a <;> rfl
/-! x in a list or tuple of plain values -/
section
variable {X : L2.Cx} {K : PySem.W.Frag} {ms : List Addr} {H : Hp} {u x : V}
theorem op_inSK (hK : X.K = K) : OpR X (compareOp .In) (rIn K false) := by
  subst hK
  exact op_in_seq
theorem op_ninSK (hK : X.K = K) : OpR X (compareOp .NotIn) (rIn K true) := by
  subst hK
  exact op_notIn_seq
theorem inQ_all {α : Type} {f : α → V} {xs : List α} (fs : ∀ y, flatV (f y) = true) : (xs.map f).all flatV = true := by
  rw [List.all_map]
  exact List.all_eq_true.mpr fun y _ => fs y
theorem inQ_eq {α : Type} {f : α → V} {xs : List α} {vs : List V} (h : repL ms H (xs.map fun y_ : α => D.v (f y_)) vs) : vs = xs.map f := by
  have e1 : xs.map (fun y_ : α => D.v (f y_)) = (xs.map f).map D.v := by
    rw [List.map_map]
    rfl
  rw [e1] at h
  exact repL_flat.mp h
theorem rep_inL {α : Type} {f : α → V} {xs : List α} {Q : VK} (h : rep ms H (.lst (xs.map fun y_ : α => D.v (f y_))) u) (fx : flatV x = true) (fs : ∀ y, flatV (f y) = true) (k : Q (.bl (inV x (xs.map f))) H) : rIn K false x u H Q := by
  simp only [rep] at h
  obtain ⟨p, vs, e, _, hp, hr⟩ := h
  rw [inQ_eq hr] at hp
  exact ⟨p, _, e, .inl (.inl (.inl hp)), fx, inQ_all fs, k⟩
theorem rep_ninL {α : Type} {f : α → V} {xs : List α} {Q : VK} (h : rep ms H (.lst (xs.map fun y_ : α => D.v (f y_))) u) (fx : flatV x = true) (fs : ∀ y, flatV (f y) = true) (k : Q (.bl (!inV x (xs.map f))) H) : rIn K true x u H Q := by
  simp only [rep] at h
  obtain ⟨p, vs, e, _, hp, hr⟩ := h
  rw [inQ_eq hr] at hp
  exact ⟨p, _, e, .inl (.inl (.inl hp)), fx, inQ_all fs, k⟩
theorem rep_inT {α : Type} {f : α → V} {xs : List α} {Q : VK} (h : rep ms H (.tup (xs.map fun y_ : α => D.v (f y_))) u) (fx : flatV x = true) (fs : ∀ y, flatV (f y) = true) (k : Q (.bl (inV x (xs.map f))) H) : rIn K false x u H Q := by
  simp only [rep] at h
  obtain ⟨p, vs, e, _, hp, hr⟩ := h
  rw [inQ_eq hr] at hp
  exact ⟨p, _, e, .inr (.inl (.inl hp)), fx, inQ_all fs, k⟩
theorem rep_ninT {α : Type} {f : α → V} {xs : List α} {Q : VK} (h : rep ms H (.tup (xs.map fun y_ : α => D.v (f y_))) u) (fx : flatV x = true) (fs : ∀ y, flatV (f y) = true) (k : Q (.bl (!inV x (xs.map f))) H) : rIn K true x u H Q := by
  simp only [rep] at h
  obtain ⟨p, vs, e, _, hp, hr⟩ := h
  rw [inQ_eq hr] at hp
  exact ⟨p, _, e, .inr (.inl (.inl hp)), fx, inQ_all fs, k⟩
theorem inV_int {x : Int} {xs : List Int} : inV (.int x) (xs.map V.int) = true ↔ x ∈ xs := by
  unfold inV
  rw [List.any_map, List.any_eq_true]
  constructor
  · rintro ⟨y, hy, e⟩
    have e' : (y == x) = true := e
    rw [← eq_of_beq e']
    exact hy
  · intro h
    exact ⟨x, h, show (x == x) = true from beq_self_eq_true x⟩
end
section
variable {K : PySem.W.Frag} {ms ps : List Addr} {H0 H H' H1 : Hp} {L : Addr} {d : D} {ds : List D} {u x y : V} {vs : List V} {ks : List Key} {k : Key}
theorem rep_itemsR {Q : VK} (w : Wd ms ps [] H0 H) (h : rep ms H (.dct ks ds) x)
    (q : ∀ (H' : Hp) (p : Addr), Ret [] H H' → (∀ (r : List V → Hp → Prop), (∀ vs, ks.length = vs.length → repL ms H' ds vs → (∃ ps, SqL K H' p (ps.map V.ref) ∧ Paired (fun p kv => SqT K H' p [kV kv.1, kv.2]) ps (ks.zip vs)) → r vs H') → ∃ vs, ks.length = vs.length ∧ repL ms H' ds vs ∧ r vs H') → Q (.ref p) H') : LiI.rItemsL x H Q := rep_items w h q
end
end Rx
namespace Rx
open PySem PySem.Spec PyProof.Rows L2
section
variable {K : PySem.W.Frag} {ms ps : List Addr} {H0 H : Hp} {x : V}
theorem rep_gunl {ds : List D} {n : Nat} {Q : L2.St → Hp → Prop} {t : TGs} {σ : L2.St} (h : rep ms H (.lst ds) x) (hn : ds.length = n) (k : ∀ vs, repL ms H ds vs → t vs σ H Q) : ∃ a xs, x = .ref a ∧ SqL K H a xs ∧ xs.length = n ∧ t xs σ H Q := by
  simp only [rep] at h
  obtain ⟨p, vs, e, _, hp, hr⟩ := h
  exact ⟨p, vs, e, .inl (.inl hp), by rw [← repL_len hr]; exact hn, k vs hr⟩
theorem rep_iterE {ds : List D} {P : Addr → Prop} (h : rep ms H (.lst ds) x) (k : ∀ a xs, x = .ref a → a ∉ ms → H a = some (.lst xs) → repL ms H ds xs → P a) : ∃ (a : Addr) (xs : List V), [x] = [.ref a] ∧ SqL K H a xs ∧ P a := by
  simp only [rep] at h
  obtain ⟨p, vs, e, n, hp, hr⟩ := h
  exact ⟨p, vs, by rw [e], .inl (.inl hp), k p vs e n hp hr⟩
end
section
variable {α S : Type} {K : PySem.W.Frag} {H1 : Hp} {g : TG} {tb : TS} {D' : Ends} {σ : L2.St}
/-- a pair that is new at T -/
theorem rep_pair {ms : List Addr} {H H2 : Hp} {T : Addr} {d1 d2 : D} {v1 v2 : V} (tr : ∀ m ∈ ms, H m ≠ none) (nT : H T = none) (e : H2 = upd H T (.tup [v1, v2])) (h1 : rep ms H d1 v1) (h2 : rep ms H d2 v2) : rep ms H2 (.tup [d1, d2]) (.ref T) := by
  subst e
  simp only [rep]
  refine ⟨T, [v1, v2], rfl, fun z => tr T z nT, upd_same, ?_⟩
  exact repL_ext (Ext.new nT) (repL_cons h1 (repL_cons h2 repL_nil))
theorem for_enumG {items : List α} {e : α → D} {ms : List Addr} {a : Addr} {xs : List V} {body : (Int × α) → S → (S → Prop) → Prop} {KM : S → Prop} (SI : S → L2.St → Hp → Prop) (s0 : S) (an : a ∉ ms) (ha : H1 a = some (.lst xs)) (hx : repL ms H1 (items.map e) xs)
    (kp : ∀ s σ H, SI s σ H → Keep ms H1 H) (tr : ∀ s σ H, SI s σ H → ∀ m ∈ ms, H m ≠ none) (hM : forC body ((rangeI 0 (items.length : Int)).zip items) s0 KM) (h0 : SI s0 σ H1)
    (hs : ∀ (x : Int × α) (u : V) (s : S) (k : S → Prop) (σ : L2.St) (H H2 : Hp), SI s σ H → Ext H H2 → rep ms H2 (.tup [.v (.int x.1), e x.2]) u → body x s k → ∀ Nx : L2.St → Hp → Prop, (∀ s' σ' H', k s' → SI s' σ' H' → Nx σ' H') →
      g u σ H2 fun σ2 H2 => tb { D' with nx := Nx, ct := Nx, bk := D'.nx } σ2 H2)
    (hd : ∀ s σ H, KM s → SI s σ H → D'.nx σ H) :
    ∃ W : Nat → Nat → L2.St → Hp → Prop, (∃ m, W 0 m σ H1) ∧ ∀ i m σ H, W i m σ H →
      ((Ite K a).stop i H ∧ D'.nx σ H) ∨ ((Ite K a).go i H ∧ ∃ Nx : L2.St → Hp → Prop, (∀ σ' H', Nx σ' H' → ∃ m', m' < m ∧ W (i + 1) m' σ' H') ∧ ∀ x H', (Ite K a).yld i H x H' → g x σ H' fun σ2 H2 => tb { D' with nx := Nx, ct := Nx, bk := D'.nx } σ2 H2) := by
  have hl : items.length = xs.length := by
    have := repL_len hx
    rwa [List.length_map] at this
  have rl : (rangeI 0 (items.length : Int)).length = items.length := by rw [rangeI_len]; omega
  have zl : ((rangeI 0 (items.length : Int)).zip items).length = xs.length := by rw [List.length_zip, rl, hl, Nat.min_self]
  refine for_it (walk_enum (K := K) (a := a) (xs := xs)) (D := D') (fun i σ H => ∃ s, SI s σ H ∧ forC body (((rangeI 0 (items.length : Int)).zip items).drop i) s KM) ⟨s0, h0, hM⟩ (fun i σ H _ ⟨s, si, _⟩ => .inl (.inl (kp s σ H si a _ an ha))) (fun i u σ H H' hi ⟨s, si, q⟩ y => ?_) (fun σ H ⟨s, si, q⟩ => ?_)
  · obtain ⟨T, x1, x2, rfl, nT, eH, e1, e2⟩ := y
    have hit : items[i]? = some (items[i]'(by omega)) := List.getElem?_eq_getElem (by omega)
    have hz : ((rangeI 0 (items.length : Int)).zip items)[i]? = some ((i : Int), items[i]'(by omega)) := by
      rw [List.getElem?_zip_eq_some]
      exact ⟨by rw [rangeI_get (by omega)]; congr 1; omega, hit⟩
    rw [drop_cons' hz] at q
    obtain ⟨v, hv, rv⟩ := repL_get (repL_keep (kp s σ H si) hx) (j := i) (d := e (items[i]'(by omega))) (by rw [List.getElem?_map, hit]; rfl)
    have e2 : xs[i]? = some x2 := e2
    rw [e2] at hv
    have ev : x2 = v := Option.some.inj hv
    subst ev
    have ev1 : V.int (i : Nat) = x1 := Option.some.inj e1
    subst ev1
    have ex : Ext H H' := by rw [eH]; exact Ext.new nT
    exact hs ((i : Int), items[i]'(by omega)) (.ref T) s _ σ H H' si ex (rep_pair (tr s σ H si) nT eH rep_v rv) q _ fun s' σ' H'' hk si2 => ⟨s', si2, hk⟩
  · rw [List.drop_of_length_le (by omega)] at q
    exact hd s σ H q si
end
end Rx
namespace Rx
open PySem PySem.Spec PyProof.Rows L2
/-! dicts with any keys of one kind -/
section
variable {α κ : Type} [DecidableEq κ]
def putD (m : List (κ × α)) (k : κ) (y : α) : List (κ × α) := if (m.any fun q => decide (q.1 = k)) = true then m.map (fun q => if q.1 = k then (q.1, y) else q) else m ++ [(k, y)]
def getD (m : List (κ × α)) (k : κ) : Option α := (m.find? fun q => decide (q.1 = k)).map (·.2)
def hasD (m : List (κ × α)) (k : κ) : Bool := m.any fun q => decide (q.1 = k)
theorem zip_fst_any {k : κ} : ∀ {m : List (κ × α)} {vs : List V}, m.length = vs.length → (((m.map (·.1)).zip vs).any fun kv => decide (kv.1 = k)) = m.any fun q => decide (q.1 = k)
  | [], [], _ => rfl
  | q :: m, v :: vs, h => by
    rw [List.map_cons, List.zip_cons_cons, List.any_cons, List.any_cons, zip_fst_any (by simpa using h)]
  | [], _ :: _, h => by simp at h
  | _ :: _, [], h => by simp at h
theorem putK_map {k : κ} {y : α} {v : V} : ∀ {m : List (κ × α)} {vs : List V}, m.length = vs.length → ((m.map (·.1)).zip vs).map (fun kv => if kv.1 = k then (kv.1, v) else kv) = ((m.map (fun q => if q.1 = k then (q.1, y) else q)).map (·.1)).zip ((m.zip vs).map fun z => if z.1.1 = k then v else z.2)
  | [], [], _ => rfl
  | q :: m, w :: vs, h => by
    have ih := putK_map (k := k) (y := y) (v := v) (m := m) (vs := vs) (by simpa using h)
    rw [List.map_cons, List.zip_cons_cons, List.map_cons, ih, List.map_cons, List.map_cons, List.zip_cons_cons, List.map_cons, List.zip_cons_cons]
    by_cases e : q.1 = k
    · simp [e]
    · simp [e]
  | [], _ :: _, h => by simp at h
  | _ :: _, [], h => by simp at h
end
section
variable {α : Type} {K : PySem.W.Frag} {ms ps : List Addr} {H0 H : Hp} {L : Addr} {x : V} {e : α → D}
theorem repL_mapD {ms : List Addr} {H : Hp} {y : α} {v : V} {k : Key} (rv : rep ms H (e y) v) : ∀ {m : List (Key × α)} {vs : List V}, repL ms H (m.map fun q => e q.2) vs → repL ms H ((m.map (fun q => if q.1 = k then (q.1, y) else q)).map fun q => e q.2) ((m.zip vs).map fun z => if z.1.1 = k then v else z.2)
  | [], vs, h => by
    have := repL_empty h
    subst this
    exact repL_nil
  | q :: m, vs, h => by
    obtain ⟨u, us, rfl, h1, h2⟩ := repL_uncons h
    have ih := repL_mapD (y := y) (v := v) (k := k) rv h2
    by_cases c : q.1 = k
    · simp only [List.map_cons, List.zip_cons_cons, if_pos c]
      exact repL_cons rv ih
    · simp only [List.map_cons, List.zip_cons_cons, if_neg c]
      exact repL_cons h1 ih
/-- d[k] = v, the key new or not -/
theorem mo_putA {m : List (Key × α)} {k : Key} {y : α} {v : V} {Q : Hp → Prop} (mo : MutO ms ps H0 H L (.dct (m.map (·.1)) (m.map fun q => e q.2))) (rv : rep ms H (e y) v) (hk : m.length < 16777216)
    (q : ∀ vs, ((putD m k y).map (·.1)).length = vs.length → repL ms H ((putD m k y).map fun q => e q.2) vs → Q (upd H L (.dK (((putD m k y).map (·.1)).zip vs)))) : rSetD (.ref L) (kV k) v H Q := by
  obtain ⟨vs, h1, h2, h3⟩ := mo.val
  have hl : m.length = vs.length := by rw [← h2, List.length_map]
  refine ⟨L, _, rfl, DPut.k h1 ?_, ?_⟩
  · rw [List.length_zip, ← h2, sizeLine_eq, Nat.min_self, List.length_map]
    exact hk
  · unfold putK
    rw [zip_fst_any hl]
    unfold putD at q
    by_cases c : (m.any fun q => decide (q.1 = k)) = true
    · rw [if_pos c, putK_map (y := y) hl]
      rw [if_pos c] at q
      exact q _ (by simp [hl]) (repL_mapD rv h3)
    · rw [if_neg c]
      rw [if_neg c] at q
      have z : (m.map (·.1)).zip vs ++ [(k, v)] = ((m ++ [(k, y)]).map (·.1)).zip (vs ++ [v]) := by
        rw [List.map_append, List.zip_append h2]
        rfl
      rw [z]
      refine q _ (by simp [hl]) ?_
      rw [List.map_append]
      exact repL_app h3 (repL_one rv)
theorem valV_getD {ms : List Addr} {H : Hp} {k : Key} {y : α} : ∀ {m : List (Key × α)} {vs : List V}, repL ms H (m.map fun q => e q.2) vs → getD m k = some y → ∃ v, valV ((m.map (·.1)).zip vs) k = some v ∧ rep ms H (e y) v
  | [], _, _, h => by simp [getD] at h
  | q :: m, vs, r, h => by
    obtain ⟨u, us, rfl, h1, h2⟩ := repL_uncons r
    by_cases c : q.1 = k
    · have : q.2 = y := by simpa [getD, c] using h
      subst this
      exact ⟨u, valV_pos (p := (q.1, u)) c, h1⟩
    · have h' : getD m k = some y := by
        unfold getD at h ⊢
        rw [List.find?_cons_of_neg (by simpa using c)] at h
        exact h
      obtain ⟨v, hv, rv⟩ := valV_getD h2 h'
      exact ⟨v, by rw [List.map_cons, List.zip_cons_cons, valV_neg (p := (q.1, u)) c]; exact hv, rv⟩
theorem rep_dgetA {m : List (Key × α)} {k : Key} {y : α} {Q : VK} (h : rep ms H (.dct (m.map (·.1)) (m.map fun q => e q.2)) x) (hy : getD m k = some y) (q : ∀ v, rep ms H (e y) v → Q v H) :
    ∃ a v, x = .ref a ∧ DGet H a (kV k) (some v) ∧ Q v H := by
  simp only [rep] at h
  obtain ⟨p, vs, rfl, _, hp, hl, hr⟩ := h
  obtain ⟨v, hv, rv⟩ := valV_getD hr hy
  refine ⟨p, v, rfl, ?_, q v rv⟩
  have := DGet.k (k := k) hp
  rw [hv] at this
  exact this
theorem mo_dgetA {m : List (Key × α)} {k : Key} {y : α} {Q : VK} (mo : MutO ms ps H0 H L (.dct (m.map (·.1)) (m.map fun q => e q.2))) (hy : getD m k = some y) (q : ∀ v, rep ms H (e y) v → Q v H) :
    ∃ a v, V.ref L = .ref a ∧ DGet H a (kV k) (some v) ∧ Q v H := by
  obtain ⟨vs, hp, hl, hr⟩ := mo.val
  obtain ⟨v, hv, rv⟩ := valV_getD hr hy
  refine ⟨L, v, rfl, ?_, q v rv⟩
  have := DGet.k (k := k) hp
  rw [hv] at this
  exact this
end
section
variable {K : PySem.W.Frag} {ms : List Addr} {H : Hp} {x : V}
/-- an item of a list whose items are of several kinds -/
theorem rep_ixH {ds : List D} {d : D} {i : Int} {σ : L2.St} {Q : VK} (j : Nat) (h : rep ms H (.lst ds) x) (hi : i = (j : Int)) (hd : ds[j]? = some d) (q : ∀ v, rep ms H d v → Q v H) : tC (V.int i) σ H fun y H2 => rIxL K x y H2 Q := by
  simp only [rep] at h
  obtain ⟨p, vs, rfl, _, hp, hr⟩ := h
  obtain ⟨v, hv, rv⟩ := repL_get hr hd
  subst hi
  exact ⟨p, vs, _, v, rfl, rfl, .inl (.inl hp), atI_nat hv, q v rv⟩
end
/-! xs.index(x): numbers -/
theorem idxOf_le_of {w : Int} : ∀ {xs : List Int} {m : Nat}, xs[m]? = some w → xs.idxOf w ≤ m
  | [], _, h => by simp at h
  | x :: xs, 0, h => by
    have : x = w := Option.some.inj h
    subst this
    rw [List.idxOf_cons_self]
    exact Nat.le_refl 0
  | x :: xs, m + 1, h => by
    have ih := idxOf_le_of (xs := xs) (m := m) (by simpa using h)
    rw [List.idxOf_cons]
    cases x == w
    · show List.idxOf w xs + 1 ≤ m + 1
      omega
    · show 0 ≤ m + 1
      omega
def rIndexI (K : PySem.W.Frag) : V → List V → Hp → VK → Prop := rIndex K
theorem mt_indexK {X : Cx} {K : PySem.W.Frag} (hK : X.K = K) : MtR X "list.index" (rIndexI K) := by
  subst hK
  exact mt_index
theorem rep_indexI {K : PySem.W.Frag} {ms : List Addr} {H : Hp} {x : V} {xs : List Int} {n : Int} {Q : VK} (h : rep ms H (.lst (xs.map fun y => .v (.int y))) x) (hm : n ∈ xs) (q : Q (.int (xs.idxOf n : Int)) H) : rIndexI K x [.int n] H Q := by
  simp only [rep] at h
  obtain ⟨p, vs, rfl, _, hp, hr⟩ := h
  have ev : vs = xs.map V.int := by
    have := repL_flat (xs := xs.map V.int) (vs := vs) (ms := ms) (H := H)
    rw [List.map_map] at this
    exact this.mp hr
  subst ev
  have hl : xs.idxOf n < xs.length := List.idxOf_lt_length_iff.mpr hm
  have eqv : ∀ a b : Int, eqV (.int a) (.int b) = decide (a = b) := fun a b => by
    by_cases c : a = b
    · subst c
      rw [decide_eq_true rfl]
      show (a == a) = true
      exact beq_self_eq_true a
    · rw [decide_eq_false c]
      show (a == b) = false
      exact beq_eq_false_iff_ne.mpr c
  refine ⟨p, _, _, xs.idxOf n, .int n, rfl, rfl, .inl (.inl hp), rfl, ?_, ?_, ?_, ?_, q⟩
  · rw [List.all_eq_true]
    intro z hz
    obtain ⟨w, _, rfl⟩ := List.mem_map.mp hz
    rfl
  · rw [List.getElem?_map, List.getElem?_eq_getElem hl, List.getElem_idxOf hl]
    rfl
  · rw [eqv, decide_eq_true rfl]
  · intro m z' hm' hz
    rw [List.getElem?_map] at hz
    obtain ⟨w, hw, rfl⟩ := Option.map_eq_some_iff.mp hz
    rw [eqv]
    refine decide_eq_false fun c => ?_
    subst c
    have := idxOf_le_of hw
    omega
theorem rep_indexIC {K : PySem.W.Frag} {ms : List Addr} {H : Hp} {x : V} {xs : List Int} {n : Int} {σ : L2.St} {Q : VK} (h : rep ms H (.lst (xs.map fun y => .v (.int y))) x) (hm : n ∈ xs) (q : Q (.int (xs.idxOf n : Int)) H) : tCons (tC (V.int n)) tNil σ H fun ys H2 => rIndexI K x ys H2 Q := rep_indexI (K := K) (Q := Q) h hm q
end Rx
namespace Wm
open PySem PySem.Spec PyProof.Rows L2

abbrev L (z : Str) : List Nat := z.cps.toList
theorem len_L (z : Str) : z.length = (L z).length := by
  show z.cps.size = z.cps.toList.length
  simp
theorem L_mk (l : List Nat) : L ⟨l.toArray⟩ = l := by simp [L]
theorem mk_L (z : Str) : (⟨(L z).toArray⟩ : Str) = z := by
  cases z
  simp [L]
theorem L_ext {a b : Str} (h : L a = L b) : a = b := ext_toList h
theorem L_app (a b : Str) : L (a ++ b) = L a ++ L b := by
  show (a.cps ++ b.cps).toList = _
  simp [L]
theorem L_empty : L ("" : Str) = [] := by decide +kernel
theorem L_h : L ("h" : Str) = [104] := by decide +kernel
theorem L_a : L ("a" : Str) = [97] := by decide +kernel
theorem L_one (c : Nat) : L ⟨#[c]⟩ = [c] := by simp [L]
theorem h_mk : ("h" : Str) = ⟨#[104]⟩ := by decide +kernel
theorem a_mk : ("a" : Str) = ⟨#[97]⟩ := by decide +kernel
theorem eqS {a b : Str} : decide (V.str a = V.str b) = decide (L a = L b) := by
  by_cases h : a = b
  · subst h
    simp
  · rw [decide_eq_false (fun z => h (V.str.inj z)), decide_eq_false (fun z => h (L_ext z))]
theorem eqI {a b : Int} : decide (V.int a = V.int b) = decide (a = b) := by
  by_cases h : a = b
  · subst h
    simp
  · rw [decide_eq_false (fun z => h (V.int.inj z)), decide_eq_false h]

/-- how many signs c -/
def cn (c : Nat) (l : List Nat) : Int := ((l.count c : Nat) : Int)
theorem cn_nil (c : Nat) : cn c [] = 0 := rfl
theorem cn_app (c : Nat) (a b : List Nat) : cn c (a ++ b) = cn c a + cn c b := by
  unfold cn
  rw [List.count_append]
  omega
theorem cn_cons (c x : Nat) (l : List Nat) : cn c (x :: l) = (if x = c then 1 else 0) + cn c l := by
  unfold cn
  rw [List.count_cons]
  by_cases h : x = c
  · simp [h]
    omega
  · simp [h]
theorem cn_pos (c : Nat) (l : List Nat) : 0 ≤ cn c l := by
  unfold cn
  omega
theorem cn_le (c : Nat) (l : List Nat) : cn c l ≤ l.length := by
  unfold cn
  have := List.count_le_length (a := c) (l := l)
  omega
theorem cnt_cn (c : Nat) : ∀ l : List Nat, cnt c l = cn c l
  | [] => by rw [cn_nil]; rfl
  | x :: l => by rw [cn_cons, cnt_cons, cnt_cn c l]
theorem count_h (x : Str) : Txt.count x ("h" : Str) = cn 104 (L x) := by rw [h_mk, count_cnt, cnt_cn]
theorem count_a (x : Str) : Txt.count x ("a" : Str) = cn 97 (L x) := by rw [a_mk, count_cnt, cnt_cn]
theorem marks_all : ∀ l : List Nat, (∀ c ∈ l, c = 104 ∨ c = 97) → cn 104 l + cn 97 l = l.length
  | [], _ => rfl
  | x :: l, h => by
    have ih := marks_all l fun c hc => h c (List.mem_cons_of_mem _ hc)
    rw [cn_cons, cn_cons, List.length_cons]
    rcases h x List.mem_cons_self with e | e <;> subst e <;> simp <;> omega

/-- z[:k], 0 ≤ k -/
theorem cut_take (z : Str) {k : Int} (h : 0 ≤ k) : L (cutS z none (some k)) = (L z).take k.toNat := by
  unfold cutS
  rw [L_mk, HT.sIx_none, List.drop_zero, Nat.sub_zero]
  show List.take (if k < 0 then _ else min k.toNat z.length) z.cps.toList = _
  rw [if_neg (by omega)]
  rw [len_L]
  exact (List.take_eq_take_min).symm
theorem join_L (ys : List Str) : L (Txt.join ("" : Str) ys) = (ys.map L).flatten := by
  rw [TL.join_eq]
  show TL.tl (Str.join _ _) = _
  rw [TL.tl_join]
  show TL.joinL (L ("" : Str)) _ = _
  rw [L_empty]
  show _ = (ys.map TL.tl).flatten
  generalize ys.map TL.tl = ls
  induction ls with
  | nil => rfl
  | cons p ls ih =>
    cases ls with
    | nil => simp [TL.joinL]
    | cons q r =>
      show p ++ ([] ++ TL.joinL [] (q :: r)) = _
      rw [ih]
      simp

/-! ### the middle, said again and again -/
def cyc (m : List Nat) (k : Nat) : List Nat := (List.range k).map fun j => m.getD (j % m.length) 0
theorem cyc_len (m : List Nat) (k : Nat) : (cyc m k).length = k := by simp [cyc]
theorem cyc_get (m : List Nat) {k j : Nat} (h : j < k) : (cyc m k)[j]? = some (m.getD (j % m.length) 0) := by
  simp [cyc, List.getElem?_map, List.getElem?_range h]
theorem cyc_get' {m : List Nat} (hm : 0 < m.length) {k j : Nat} (h : j < k) : (cyc m k)[j]? = m[j % m.length]? := by
  rw [cyc_get m h]
  have := Nat.mod_lt j hm
  rw [List.getD_eq_getElem?_getD, List.getElem?_eq_getElem this]
  rfl
theorem cyc_take (m : List Nat) {k j : Nat} (h : j ≤ k) : (cyc m k).take j = cyc m j := by
  unfold cyc
  rw [← List.map_take, List.take_range, Nat.min_eq_left h]
theorem cyc_full {m : List Nat} : cyc m m.length = m := by
  apply List.ext_getElem?
  intro j
  by_cases h : j < m.length
  · rw [cyc_get' (by omega) h, Nat.mod_eq_of_lt h]
  · rw [List.getElem?_eq_none (by rw [cyc_len]; omega), List.getElem?_eq_none (by omega)]
theorem cyc_add {m : List Nat} (hm : 0 < m.length) (k : Nat) : cyc m (m.length + k) = m ++ cyc m k := by
  apply List.ext_getElem?
  intro j
  by_cases h : j < m.length
  · rw [cyc_get' hm (by omega), List.getElem?_append_left h, Nat.mod_eq_of_lt h]
  · rw [List.getElem?_append_right (by omega)]
    by_cases h2 : j < m.length + k
    · rw [cyc_get' hm h2, cyc_get' hm (by omega), Nat.mod_eq_sub_mod (by omega)]
    · rw [List.getElem?_eq_none (by rw [cyc_len]; omega), List.getElem?_eq_none (by rw [cyc_len]; omega)]
/-- how many c the first k of them have -/
def cyn (c : Nat) (m : List Nat) (k : Nat) : Int := ((k / m.length : Nat) : Int) * cn c m + cn c (m.take (k % m.length))
theorem cyn_eq (c : Nat) {m : List Nat} (hm : 0 < m.length) : ∀ k : Nat, cn c (cyc m k) = cyn c m k := by
  intro k
  induction k using Nat.strongRecOn with
  | ind k ih =>
    by_cases h : k < m.length
    · unfold cyn
      rw [Nat.div_eq_of_lt h, Nat.mod_eq_of_lt h]
      have e : cyc m k = m.take k := by
        have := cyc_take m (Nat.le_of_lt h)
        rw [cyc_full] at this
        exact this.symm
      rw [e]
      show _ = ((0 : Nat) : Int) * _ + _
      omega
    · obtain ⟨j, rfl⟩ : ∃ j, k = m.length + j := ⟨k - m.length, by omega⟩
      rw [cyc_add hm, cn_app, ih j (by omega)]
      unfold cyn
      rw [Nat.add_mod_left, Nat.add_div_left _ hm]
      rw [show (((j / m.length + 1 : Nat) : Int)) = ((j / m.length : Nat) : Int) + 1 by omega, Int.add_mul]
      omega
theorem cyn_add (c : Nat) {m : List Nat} (hm : 0 < m.length) (k : Nat) : cyn c m (k + m.length) = cyn c m k + cn c m := by
  rw [← cyn_eq c hm, ← cyn_eq c hm, Nat.add_comm, cyc_add hm, cn_app]
  omega
theorem cyn_mul (c : Nat) {m : List Nat} (hm : 0 < m.length) (k : Nat) : cyn c m (k * m.length) = (k : Int) * cn c m := by
  unfold cyn
  rw [Nat.mul_div_cancel _ hm, Nat.mul_mod_left, List.take_zero, cn_nil]
  omega

/-! ### rows -/
def row (h m t : List Nat) (n : Nat) : List Nat := h ++ cyc m (n - h.length - t.length) ++ t
section
variable {h m t : List Nat} {n : Nat}
theorem row_len (hn : h.length + t.length ≤ n) : (row h m t n).length = n := by
  unfold row
  rw [List.length_append, List.length_append, cyc_len]
  omega
theorem row_head {j : Nat} (hj : j < h.length) : (row h m t n)[j]? = h[j]? := by
  unfold row
  rw [List.append_assoc, List.getElem?_append_left hj]
theorem row_mid {j : Nat} (hm : 0 < m.length) (hn : h.length + t.length ≤ n) (h1 : h.length ≤ j) (h2 : j < n - t.length) : (row h m t n)[j]? = m[(j - h.length) % m.length]? := by
  unfold row
  rw [List.append_assoc, List.getElem?_append_right h1, List.getElem?_append_left (by rw [cyc_len]; omega), cyc_get' hm (by omega)]
theorem row_tail {j : Nat} (hn : h.length + t.length ≤ n) (h1 : n - t.length ≤ j) : (row h m t n)[j]? = t[j - (n - t.length)]? := by
  unfold row
  rw [List.getElem?_append_right (by rw [List.length_append, cyc_len]; omega)]
  congr 1
  rw [List.length_append, cyc_len]
  omega
/-- the homes of the first i places -/
def hom (c : Nat) (h m t : List Nat) (n i : Nat) : Int := cn c (h.take i) + cyn c m (min i (n - t.length) - h.length) + cn c (t.take (i - (n - t.length)))
theorem hom_eq (c : Nat) (hm : 0 < m.length) (hn : h.length + t.length ≤ n) (i : Nat) (hi : i ≤ n) : cn c ((row h m t n).take i) = hom c h m t n i := by
  unfold row hom
  rw [List.take_append, List.take_append, cn_app, cn_app, List.length_append, cyc_len]
  congr 2
  · rw [← cyn_eq c hm]
    by_cases h1 : i - h.length ≤ n - h.length - t.length
    · rw [cyc_take m h1]
      congr 2
      omega
    · rw [List.take_of_length_le (by rw [cyc_len]; omega)]
      congr 2
      omega
  · congr 1
    omega
theorem cn_succ (c : Nat) {l : List Nat} {i x : Nat} (hx : l[i]? = some x) : cn c (l.take (i + 1)) = cn c (l.take i) + (if x = c then 1 else 0) := by
  rw [List.take_add_one, hx, cn_app]
  show _ + cn c [x] = _
  rw [cn_cons, cn_nil]
  omega
end

theorem cyc_end {m : List Nat} (hm : 0 < m.length) (k : Nat) : cyc m (k * m.length) ++ m = cyc m ((k + 1) * m.length) := by
  apply List.ext_getElem?
  intro j
  by_cases h : j < k * m.length
  · rw [List.getElem?_append_left (by rw [cyc_len]; exact h), cyc_get' hm h, cyc_get' hm (by rw [Nat.succ_mul]; omega)]
  · rw [List.getElem?_append_right (by rw [cyc_len]; omega), cyc_len]
    by_cases h2 : j < (k + 1) * m.length
    · rw [cyc_get' hm h2]
      rw [Nat.succ_mul] at h2
      obtain ⟨i, rfl⟩ : ∃ i, j = i + k * m.length := ⟨j - k * m.length, by omega⟩
      rw [Nat.add_mul_mod_self_right, Nat.mod_eq_of_lt (by omega)]
      congr 1
      omega
    · rw [List.getElem?_eq_none (by rw [Nat.succ_mul] at h2; omega), List.getElem?_eq_none (by rw [cyc_len]; omega)]

/-! ### loops of mirrors -/
section
open Rx
variable {α β S : Type}
theorem mapC_ok {body : α → (β → Prop) → Prop} {k : List β → Prop} (g : α → β) : ∀ {xs : List α} {acc : List β}, (∀ x ∈ xs, ∀ k' : β → Prop, k' (g x) → body x k') → k (acc ++ xs.map g) → mapC body xs acc k
  | [], acc, _, q => by
    rw [List.map_nil, List.append_nil] at q
    exact q
  | x :: xs, acc, h, q => h x List.mem_cons_self _ (mapC_ok g (fun y hy => h y (List.mem_cons_of_mem _ hy)) (by rw [List.append_assoc]; exact q))
theorem mapC_any {body : α → (β → Prop) → Prop} {k : List β → Prop} (P : β → Prop) : ∀ {xs : List α} {acc : List β}, (∀ x ∈ xs, ∀ k' : β → Prop, (∀ y, P y → k' y) → body x k') → (∀ ys : List β, ys.length = xs.length → (∀ y ∈ ys, P y) → k (acc ++ ys)) → mapC body xs acc k
  | [], acc, _, q => by
    have := q [] rfl (fun _ h => absurd h List.not_mem_nil)
    rw [List.append_nil] at this
    exact this
  | x :: xs, acc, h, q => h x List.mem_cons_self _ fun y hy => mapC_any P (fun z hz => h z (List.mem_cons_of_mem _ hz)) fun ys hl hp => by
    rw [List.append_assoc]
    exact q (y :: ys) (congrArg Nat.succ hl) fun z hz => by
      rcases List.mem_cons.mp hz with e | hz
      · rw [e]
        exact hy
      · exact hp z hz
theorem filC_ok {body : α → (Option β → Prop) → Prop} {k : List β → Prop} (g : α → Option β) : ∀ {xs : List α} {acc : List β}, (∀ x ∈ xs, ∀ k' : Option β → Prop, k' (g x) → body x k') → k (acc ++ xs.filterMap g) → filC body xs acc k
  | [], acc, _, q => by
    rw [List.filterMap_nil, List.append_nil] at q
    exact q
  | x :: xs, acc, h, q => h x List.mem_cons_self _ (by
    show match g x with | some y => filC body xs (acc ++ [y]) k | none => filC body xs acc k
    cases e : g x with
    | none => exact filC_ok g (fun y hy => h y (List.mem_cons_of_mem _ hy)) (by rw [List.filterMap_cons_none e] at q; exact q)
    | some y => exact filC_ok g (fun y hy => h y (List.mem_cons_of_mem _ hy)) (by rw [List.filterMap_cons_some e] at q; rw [List.append_assoc]; exact q))
theorem forC_ok {body : α → S → (S → Prop) → Prop} {k : S → Prop} (I : S → Prop) : ∀ {xs : List α} {s0 : S}, (∀ x ∈ xs, ∀ (s : S) (k' : S → Prop), I s → (∀ s', I s' → k' s') → body x s k') → I s0 → (∀ s, I s → k s) → forC body xs s0 k
  | [], s0, _, i, q => q s0 i
  | x :: xs, s0, h, i, q => h x List.mem_cons_self s0 _ i fun s' i' => forC_ok I (fun y hy => h y (List.mem_cons_of_mem _ hy)) i' q
theorem whileC_ok {body : S → (S → Prop) → (S → Prop) → Prop} {k : S → Prop} (I : S → Prop) (μ : S → Nat) (h : ∀ (s : S) (k1 : S → Prop), I s → (∀ s', I s' → μ s' < μ s → k1 s') → body s k1 k) {s0 : S} (i : I s0) : ∃ n, whileC body n s0 k := by
  have go : ∀ (n : Nat) (s : S), μ s < n → I s → whileC body n s k := by
    intro n
    induction n with
    | zero => intro s hs; omega
    | succ n ih => intro s hs is; exact h s _ is fun s' is' hl => ih s' (by omega) is'
  exact ⟨_, go _ s0 (Nat.lt_succ_self _) i⟩
theorem rangeI_mem {lo hi x : Int} (h : x ∈ rangeI lo hi) : lo ≤ x ∧ x < hi := by
  unfold rangeI at h
  obtain ⟨i, hi', e⟩ := List.mem_map.mp h
  have := List.mem_range.mp hi'
  omega
end
end Wm
namespace Lw
open PySem PySem.Spec PyProof.Rows L2 Rx
abbrev St := L2.St
def topS (i : Nat) : Stmt := PySem.Challenge.pw_ringrows_k31_whole_rounds_seated_by_look.main.body.getD i (.Pass ⟨0, 0, 0, 0⟩)
abbrev s_is_marks : Stmt := (topS 17)
abbrev s_check_part : Stmt := (topS 42)
abbrev s_draw : Stmt := (topS 46)
abbrev s_pick : Stmt := (topS 47)
abbrev s_signs : Stmt := (topS 48)
abbrev s_model : Stmt := (topS 49)
abbrev s_least : Stmt := (topS 51)
abbrev s_is_integer : Stmt := (topS 15)
abbrev s_Rule_init : Stmt := (inClass (topS 36) 0)
abbrev s_rule : Stmt := (topS 50)
abbrev s_spots : Stmt := (topS 56)
abbrev s_standing : Stmt := (topS 53)
abbrev s_turned : Stmt := (topS 52)
abbrev s_line : Stmt := (topS 54)
abbrev s_marks : Stmt := (topS 55)
abbrev s_due : Stmt := (topS 58)
abbrev s_Word_least : Stmt := (inClass (topS 41) 4)
abbrev s_Rule_least_size : Stmt := (inClass (topS 36) 5)
abbrev s_is_size : Stmt := (topS 19)
abbrev s_check_size : Stmt := (topS 20)
abbrev s_is_count : Stmt := (topS 16)
abbrev s_check_team : Stmt := (topS 21)
abbrev s_check_day : Stmt := (topS 22)
abbrev s_Rule_step : Stmt := (inClass (topS 36) 1)
abbrev s_seatP : Stmt := (topS 30)
abbrev s_seat : Stmt := (topS 25)
abbrev s_check : Stmt := (topS 29)
abbrev s_opponent : Stmt := (topS 26)
abbrev s_Rule_stander : Stmt := (inClass (topS 36) 3)
abbrev s_stander_mark : Stmt := (topS 28)
abbrev s_contrary_marks : Stmt := (topS 18)
abbrev s_Rule_word : Stmt := (inClass (topS 36) 2)
abbrev s_check_places : Stmt := (topS 43)
abbrev s_Word_mark : Stmt := (inClass (topS 41) 6)
abbrev s_Rule_turned : Stmt := (inClass (topS 36) 4)
abbrev s_turned_if : Stmt := (topS 32)
abbrev s_mark_at : Stmt := (topS 31)
abbrev s_mark_of : Stmt := (topS 27)
abbrev s_told : Stmt := (topS 57)
abbrev s_by_name : Stmt := (topS 59)
abbrev s_right : Stmt := (topS 60)
abbrev s_pot : Stmt := (topS 45)
abbrev s_law : Stmt := (topS 61)
abbrev s_Word_init : Stmt := (inClass (topS 41) 0)
theorem sc_is_marks : FnScope ["value"] ["value"] (defScope s_is_marks) := ⟨rfl, rfl, rfl, by decide +kernel, rfl, by decide +kernel, by decide +kernel⟩
theorem sc_check_part : FnScope ["marks"] ["marks"] (defScope s_check_part) := ⟨rfl, rfl, rfl, by decide +kernel, rfl, by decide +kernel, by decide +kernel⟩
theorem sc_draw : FnScope ["_law_pot_here", "_law_much", "_law_digit"] ["_law_pot_here", "_law_much"] (defScope s_draw) := ⟨rfl, rfl, rfl, by decide +kernel, rfl, by decide +kernel, by decide +kernel⟩
theorem sc_pick : FnScope ["_law_pot_here", "_law_some"] ["_law_pot_here", "_law_some"] (defScope s_pick) := ⟨rfl, rfl, rfl, by decide +kernel, rfl, by decide +kernel, by decide +kernel⟩
theorem sc_signs : FnScope ["_law_pot_here", "_law_few", "_law_most", "_law_turn"] ["_law_pot_here", "_law_few", "_law_most"] (defScope s_signs) := ⟨rfl, rfl, rfl, by decide +kernel, rfl, by decide +kernel, by decide +kernel⟩
theorem sc_model : FnScope ["_law_pot_here", "_law_found"] ["_law_pot_here"] (defScope s_model) := ⟨rfl, rfl, rfl, by decide +kernel, rfl, by decide +kernel, by decide +kernel⟩
theorem sc_least : FnScope ["_law_model_here"] ["_law_model_here"] (defScope s_least) := ⟨rfl, rfl, rfl, by decide +kernel, rfl, by decide +kernel, by decide +kernel⟩
theorem sc_is_integer : FnScope ["value"] ["value"] (defScope s_is_integer) := ⟨rfl, rfl, rfl, by decide +kernel, rfl, by decide +kernel, by decide +kernel⟩
theorem sc_Rule_init : FnScope ["self", "step", "word", "stander", "turned"] ["self", "step", "word", "stander", "turned"] (defScope s_Rule_init) := ⟨rfl, rfl, rfl, by decide +kernel, rfl, by decide +kernel, by decide +kernel⟩
theorem sc_rule : FnScope ["_law_model_here", "_law_start", "_law_inner", "_law_end"] ["_law_model_here"] (defScope s_rule) := ⟨rfl, rfl, rfl, by decide +kernel, rfl, by decide +kernel, by decide +kernel⟩
theorem sc_spots : FnScope ["_law_model_here", "_law_half", "_law_when", "_law_found", "_law_ring", "_law_who", "_law_here", "_law_spot"] ["_law_model_here", "_law_half", "_law_when"] (defScope s_spots) := ⟨rfl, rfl, rfl, by decide +kernel, rfl, by decide +kernel, by decide +kernel⟩
theorem sc_standing : FnScope ["_law_model_here", "_law_is_odd"] ["_law_model_here", "_law_is_odd"] (defScope s_standing) := ⟨rfl, rfl, rfl, by decide +kernel, rfl, by decide +kernel, by decide +kernel⟩
theorem sc_turned : FnScope ["_law_sign"] ["_law_sign"] (defScope s_turned) := ⟨rfl, rfl, rfl, by decide +kernel, rfl, by decide +kernel, by decide +kernel⟩
theorem sc_line : FnScope ["_law_model_here", "_law_half", "_law_start", "_law_inner", "_law_end", "_law_between"] ["_law_model_here", "_law_half"] (defScope s_line) := ⟨rfl, rfl, rfl, by decide +kernel, rfl, by decide +kernel, by decide +kernel⟩
theorem sc_marks : FnScope ["_law_model_here", "_law_half", "_law_is_odd", "_law_found", "_law_line_here", "_law_k", "_law_sign"] ["_law_model_here", "_law_half", "_law_is_odd"] (defScope s_marks) := ⟨rfl, rfl, rfl, by decide +kernel, rfl, by decide +kernel, by decide +kernel⟩
theorem sc_due : FnScope ["_law_model_here", "_law_half", "_law_when", "_law_spots_here", "_law_ring", "_law_others", "_law_marks_here", "_law_who", "_law_signs_here", "_law_spot"] ["_law_model_here", "_law_half", "_law_when"] (defScope s_due) := ⟨rfl, rfl, rfl, by decide +kernel, rfl, by decide +kernel, by decide +kernel⟩
theorem sc_Word_least : FnScope ["self"] ["self"] (defScope s_Word_least) := ⟨rfl, rfl, rfl, by decide +kernel, rfl, by decide +kernel, by decide +kernel⟩
theorem sc_Rule_least_size : FnScope ["self"] ["self"] (defScope s_Rule_least_size) := ⟨rfl, rfl, rfl, by decide +kernel, rfl, by decide +kernel, by decide +kernel⟩
theorem sc_is_size : FnScope ["rule", "value"] ["rule", "value"] (defScope s_is_size) := ⟨rfl, rfl, rfl, by decide +kernel, rfl, by decide +kernel, by decide +kernel⟩
theorem sc_check_size : FnScope ["rule", "size"] ["rule", "size"] (defScope s_check_size) := ⟨rfl, rfl, rfl, by decide +kernel, rfl, by decide +kernel, by decide +kernel⟩
theorem sc_is_count : FnScope ["value"] ["value"] (defScope s_is_count) := ⟨rfl, rfl, rfl, by decide +kernel, rfl, by decide +kernel, by decide +kernel⟩
theorem sc_check_team : FnScope ["team", "teams"] ["team", "teams"] (defScope s_check_team) := ⟨rfl, rfl, rfl, by decide +kernel, rfl, by decide +kernel, by decide +kernel⟩
theorem sc_check_day : FnScope ["day", "rounds"] ["day", "rounds"] (defScope s_check_day) := ⟨rfl, rfl, rfl, by decide +kernel, rfl, by decide +kernel, by decide +kernel⟩
theorem sc_Rule_step : FnScope ["self"] ["self"] (defScope s_Rule_step) := ⟨rfl, rfl, rfl, by decide +kernel, rfl, by decide +kernel, by decide +kernel⟩
theorem sc_seatP : FnScope ["rule", "size", "team", "day", "place"] ["rule", "size", "team", "day"] (defScope s_seatP) := ⟨rfl, rfl, rfl, by decide +kernel, rfl, by decide +kernel, by decide +kernel⟩
theorem sc_seat : FnScope ["rule", "size", "team", "day"] ["rule", "size", "team", "day"] (defScope s_seat) := ⟨rfl, rfl, rfl, by decide +kernel, rfl, by decide +kernel, by decide +kernel⟩
theorem sc_check : FnScope ["rule", "size", "team", "day"] ["rule", "size", "team", "day"] (defScope s_check) := ⟨rfl, rfl, rfl, by decide +kernel, rfl, by decide +kernel, by decide +kernel⟩
theorem sc_opponent : FnScope ["rule", "size", "team", "day", "facing"] ["rule", "size", "team", "day"] (defScope s_opponent) := ⟨rfl, rfl, rfl, by decide +kernel, rfl, by decide +kernel, by decide +kernel⟩
theorem sc_Rule_stander : FnScope ["self"] ["self"] (defScope s_Rule_stander) := ⟨rfl, rfl, rfl, by decide +kernel, rfl, by decide +kernel, by decide +kernel⟩
theorem sc_stander_mark : FnScope ["rule", "day"] ["rule", "day"] (defScope s_stander_mark) := ⟨rfl, rfl, rfl, by decide +kernel, rfl, by decide +kernel, by decide +kernel⟩
theorem sc_contrary_marks : FnScope ["marks", "mark"] ["marks"] (defScope s_contrary_marks) := ⟨rfl, rfl, rfl, by decide +kernel, rfl, by decide +kernel, by decide +kernel⟩
theorem sc_Rule_word : FnScope ["self"] ["self"] (defScope s_Rule_word) := ⟨rfl, rfl, rfl, by decide +kernel, rfl, by decide +kernel, by decide +kernel⟩
theorem sc_check_places : FnScope ["word", "places"] ["word", "places"] (defScope s_check_places) := ⟨rfl, rfl, rfl, by decide +kernel, rfl, by decide +kernel, by decide +kernel⟩
theorem sc_Word_mark : FnScope ["self", "places", "place", "ahead"] ["self", "places", "place"] (defScope s_Word_mark) := ⟨rfl, rfl, rfl, by decide +kernel, rfl, by decide +kernel, by decide +kernel⟩
theorem sc_Rule_turned : FnScope ["self"] ["self"] (defScope s_Rule_turned) := ⟨rfl, rfl, rfl, by decide +kernel, rfl, by decide +kernel, by decide +kernel⟩
theorem sc_turned_if : FnScope ["rule", "day", "marks"] ["rule", "day", "marks"] (defScope s_turned_if) := ⟨rfl, rfl, rfl, by decide +kernel, rfl, by decide +kernel, by decide +kernel⟩
theorem sc_mark_at : FnScope ["rule", "size", "at", "day", "mark"] ["rule", "size", "at", "day"] (defScope s_mark_at) := ⟨rfl, rfl, rfl, by decide +kernel, rfl, by decide +kernel, by decide +kernel⟩
theorem sc_mark_of : FnScope ["rule", "size", "team", "day"] ["rule", "size", "team", "day"] (defScope s_mark_of) := ⟨rfl, rfl, rfl, by decide +kernel, rfl, by decide +kernel, by decide +kernel⟩
theorem sc_told : FnScope ["_law_made", "_law_many", "_law_when", "_law_found", "_law_who"] ["_law_made", "_law_many", "_law_when"] (defScope s_told) := ⟨rfl, rfl, rfl, by decide +kernel, rfl, by decide +kernel, by decide +kernel⟩
theorem sc_by_name : FnScope ["_law_made", "_law_many", "_law_who", "_law_when", "_law_found"] ["_law_made", "_law_many", "_law_who", "_law_when"] (defScope s_by_name) := ⟨rfl, rfl, rfl, by decide +kernel, rfl, by decide +kernel, by decide +kernel⟩
theorem sc_right : FnScope ["_law_pot_here", "_law_models", "_law_days", "_law_halves", "_law_makes", "_law_half", "_law_ring", "_law_turn", "_law_at", "_law_k", "_law_many", "_law_when", "_law_due_here", "_law_who", "_law_model_here"] ["_law_pot_here"] (defScope s_right) := ⟨rfl, rfl, rfl, by decide +kernel, rfl, by decide +kernel, by decide +kernel⟩
theorem sc_pot : FnScope ["_law_script", "_law_k", "_law_cell"] ["_law_script", "_law_k"] (defScope s_pot) := ⟨rfl, rfl, rfl, by decide +kernel, rfl, by decide +kernel, by decide +kernel⟩
theorem sc_law : FnScope ["_law_script", "_law_k"] ["_law_script"] (defScope s_law) := ⟨rfl, rfl, rfl, by decide +kernel, rfl, by decide +kernel, by decide +kernel⟩
theorem sc_Word_init : FnScope ["self", "head", "middle", "tail"] ["self", "head", "middle", "tail"] (defScope s_Word_init) := ⟨rfl, rfl, rfl, by decide +kernel, rfl, by decide +kernel, by decide +kernel⟩
def wd_CONTRARIES : List (Str × Str) := [("h", "a"), ("a", "h")]
def wd_CONTRARY_STANDERS : List (Str × Str) := [("home", "away"), ("away", "home"), ("even", "odd"), ("odd", "even")]
def wd_STANDER_MARKS : List (Str × Str) := [("home", "hh"), ("away", "aa"), ("even", "ha"), ("odd", "ah")]
structure Ad where
  a_is_marks : Addr
  d_is_marks : FuncData
  a_check_part : Addr
  d_check_part : FuncData
  a_draw : Addr
  d_draw : FuncData
  a_pick : Addr
  d_pick : FuncData
  a_signs : Addr
  d_signs : FuncData
  a_model : Addr
  d_model : FuncData
  a_least : Addr
  d_least : FuncData
  a_is_integer : Addr
  d_is_integer : FuncData
  a_Rule_init : Addr
  d_Rule_init : FuncData
  a_rule : Addr
  d_rule : FuncData
  a_spots : Addr
  d_spots : FuncData
  a_standing : Addr
  d_standing : FuncData
  a_turned : Addr
  d_turned : FuncData
  a_line : Addr
  d_line : FuncData
  a_marks : Addr
  d_marks : FuncData
  a_due : Addr
  d_due : FuncData
  a_Word_least : Addr
  d_Word_least : FuncData
  a_Rule_least_size : Addr
  d_Rule_least_size : FuncData
  a_is_size : Addr
  d_is_size : FuncData
  a_check_size : Addr
  d_check_size : FuncData
  a_is_count : Addr
  d_is_count : FuncData
  a_check_team : Addr
  d_check_team : FuncData
  a_check_day : Addr
  d_check_day : FuncData
  a_Rule_step : Addr
  d_Rule_step : FuncData
  a_seatP : Addr
  d_seatP : FuncData
  a_seat : Addr
  d_seat : FuncData
  a_check : Addr
  d_check : FuncData
  a_opponent : Addr
  d_opponent : FuncData
  a_Rule_stander : Addr
  d_Rule_stander : FuncData
  a_stander_mark : Addr
  d_stander_mark : FuncData
  a_contrary_marks : Addr
  d_contrary_marks : FuncData
  a_Rule_word : Addr
  d_Rule_word : FuncData
  a_check_places : Addr
  d_check_places : FuncData
  a_Word_mark : Addr
  d_Word_mark : FuncData
  a_Rule_turned : Addr
  d_Rule_turned : FuncData
  a_turned_if : Addr
  d_turned_if : FuncData
  a_mark_at : Addr
  d_mark_at : FuncData
  a_mark_of : Addr
  d_mark_of : FuncData
  a_told : Addr
  d_told : FuncData
  a_by_name : Addr
  d_by_name : FuncData
  a_right : Addr
  d_right : FuncData
  a_pot : Addr
  d_pot : FuncData
  a_law : Addr
  d_law : FuncData
  a_Word_init : Addr
  d_Word_init : FuncData
  c_Word : Addr
  c_Rule : Addr
  pa_Rule_least_size : Addr
  pa_Rule_stander : Addr
  pa_Rule_step : Addr
  pa_Rule_turned : Addr
  pa_Rule_word : Addr
  pa_Word_least : Addr
  wd_CONTRARIES : Addr
  wd_CONTRARY_STANDERS : Addr
  wd_STANDER_MARKS : Addr
structure Txt (w : World) (K : PySem.W.Frag) (mg : Str → Option Value) (A : Ad) : Prop where
  F_is_marks : Fun K "is_marks" "is_marks" s_is_marks A.a_is_marks A.d_is_marks
  b_is_marks : Binds K A.d_is_marks ["value"] []
  g_is_marks : mg "is_marks" = some (.ref A.a_is_marks)
  F_check_part : Fun K "_check_part" "_check_part" s_check_part A.a_check_part A.d_check_part
  b_check_part : Binds K A.d_check_part ["marks"] []
  g_check_part : mg "_check_part" = some (.ref A.a_check_part)
  F_draw : Fun K "_law_draw" "_law_draw" s_draw A.a_draw A.d_draw
  b_draw : Binds K A.d_draw ["_law_pot_here", "_law_much"] []
  g_draw : mg "_law_draw" = some (.ref A.a_draw)
  F_pick : Fun K "_law_pick" "_law_pick" s_pick A.a_pick A.d_pick
  b_pick : Binds K A.d_pick ["_law_pot_here", "_law_some"] []
  g_pick : mg "_law_pick" = some (.ref A.a_pick)
  F_signs : Fun K "_law_signs" "_law_signs" s_signs A.a_signs A.d_signs
  b_signs : Binds K A.d_signs ["_law_pot_here", "_law_few", "_law_most"] []
  g_signs : mg "_law_signs" = some (.ref A.a_signs)
  F_model : Fun K "_law_model" "_law_model" s_model A.a_model A.d_model
  b_model : Binds K A.d_model ["_law_pot_here"] []
  g_model : mg "_law_model" = some (.ref A.a_model)
  F_least : Fun K "_law_least" "_law_least" s_least A.a_least A.d_least
  b_least : Binds K A.d_least ["_law_model_here"] []
  g_least : mg "_law_least" = some (.ref A.a_least)
  F_is_integer : Fun K "is_integer" "is_integer" s_is_integer A.a_is_integer A.d_is_integer
  b_is_integer : Binds K A.d_is_integer ["value"] []
  g_is_integer : mg "is_integer" = some (.ref A.a_is_integer)
  F_Rule_init : FunD K "__init__" "Rule.__init__" (defArgs s_Rule_init) (defBody s_Rule_init) (defScope s_Rule_init) [V.bl false] [] A.a_Rule_init A.d_Rule_init
  b_Rule_init : Binds K A.d_Rule_init ["self", "step", "word", "stander", "turned"] []
  F_rule : Fun K "_law_rule" "_law_rule" s_rule A.a_rule A.d_rule
  b_rule : Binds K A.d_rule ["_law_model_here"] []
  g_rule : mg "_law_rule" = some (.ref A.a_rule)
  F_spots : Fun K "_law_spots" "_law_spots" s_spots A.a_spots A.d_spots
  b_spots : Binds K A.d_spots ["_law_model_here", "_law_half", "_law_when"] []
  g_spots : mg "_law_spots" = some (.ref A.a_spots)
  F_standing : Fun K "_law_standing" "_law_standing" s_standing A.a_standing A.d_standing
  b_standing : Binds K A.d_standing ["_law_model_here", "_law_is_odd"] []
  g_standing : mg "_law_standing" = some (.ref A.a_standing)
  F_turned : Fun K "_law_turned" "_law_turned" s_turned A.a_turned A.d_turned
  b_turned : Binds K A.d_turned ["_law_sign"] []
  g_turned : mg "_law_turned" = some (.ref A.a_turned)
  F_line : Fun K "_law_line" "_law_line" s_line A.a_line A.d_line
  b_line : Binds K A.d_line ["_law_model_here", "_law_half"] []
  g_line : mg "_law_line" = some (.ref A.a_line)
  F_marks : Fun K "_law_marks" "_law_marks" s_marks A.a_marks A.d_marks
  b_marks : Binds K A.d_marks ["_law_model_here", "_law_half", "_law_is_odd"] []
  g_marks : mg "_law_marks" = some (.ref A.a_marks)
  F_due : Fun K "_law_due" "_law_due" s_due A.a_due A.d_due
  b_due : Binds K A.d_due ["_law_model_here", "_law_half", "_law_when"] []
  g_due : mg "_law_due" = some (.ref A.a_due)
  F_Word_least : Fun K "least" "Word.least" s_Word_least A.a_Word_least A.d_Word_least
  b_Word_least : Binds K A.d_Word_least ["self"] []
  p_Word_least : PropOf K A.c_Word "least" A.pa_Word_least A.a_Word_least
  F_Rule_least_size : Fun K "least_size" "Rule.least_size" s_Rule_least_size A.a_Rule_least_size A.d_Rule_least_size
  b_Rule_least_size : Binds K A.d_Rule_least_size ["self"] []
  p_Rule_least_size : PropOf K A.c_Rule "least_size" A.pa_Rule_least_size A.a_Rule_least_size
  F_is_size : Fun K "is_size" "is_size" s_is_size A.a_is_size A.d_is_size
  b_is_size : Binds K A.d_is_size ["rule", "value"] []
  g_is_size : mg "is_size" = some (.ref A.a_is_size)
  F_check_size : Fun K "check_size" "check_size" s_check_size A.a_check_size A.d_check_size
  b_check_size : Binds K A.d_check_size ["rule", "size"] []
  g_check_size : mg "check_size" = some (.ref A.a_check_size)
  F_is_count : Fun K "is_count" "is_count" s_is_count A.a_is_count A.d_is_count
  b_is_count : Binds K A.d_is_count ["value"] []
  g_is_count : mg "is_count" = some (.ref A.a_is_count)
  F_check_team : Fun K "check_team" "check_team" s_check_team A.a_check_team A.d_check_team
  b_check_team : Binds K A.d_check_team ["team", "teams"] []
  g_check_team : mg "check_team" = some (.ref A.a_check_team)
  F_check_day : Fun K "check_day" "check_day" s_check_day A.a_check_day A.d_check_day
  b_check_day : Binds K A.d_check_day ["day", "rounds"] []
  g_check_day : mg "check_day" = some (.ref A.a_check_day)
  F_Rule_step : Fun K "step" "Rule.step" s_Rule_step A.a_Rule_step A.d_Rule_step
  b_Rule_step : Binds K A.d_Rule_step ["self"] []
  p_Rule_step : PropOf K A.c_Rule "step" A.pa_Rule_step A.a_Rule_step
  F_seatP : Fun K "_seat" "_seat" s_seatP A.a_seatP A.d_seatP
  b_seatP : Binds K A.d_seatP ["rule", "size", "team", "day"] []
  g_seatP : mg "_seat" = some (.ref A.a_seatP)
  F_seat : Fun K "seat" "seat" s_seat A.a_seat A.d_seat
  b_seat : Binds K A.d_seat ["rule", "size", "team", "day"] []
  g_seat : mg "seat" = some (.ref A.a_seat)
  F_check : Fun K "_check" "_check" s_check A.a_check A.d_check
  b_check : Binds K A.d_check ["rule", "size", "team", "day"] []
  g_check : mg "_check" = some (.ref A.a_check)
  F_opponent : Fun K "opponent" "opponent" s_opponent A.a_opponent A.d_opponent
  b_opponent : Binds K A.d_opponent ["rule", "size", "team", "day"] []
  g_opponent : mg "opponent" = some (.ref A.a_opponent)
  F_Rule_stander : Fun K "stander" "Rule.stander" s_Rule_stander A.a_Rule_stander A.d_Rule_stander
  b_Rule_stander : Binds K A.d_Rule_stander ["self"] []
  p_Rule_stander : PropOf K A.c_Rule "stander" A.pa_Rule_stander A.a_Rule_stander
  F_stander_mark : Fun K "stander_mark" "stander_mark" s_stander_mark A.a_stander_mark A.d_stander_mark
  b_stander_mark : Binds K A.d_stander_mark ["rule", "day"] []
  g_stander_mark : mg "stander_mark" = some (.ref A.a_stander_mark)
  F_contrary_marks : Fun K "contrary_marks" "contrary_marks" s_contrary_marks A.a_contrary_marks A.d_contrary_marks
  b_contrary_marks : Binds K A.d_contrary_marks ["marks"] []
  g_contrary_marks : mg "contrary_marks" = some (.ref A.a_contrary_marks)
  F_Rule_word : Fun K "word" "Rule.word" s_Rule_word A.a_Rule_word A.d_Rule_word
  b_Rule_word : Binds K A.d_Rule_word ["self"] []
  p_Rule_word : PropOf K A.c_Rule "word" A.pa_Rule_word A.a_Rule_word
  F_check_places : Fun K "_check_places" "_check_places" s_check_places A.a_check_places A.d_check_places
  b_check_places : Binds K A.d_check_places ["word", "places"] []
  g_check_places : mg "_check_places" = some (.ref A.a_check_places)
  F_Word_mark : Fun K "mark" "Word.mark" s_Word_mark A.a_Word_mark A.d_Word_mark
  b_Word_mark : Binds K A.d_Word_mark ["self", "places", "place"] []
  m_Word_mark : Meth K A.c_Word "mark" A.a_Word_mark
  F_Rule_turned : Fun K "turned" "Rule.turned" s_Rule_turned A.a_Rule_turned A.d_Rule_turned
  b_Rule_turned : Binds K A.d_Rule_turned ["self"] []
  p_Rule_turned : PropOf K A.c_Rule "turned" A.pa_Rule_turned A.a_Rule_turned
  F_turned_if : Fun K "_turned_if" "_turned_if" s_turned_if A.a_turned_if A.d_turned_if
  b_turned_if : Binds K A.d_turned_if ["rule", "day", "marks"] []
  g_turned_if : mg "_turned_if" = some (.ref A.a_turned_if)
  F_mark_at : Fun K "_mark_at" "_mark_at" s_mark_at A.a_mark_at A.d_mark_at
  b_mark_at : Binds K A.d_mark_at ["rule", "size", "at", "day"] []
  g_mark_at : mg "_mark_at" = some (.ref A.a_mark_at)
  F_mark_of : Fun K "mark_of" "mark_of" s_mark_of A.a_mark_of A.d_mark_of
  b_mark_of : Binds K A.d_mark_of ["rule", "size", "team", "day"] []
  g_mark_of : mg "mark_of" = some (.ref A.a_mark_of)
  F_told : Fun K "_law_told" "_law_told" s_told A.a_told A.d_told
  b_told : Binds K A.d_told ["_law_made", "_law_many", "_law_when"] []
  g_told : mg "_law_told" = some (.ref A.a_told)
  F_by_name : Fun K "_law_by_name" "_law_by_name" s_by_name A.a_by_name A.d_by_name
  b_by_name : Binds K A.d_by_name ["_law_made", "_law_many", "_law_who", "_law_when"] []
  g_by_name : mg "_law_by_name" = some (.ref A.a_by_name)
  F_right : Fun K "_law_right" "_law_right" s_right A.a_right A.d_right
  b_right : Binds K A.d_right ["_law_pot_here"] []
  g_right : mg "_law_right" = some (.ref A.a_right)
  F_pot : Fun K "_law_pot" "_law_pot" s_pot A.a_pot A.d_pot
  b_pot : Binds K A.d_pot ["_law_script", "_law_k"] []
  g_pot : mg "_law_pot" = some (.ref A.a_pot)
  F_law : Fun K "law" "law" s_law A.a_law A.d_law
  b_law : Binds K A.d_law ["_law_script"] []
  g_law : mg "law" = some (.ref A.a_law)
  F_Word_init : Fun K "__init__" "Word.__init__" s_Word_init A.a_Word_init A.d_Word_init
  b_Word_init : Binds K A.d_Word_init ["self", "head", "middle", "tail"] []
  cl_Word : Cls K A.c_Word
  g_Word : mg "Word" = some (.ref A.c_Word)
  mk_Word : Mk K A.c_Word A.a_Word_init
  na_Word__head : NoAttr K A.c_Word "_head"
  na_Word__middle : NoAttr K A.c_Word "_middle"
  na_Word__tail : NoAttr K A.c_Word "_tail"
  cl_Rule : Cls K A.c_Rule
  g_Rule : mg "Rule" = some (.ref A.c_Rule)
  mk_Rule : Mk K A.c_Rule A.a_Rule_init
  na_Rule__step : NoAttr K A.c_Rule "_step"
  na_Rule__word : NoAttr K A.c_Rule "_word"
  na_Rule__stander : NoAttr K A.c_Rule "_stander"
  na_Rule__turned : NoAttr K A.c_Rule "_turned"
  g_CONTRARIES : mg "CONTRARIES" = some (.ref A.wd_CONTRARIES)
  kd_CONTRARIES : ∀ z c : Str, wd_CONTRARIES.lookup z = some c → KDct K w A.wd_CONTRARIES z (.str c)
  g_CONTRARY_STANDERS : mg "CONTRARY_STANDERS" = some (.ref A.wd_CONTRARY_STANDERS)
  kd_CONTRARY_STANDERS : ∀ z c : Str, wd_CONTRARY_STANDERS.lookup z = some c → KDct K w A.wd_CONTRARY_STANDERS z (.str c)
  g_STANDER_MARKS : mg "STANDER_MARKS" = some (.ref A.wd_STANDER_MARKS)
  kd_STANDER_MARKS : ∀ z c : Str, wd_STANDER_MARKS.lookup z = some c → KDct K w A.wd_STANDER_MARKS z (.str c)
  lo_CONTRARY_STANDERS : (A.wd_CONTRARY_STANDERS == sysModules) = false
  z_abs : mg "abs" = none
  z_all : mg "all" = none
  z_bool : mg "bool" = none
  z_dict : mg "dict" = none
  z_divmod : mg "divmod" = none
  z_int : mg "int" = none
  z_isinstance : mg "isinstance" = none
  z_len : mg "len" = none
  z_list : mg "list" = none
  z_max : mg "max" = none
  z_min : mg "min" = none
  z_range : mg "range" = none
  z_repr : mg "repr" = none
  z_str : mg "str" = none
  c_MOST_MARKS : ∃ u, mg "MOST_MARKS" = some u ∧ RelV (.int 4) u
  c_MOST_STEP : ∃ u, mg "MOST_STEP" = some u ∧ RelV (.int 7) u
  k_mark_of_size_rule_day_team : KBn K A.d_mark_of ["rule", "size", "team", "day"] 0 ["size", "rule", "day", "team"] (fun us ws => us ++ [ws.getD 1 .none, ws.getD 0 .none, ws.getD 3 .none, ws.getD 2 .none]) (fun us ws => us ++ [ws.getD 1 .non, ws.getD 0 .non, ws.getD 3 .non, ws.getD 2 .non])
  k_opponent_team_day_rule_size : KBn K A.d_opponent ["rule", "size", "team", "day"] 0 ["team", "day", "rule", "size"] (fun us ws => us ++ [ws.getD 2 .none, ws.getD 3 .none, ws.getD 0 .none, ws.getD 1 .none]) (fun us ws => us ++ [ws.getD 2 .non, ws.getD 3 .non, ws.getD 0 .non, ws.getD 1 .non])
  k_seat_day_team_size_rule : KBn K A.d_seat ["rule", "size", "team", "day"] 0 ["day", "team", "size", "rule"] (fun us ws => us ++ [ws.getD 3 .none, ws.getD 2 .none, ws.getD 1 .none, ws.getD 0 .none]) (fun us ws => us ++ [ws.getD 3 .non, ws.getD 2 .non, ws.getD 1 .non, ws.getD 0 .non])
abbrev ns_Word : List Str := ["_head", "_middle", "_tail"]
theorem nd_Word : ns_Word.Nodup := by decide +kernel
abbrev eWord (A : Ad) (x : (Str × Str × Str)) : D := .ins A.c_Word ns_Word [(D.v (V.str x.1)), (D.v (V.str x.2.1)), (D.v (V.str x.2.2))]
abbrev ns_Rule : List Str := ["_step", "_word", "_stander", "_turned"]
theorem nd_Rule : ns_Rule.Nodup := by decide +kernel
abbrev eRule (A : Ad) (x : (Int × (Str × Str × Str) × Str × Bool)) : D := .ins A.c_Rule ns_Rule [(D.v (V.int x.1)), (eWord A x.2.1), (D.v (V.str x.2.2.1)), (D.v (V.bl x.2.2.2))]
def M_is_marks (x_value : Str) (KM : Bool → Prop) : Prop :=
  (x_value.length ≤ sizeLine ∧ (KM (decide (V.int ((Txt.count x_value ("h" : Str) : Int) + (Txt.count x_value ("a" : Str) : Int)) = V.int (x_value.length : Int)))))
def sp_is_marks (A : Ad) : Sp := fun vs H Q _ => ∃ (ms : List Addr) (x_value : Str) (KM : Bool → Prop), vs = [V.str x_value] ∧ Wd ms [] [] H H ∧ M_is_marks x_value KM ∧ ∀ (r : Bool) (u : V) (H1 : Hp), KM r → Ret [] H H1 → rep ms H1 (D.v (V.bl r)) u → Q u H1
set_option maxHeartbeats 16000000 in
theorem ok_is_marks {P : Program} {w : World} {K : PySem.W.Frag} {mg : Str → Option Value} {base : Heap} {A : Ad} (T : Txt w K mg A) : FnOk P w K mg base CX0 1 A.a_is_marks A.d_is_marks ["value"] (sp_is_marks A) := by
  refine T.F_is_marks.ok sc_is_marks (fun vs H Q E h => ?_) (fun cdv A_ outer s_ H_0 vs Q E hr h => ?_)
  · obtain ⟨ms, x_value, KM, rfl, _⟩ := h
    rfl
  · obtain ⟨ms, x_value, KM, rfl, hW, hM, hQ⟩ := h
    unfold M_is_marks at hM
    refine ⟨_, (pss_one (ps_ret (pe_and (pe_callB (call_isiK (K := K) rfl) (by rfl) T.z_isinstance (by decide +kernel) (pa_cons (pv 0) (pa_cons (pe_bltn (v := .ty "str") (by rfl) T.z_str (by decide +kernel) rfl) pa_nil))) (pe_one (pe_cmpR op_eq (pe_op op_add (pe_m1 PySem.F.slot_str_count PySem.F.type_str_count mt_count (pv 0) pe_str) (pe_m1 PySem.F.slot_str_count PySem.F.type_str_count mt_count (pv 0) pe_str)) (pe_callB call_len_str (by rfl) T.z_len PySem.boot_len (pa_cons (pv 0) pa_nil)) (nomark _)))))), ?_⟩
    refine ⟨_, rfl, ?_⟩
    refine ⟨_, _, _, _, true, rfl, .ty _, .base (.str _), kit_ty (by decide +kernel), ?_⟩
    refine ⟨_, rfl, ?_⟩
    refine iteT ?_
    refine ⟨_, rfl, ?_⟩
    refine ⟨⟨_, rfl⟩, ?_⟩
    refine ⟨_, _, rfl, rfl, ?_⟩
    refine ⟨_, rfl, ?_⟩
    refine ⟨⟨_, rfl⟩, ?_⟩
    refine ⟨_, _, rfl, rfl, ?_⟩
    refine ⟨_, _, rfl, rfl, ?_⟩
    refine ⟨_, rfl, ?_⟩
    obtain ⟨g1, hM⟩ := hM
    refine ⟨_, rfl, g1, ?_⟩
    refine ⟨rfl, ?_⟩
    exact hQ (decide (V.int ((Txt.count x_value ("h" : Str) : Int) + (Txt.count x_value ("a" : Str) : Int)) = V.int (x_value.length : Int))) _ _ hM hW.out rep_v
def M_check_part (x_marks : Str) (KM : Unit → Prop) : Prop :=
  (M_is_marks x_marks fun r1 => (if (!r1) = true then False else (x_marks.length ≤ sizeLine ∧ (if (decide ((4 : Int) < (x_marks.length : Int))) = true then False else (KM ())))))
def sp_check_part (A : Ad) : Sp := fun vs H Q _ => ∃ (ms : List Addr) (x_marks : Str) (KM : Unit → Prop), vs = [V.str x_marks] ∧ Wd ms [] [] H H ∧ M_check_part x_marks KM ∧ ∀ (r : Unit) (u : V) (H1 : Hp), KM r → Ret [] H H1 → rep ms H1 (D.v V.non) u → Q u H1
set_option maxHeartbeats 16000000 in
theorem ok_check_part {P : Program} {w : World} {K : PySem.W.Frag} {mg : Str → Option Value} {base : Heap} {A : Ad} (T : Txt w K mg A) : FnOk P w K mg base CX0 2 A.a_check_part A.d_check_part ["marks"] (sp_check_part A) := by
  refine T.F_check_part.ok sc_check_part (fun vs H Q E h => ?_) (fun cdv A_ outer s_ H_0 vs Q E hr h => ?_)
  · obtain ⟨ms, x_marks, KM, rfl, _⟩ := h
    rfl
  · obtain ⟨ms, x_marks, KM, rfl, hW, hM, hQ⟩ := h
    unfold M_check_part at hM
    refine ⟨_, (pss_one (ps_if (PW.pt (pw_or (pt_not (pt_val (pe_call (ok_is_marks T) (hr.mono (by decide)) (by rfl) T.g_is_marks T.F_is_marks.kp T.b_is_marks .nil pass0 (pa_cons (pv 0) pa_nil)))) (pw_or1 (pt_cmpR op_gt (pe_callB call_len_str (by rfl) T.z_len PySem.boot_len (pa_cons (pv 0) pa_nil)) (C8.pe_gc (by rfl) T.c_MOST_MARKS) (nomark _))))) (pss_one ps_never) pss_nil)), ?_⟩
    refine ⟨_, rfl, ?_⟩
    refine ⟨ms, x_marks, _, rfl, hW.enter0, hM, fun r1 u4 H5 hM e3 h2 => ?_⟩
    replace hW := hW.ret0 e3
    obtain rfl := of_v h2
    refine ⟨_, rfl, ?_⟩
    refine ite3 hM (fun hM => ?_) (fun hM => ?_)
    · skip
      refine iteT ?_
      exact hM
    · skip
      refine ⟨_, rfl, ?_⟩
      obtain ⟨g6, hM⟩ := hM
      refine ⟨_, rfl, g6, ?_⟩
      refine ⟨_, _, rfl, rfl, ?_⟩
      refine ⟨_, rfl, ?_⟩
      refine ite3 hM (fun hM => ?_) (fun hM => ?_)
      · skip
        exact hM
      · skip
        exact hQ () _ _ hM hW.out rep_v
/-! ### a word is made -/
def M_Word_init (h m t : Str) : Prop := M_check_part h fun _ => M_check_part m fun _ => if decide (V.str m = V.str ("" : Str)) = true then False else M_check_part t fun _ => True
def sp_Word_init (A : Ad) : Sp := fun vs H Q _ => ∃ (p dx : Addr) (h m t : Str), vs = [.ref p, .str h, .str m, .str t] ∧ H p = some (.ins A.c_Word dx []) ∧ M_Word_init h m t ∧
  ∀ H1 : Hp, (∀ a o, a ≠ p → H a = some o → H1 a = some o) → H1 p = some (.ins A.c_Word dx (ns_Word.zip [.str h, .str m, .str t])) → (∀ a, H a ≠ none → H1 a ≠ none) → Q .non H1
theorem put3 {a b c : Str} {x y z : V} (h1 : ¬ a = b) (h2 : ¬ a = c) (h3 : ¬ b = c) : putF c z (putF b y (putF a x [])) = [(a, x), (b, y), (c, z)] := by
  simp [putF, h1, h2, h3]
theorem ok_Word_init {P : Program} {w : World} {K : PySem.W.Frag} {mg : Str → Option Value} {base : Heap} {A : Ad} (T : Txt w K mg A) : FnOk P w K mg base CX0 3 A.a_Word_init A.d_Word_init ["self", "head", "middle", "tail"] (sp_Word_init A) := by
  refine T.F_Word_init.ok sc_Word_init (fun vs H Q E h => ?_) (fun cdv A_ outer s_ H_0 vs Q E hr h => ?_)
  · obtain ⟨p, dx, hd, md, tl, rfl, _⟩ := h
    rfl
  · obtain ⟨p, dx, hd, md, tl, rfl, hp, hM, hQ⟩ := h
    have wd : ∀ H : Hp, Wd [] [] [] H H := fun H => ⟨fun _ _ _ h => h, fun _ h => h, fun _ h => absurd h List.not_mem_nil, fun _ h => absurd h List.not_mem_nil, fun _ h => absurd h List.not_mem_nil, fun _ h => absurd h List.not_mem_nil⟩
    refine ⟨_, pss_cons (ps_expr (pe_call (ok_check_part T) (hr.mono (by decide)) (by rfl) T.g_check_part T.F_check_part.kp T.b_check_part .nil pass0 (pa_cons (pv 1) pa_nil)))
      (pss_cons (ps_expr (pe_call (ok_check_part T) (hr.mono (by decide)) (by rfl) T.g_check_part T.F_check_part.kp T.b_check_part .nil pass0 (pa_cons (pv 2) pa_nil)))
      (pss_cons (ps_if (pt_cmpR op_eq (pv 2) pe_str (nomark _)) (pss_one ps_never) pss_nil)
      (pss_cons (ps_expr (pe_call (ok_check_part T) (hr.mono (by decide)) (by rfl) T.g_check_part T.F_check_part.kp T.b_check_part .nil pass0 (pa_cons (pv 3) pa_nil)))
      (pss_cons (ps_fld (pv 0) (pv 1) rfl) (pss_cons (ps_fld (pv 0) (pv 2) rfl) (pss_one (ps_fld (pv 0) (pv 3) rfl))))))), ?_⟩
    refine ⟨_, rfl, [], hd, _, rfl, wd _, hM, fun r1 u1 H1 hM e1 _ => ?_⟩
    refine ⟨_, rfl, [], md, _, rfl, wd _, hM, fun r2 u2 H2 hM e2 _ => ?_⟩
    refine ⟨_, rfl, rfl, _, rfl, ?_⟩
    refine ite3 hM (fun hM => hM) (fun hM => ?_)
    refine ⟨_, rfl, [], tl, _, rfl, wd _, hM, fun r3 u3 H3 hM e3 _ => ?_⟩
    have hp3 : H3 p = some (.ins A.c_Word dx []) := e3.keep (e2.keep (e1.keep hp))
    refine ⟨_, rfl, _, rfl, p, A.c_Word, dx, _, rfl, hp3, T.cl_Word, T.na_Word__head, (by decide), ?_⟩
    refine ⟨_, rfl, _, rfl, p, A.c_Word, dx, _, rfl, upd_same, T.cl_Word, T.na_Word__middle, (by show 1 < 1000; decide), ?_⟩
    refine ⟨_, rfl, _, rfl, p, A.c_Word, dx, _, rfl, upd_same, T.cl_Word, T.na_Word__tail, ?_, ?_⟩
    · show (putF "_middle" _ (putF "_head" _ [])).length < 1000
      exact Nat.lt_of_le_of_lt (length_putF _ _ _) (Nat.lt_of_le_of_lt (Nat.add_le_add_right (length_putF _ _ _) 1) (by decide))
    · refine hQ _ (fun a o n h => ?_) ?_ (fun a h => ?_)
      · rw [upd_ne n, upd_ne n, upd_ne n]
        exact e3.keep (e2.keep (e1.keep h))
      · rw [upd_same]
        exact congrArg (fun l => some (HO.ins A.c_Word dx l)) (put3 (by decide +kernel) (by decide +kernel) (by decide +kernel))
      · by_cases e : a = p
        · rw [e, upd_same]
          exact fun z => nomatch z
        · rw [upd_ne e, upd_ne e, upd_ne e]
          exact e3.grow a (e2.grow a (e1.grow a h))
theorem make_Word {ms ps : List Addr} {cs : List (Addr × List V)} {H0 H : Hp} {A : Ad} {h m t : Str} {R : Prop} {Q : Addr → Hp → Prop} {E : XK} (hW : Wd ms ps cs H0 H) (hM : M_Word_init h m t ∧ R)
    (k : ∀ (x : Addr) (H1 : Hp), R → Rx.Ext H H1 → rep ms H1 (eWord A (h, m, t)) (.ref x) → Q x H1) :
    ∀ x dx, H x = none → H dx = none → dx ≠ x → sp_Word_init A (.ref x :: ([.str h, .str m, .str t] ++ [])) (upd (upd H dx (.own x)) x (.ins A.c_Word dx [])) (fun v H2 => v = .non ∧ Q x H2) E := by
  intro x dx nx ndx ne
  refine ⟨x, dx, h, m, t, rfl, upd_same, hM.1, fun H1 h1 h2 h3 => ⟨rfl, k x H1 hM.2 ⟨fun a o _ ha => ?_, fun _ z => absurd z List.not_mem_nil, fun a ha => ?_⟩ ?_⟩⟩
  · have n1 : a ≠ x := ne_of_none ha nx
    exact h1 a o n1 (by rw [upd_ne n1, upd_ne (ne_of_none ha ndx)]; exact ha)
  · refine h3 a ?_
    by_cases e : a = x
    · rw [e, upd_same]
      exact fun z => nomatch z
    · rw [upd_ne e]
      by_cases e2 : a = dx
      · rw [e2, upd_same]
        exact fun z => nomatch z
      · rw [upd_ne e2]
        exact ha
  · simp only [rep]
    exact ⟨x, dx, _, rfl, fun z => hW.tr x z nx, h2, rfl, repL_cons rep_v (repL_cons rep_v (repL_cons rep_v repL_nil))⟩

/-! ### draws: any number below the size -/
def M_draw (x_size : Int) (KM : Int → Prop) : Prop := (0 < x_size ∧ x_size < 1073741824) ∧ ∀ d : Int, 0 ≤ d → d < x_size → KM d
def sp_draw (A : Ad) : Sp := fun vs H Q _ => ∃ (ms : List Addr) (ap : Addr) (x_size : Int) (KM : Int → Prop), vs = [.ref ap, V.int x_size] ∧ Wd ms [ap] [] H H ∧ M_draw x_size KM ∧ ∀ (r : Int) (u : V) (H1 : Hp), KM r → Ret [ap] H H1 → rep ms H1 (D.v (V.int r)) u → Q u H1
theorem ret_pot1 {H : Hp} {ap : Addr} {o : HO} {i j : Int} (ha : H ap = some o) (hj : j.natAbs < 4294967296) : Ret [ap] H (upd H ap (.lst [.int i, .int j])) := by
  refine ⟨fun a u n h => ?_, fun a h => ?_, fun a h => ?_⟩
  · rw [upd_ne (fun z => n (by rw [z]; exact List.mem_singleton.mpr rfl))]
    exact h
  · rw [List.mem_singleton.mp h]
    exact ⟨i, j, upd_same, hj⟩
  · by_cases e : a = ap
    · rw [e, upd_same]
      exact fun z => nomatch z
    · rw [upd_ne e]
      exact h
theorem ret_pot2 {H : Hp} {ap p : Addr} {o u : HO} {i j : Int} (ha : H ap = some o) (np : H p = none) (hj : j.natAbs < 4294967296) : Ret [ap] H (upd (upd H p u) ap (.lst [.int i, .int j])) := by
  have e := Rx.Ext.new (o := u) np
  have h2 := ret_pot1 (i := i) (j := j) (e.keep ha) hj
  exact ⟨fun a w n h => h2.kp a w n (e.keep h), h2.pot, fun a h => h2.grow a (e.grow a h)⟩
theorem ok_draw {P : Program} {w : World} {K : PySem.W.Frag} {mg : Str → Option Value} {base : Heap} {A : Ad} (T : Txt w K mg A) : FnOk P w K mg base CX0 1 A.a_draw A.d_draw ["_law_pot_here", "_law_much"] (sp_draw A) := by
  refine T.F_draw.ok sc_draw (fun vs H Q E h => ?_) (fun cdv A_ outer s_ H_0 vs Q E hr h => ?_)
  · obtain ⟨ms, ap, x_size, KM, rfl, _⟩ := h
    rfl
  · obtain ⟨ms, ap, n, KM, rfl, hW, ⟨⟨n0, n1⟩, hM⟩, hQ⟩ := h
    obtain ⟨i, j, hp, hj⟩ := hW.pot ap (List.mem_singleton.mpr rfl)
    refine ⟨_, pss_cons (ps_if (pt_cmpR op_gt (pe_ix ix_list (pv 0) pe_int (fun _ _ => rfl)) pe_int (nomark _))
        (pss_cons (ps_asg (pe_callB call_divmod (by rfl) T.z_divmod (by decide +kernel) (pa_cons (pe_ix ix_list (pv 0) pe_int (fun _ _ => rfl)) (pa_cons (pv 1) pa_nil)))
            (pg_tup rfl (pgs_cons (pg_sub (pv 0) pe_int set_list) (pgs_cons (pg_name (i := 2) sc_draw.nd rfl (.inl rfl)) pgs_nil)))) (pss_one (ps_ret (pv 2)))) pss_nil)
      (pss_cons (ps_asg (pe_op op_mod (pe_callTy call_int1 (by rfl) T.z_int (by decide +kernel) (pa_cons (pe_op op_add (pe_op op_mul (pe_ix ix_list (pv 0) pe_int (fun _ _ => rfl)) pe_int) pe_int) pa_nil)) pe_int) (pg_sub (pv 0) pe_int set_list))
      (pss_one (ps_ret (pe_op op_mod (pe_callTy call_int1 (by rfl) T.z_int (by decide +kernel) (pa_cons (pe_op op_fdiv (pe_op op_mod (pe_callTy call_int1 (by rfl) T.z_int (by decide +kernel)
          (pa_cons (pe_op op_mul (pe_ix ix_list (pv 0) pe_int (fun _ _ => rfl)) (pe_ix ix_list (pv 0) pe_int (fun _ _ => rfl))) pa_nil)) pe_int) pe_int) pa_nil)) (pv 1))))), ?_⟩
    refine ⟨_, rfl, ap, _, 0, .int i, rfl, rfl, .inl (.inl hp), rfl, _, _, rfl, rfl, _, rfl, ?_⟩
    refine ite2 (fun c => ?_) (fun c => ?_)
    · refine ⟨_, rfl, ap, _, 0, .int i, rfl, rfl, .inl (.inl hp), rfl, _, rfl, _, _, rfl, ⟨n0, n1⟩, fun p np => ?_⟩
      have npa : ap ≠ p := ne_of_none hp np
      refine ⟨p, _, rfl, .inl (.inl upd_same), rfl, _, _, rfl, _, rfl, ap, _, 0, 0, rfl, rfl, (by rw [upd_ne npa]; exact hp), rfl, _, _, rfl, rfl, _, rfl, ?_⟩
      exact hQ (i % n) _ _ (hM _ (Int.emod_nonneg _ (by omega)) (Int.emod_lt_of_pos _ n0)) (ret_pot2 hp np hj) rep_v
    · refine ⟨_, rfl, ap, _, 1, .int j, rfl, rfl, .inl (.inl hp), rfl, _, _, rfl, rfl, .inr ⟨by decide, by decide⟩, _, _, rfl, rfl, .inl ⟨_, rfl, _, _, rfl, rfl, (by show (0 : Int) < 2147483587; decide), ?_⟩⟩
      refine ⟨_, rfl, ap, _, 1, 1, rfl, rfl, hp, rfl, ?_⟩
      refine ⟨_, rfl, ap, _, 1, _, rfl, rfl, .inl (.inl upd_same), rfl, _, rfl, ap, _, 1, _, rfl, rfl, .inl (.inl upd_same), rfl, _, _, rfl, rfl, .inl ⟨?_, ?_⟩, .inl ⟨_, rfl, _, _, rfl, rfl, (by show (0 : Int) < 2147483563; decide), _, _, rfl, rfl, ⟨by decide, by decide⟩, .inl ⟨_, rfl, _, rfl, _, _, rfl, rfl, n0, ?_⟩⟩⟩
      · omega
      · omega
      · refine hQ _ _ _ (hM _ (Int.emod_nonneg _ (by omega)) (Int.emod_lt_of_pos _ n0)) (ret_pot1 (i := i) hp ?_) rep_v
        omega

def M_pick (x_some : (List Int)) (KM : Int → Prop) : Prop :=
  (M_draw (x_some.length : Int) fun r1 => (0 ≤ r1 ∧ ∃ g7 : Int.toNat r1 < x_some.length, ∀ x9, x9 = x_some[Int.toNat r1]'g7 → (KM x9)))
def sp_pick (A : Ad) : Sp := fun vs H Q _ => ∃ (ms : List Addr) (ap : Addr) (v_some : V) (x_some : (List Int)) (KM : Int → Prop), vs = [.ref ap, v_some] ∧ Wd ms [ap] [] H H ∧ rep ms H (D.lst (x_some.map (fun y_ : Int => (D.v (V.int y_))))) v_some ∧ M_pick x_some KM ∧ ∀ (r : Int) (u : V) (H1 : Hp), KM r → Ret [ap] H H1 → rep ms H1 (D.v (V.int r)) u → Q u H1
set_option maxHeartbeats 16000000 in
theorem ok_pick {P : Program} {w : World} {K : PySem.W.Frag} {mg : Str → Option Value} {base : Heap} {A : Ad} (T : Txt w K mg A) : FnOk P w K mg base CX0 2 A.a_pick A.d_pick ["_law_pot_here", "_law_some"] (sp_pick A) := by
  refine T.F_pick.ok sc_pick (fun vs H Q E h => ?_) (fun cdv A_ outer s_ H_0 vs Q E hr h => ?_)
  · obtain ⟨ms, ap, v_some, x_some, KM, rfl, _⟩ := h
    rfl
  · obtain ⟨ms, ap, v_some, x_some, KM, rfl, hW, h_some, hM, hQ⟩ := h
    unfold M_pick at hM
    refine ⟨_, (pss_one (ps_ret (pe_ix (ix_listK (K := K) rfl) (pv 1) (pe_call (ok_draw T) (hr.mono (by decide)) (by rfl) T.g_draw T.F_draw.kp T.b_draw .nil pass0 (pa_cons (pv 0) (pa_cons (pe_callB (call_lenK (K := K) rfl) (by rfl) T.z_len PySem.boot_len (pa_cons (pv 1) pa_nil)) pa_nil))) (fun _ _ => rfl)))), ?_⟩
    refine ⟨_, rfl, ?_⟩
    refine ⟨_, rfl, ?_⟩
    refine ⟨_, rfl, ?_⟩
    apply rep_lenL (e := (fun y_ : Int => (D.v (V.int y_)))) (xs := x_some) h_some
    refine ⟨ms, ap, (x_some.length : Int), _, rfl, hW.enterP, hM, fun r1 u4 H5 hM e3 h2 => ?_⟩
    replace h_some := rep_ret hW e3 h_some
    replace hW := hW.retP e3
    obtain rfl := of_v h2
    obtain ⟨g6, g7, hM⟩ := hM
    apply rep_ixL (e := (fun y_ : Int => (D.v (V.int y_)))) (xs := x_some) h_some g6 g7
    intro u10 h8
    obtain ⟨x9, x9e⟩ : ∃ x_, x_ = x_some[Int.toNat r1]'g7 := ⟨_, rfl⟩
    rw [← x9e] at h8
    replace hM := hM x9 x9e
    obtain rfl := of_v h8
    exact hQ x9 _ _ hM hW.out rep_v
def M_signs (x_few : Int) (x_most : Int) (KM : Str → Prop) : Prop :=
  (M_draw ((x_most - x_few) + (1 : Int)) fun r1 => ((rangeI (0 : Int) (x_few + r1)).length < 100000 ∧ mapC (fun (x17 : Int) (k10 : Str → Prop) => (M_draw (2 : Int) fun r23 => (("ha" : Str).length ≤ sizeLine ∧ ∃ c29, atI ("ha" : Str).cps.toList r23 = some c29 ∧ (k10 (Str.mk #[c29]))))) (rangeI (0 : Int) (x_few + r1)) [] fun ys35 => ((ys35.map (·.length)).sum + ys35.length * ("" : Str).length ≤ 16777216 ∧ (KM (Txt.join ("" : Str) ys35)))))
def sp_signs (A : Ad) : Sp := fun vs H Q _ => ∃ (ms : List Addr) (ap : Addr) (x_few : Int) (x_most : Int) (KM : Str → Prop), vs = [.ref ap, V.int x_few, V.int x_most] ∧ Wd ms [ap] [] H H ∧ M_signs x_few x_most KM ∧ ∀ (r : Str) (u : V) (H1 : Hp), KM r → Ret [ap] H H1 → rep ms H1 (D.v (V.str r)) u → Q u H1
set_option maxHeartbeats 16000000 in
theorem ok_signs {P : Program} {w : World} {K : PySem.W.Frag} {mg : Str → Option Value} {base : Heap} {A : Ad} (T : Txt w K mg A) : FnOk P w K mg base CX0 2 A.a_signs A.d_signs ["_law_pot_here", "_law_few", "_law_most"] (sp_signs A) := by
  refine T.F_signs.ok sc_signs (fun vs H Q E h => ?_) (fun cdv A_ outer s_ H_0 vs Q E hr h => ?_)
  · obtain ⟨ms, ap, x_few, x_most, KM, rfl, _⟩ := h
    rfl
  · obtain ⟨ms, ap, x_few, x_most, KM, rfl, hW, hM, hQ⟩ := h
    unfold M_signs at hM
    refine ⟨_, (pss_one (ps_ret (pe_join pe_str (pe_lc (own := [("_law_turn", 3)]) (g := gName 3) rfl sc_signs.nd (pi_rangeW1 (by rfl) T.z_range (pa_cons (pe_op op_add (pv 1) (pe_call (ok_draw T) (hr.mono (by decide)) (by rfl) T.g_draw T.F_draw.kp T.b_draw .nil pass0 (pa_cons (pv 0) (pa_cons (pe_op op_add (pe_op op_sub (pv 2) (pv 1)) pe_int) pa_nil)))) pa_nil)) (blkOk_by (N := ["_law_pot_here", "_law_few", "_law_most", "_law_turn"]) (sc := defScope s_signs) (by decide +kernel)) (fun _ _ _ _ _ => pg_name (i := 3) sc_signs.nd rfl (by first | exact Or.inl rfl | exact Or.inr rfl)) (fun _ _ _ _ _ => pts_nil) (fun _ _ _ _ _ => (pe_ix ix_str pe_str (pe_call (ok_draw T) (hr.mono (by decide)) (by rfl) T.g_draw T.F_draw.kp T.b_draw .nil pass0 (pa_cons (pv 0) (pa_cons pe_int pa_nil))) (fun _ _ => rfl))))))), ?_⟩
    refine ⟨⟨_, rfl⟩, ?_⟩
    refine ⟨_, rfl, ?_⟩
    refine ⟨_, rfl, ?_⟩
    refine ⟨_, rfl, ?_⟩
    refine ⟨_, rfl, ?_⟩
    refine ⟨_, _, rfl, rfl, ?_⟩
    refine ⟨_, _, rfl, rfl, ?_⟩
    refine ⟨ms, ap, ((x_most - x_few) + (1 : Int)), _, rfl, hW.enterP, hM, fun r1 u4 H5 hM e3 h2 => ?_⟩
    replace hW := hW.retP e3
    obtain rfl := of_v h2
    refine ⟨_, _, rfl, rfl, ?_⟩
    refine ⟨_, rfl, ?_⟩
    refine fun L6 nl7 => ?_
    have nm21 := nm_new hW nl7
    refine lc_rangeG (L := L6) (fun n_ ys_ h_ => Wd (L6 :: ms) [ap] [] H_0 h_ ∧ Keep (L6 :: ms) H5 h_ ∧ MutO (L6 :: ms) [ap] H_0 h_ L6 (D.lst (ys_.map (fun y_ : Str => (D.v (V.str y_))))) ∧ ys_.length ≤ n_) (lo := (0 : Int)) (hi := (x_few + r1)) (N := Int.toNat (x_few + r1)) (by simp) hM ⟨wd_cell hW nl7, keep_cell nl7 Keep.refl, mo_newL (ds := []) hW nl7 repL_nil, Nat.le_refl _⟩ ?_ ?_
    · skip
      rintro x17  n8 ys9 k10 H22 hn ⟨hW, hk11, mu12, ln13⟩ hM Nx16 hN14
      refine ⟨rfl, ?_⟩
      refine tyes_of ?_
      refine ⟨_, rfl, ?_⟩
      refine ⟨(L6 :: ms), ap, (2 : Int), _, rfl, hW.enterP, hM, fun r23 u26 H27 hM e25 h24 => ?_⟩
      replace hk11 := keep_ret hW e25 hk11
      replace mu12 := mo_ret hW e25 mu12
      replace hW := hW.retP e25
      obtain rfl := of_v h24
      obtain ⟨g28, hM⟩ := hM
      obtain ⟨c29, c29h, hM⟩ := hM
      refine ⟨_, _, _, rfl, rfl, g28, c29h, ?_⟩
      refine mo_end mu12 hn (by rw [List.length_map]; exact ln13) fun vs30 hr31 => ?_
      have mk33 := mo_setL mu12 (repL_snoc (e := (fun y_ : Str => (D.v (V.str y_)))) (xs := ys9) (y := (Str.mk #[c29])) hr31 rep_v)
      replace hk11 := keep_put (o := .lst (vs30 ++ [V.str (Str.mk #[c29])])) mu12.im hk11
      replace hW := wd_put (o := .lst (vs30 ++ [V.str (Str.mk #[c29])])) hW mu12
      replace mu12 := mk33
      generalize upd H27 L6 (.lst (vs30 ++ [V.str (Str.mk #[c29])])) = H34 at *
      replace mu12 : MutO (L6 :: ms) [ap] H_0 H34 L6 (D.lst ((ys9 ++ [(Str.mk #[c29])]).map (fun y_ : Str => (D.v (V.str y_))))) := mu12
      clear mk33
      exact hN14 (Str.mk #[c29]) _ hM ⟨hW, hk11, mu12, by rw [List.length_append]; exact Nat.add_le_add_right ln13 1⟩
    · skip
      rintro n8 ys35 H36 hM ⟨hW, hk11, mu12, ln13⟩
      clear hk11 ln13
      have h37 := mo_rep_dr dr_here nm21 mu12
      replace hW := wd_dr dr_here mu12.hp hW
      clear mu12
      obtain ⟨g38, hM⟩ := hM
      apply rep_join (a := ("" : Str)) (ys := ys35) h37 g38
      exact hQ (Txt.join ("" : Str) ys35) _ _ hM hW.out rep_v
def M_pick_pls (x_some : (List Str)) (KM : Str → Prop) : Prop :=
  (M_draw (x_some.length : Int) fun r1 => (0 ≤ r1 ∧ ∃ g7 : Int.toNat r1 < x_some.length, ∀ x9, x9 = x_some[Int.toNat r1]'g7 → (KM x9)))
def sp_pick_pls (A : Ad) : Sp := fun vs H Q _ => ∃ (ms : List Addr) (ap : Addr) (v_some : V) (x_some : (List Str)) (KM : Str → Prop), vs = [.ref ap, v_some] ∧ Wd ms [ap] [] H H ∧ rep ms H (D.lst (x_some.map (fun y_ : Str => (D.v (V.str y_))))) v_some ∧ M_pick_pls x_some KM ∧ ∀ (r : Str) (u : V) (H1 : Hp), KM r → Ret [ap] H H1 → rep ms H1 (D.v (V.str r)) u → Q u H1
set_option maxHeartbeats 16000000 in
theorem ok_pick_pls {P : Program} {w : World} {K : PySem.W.Frag} {mg : Str → Option Value} {base : Heap} {A : Ad} (T : Txt w K mg A) : FnOk P w K mg base CX0 2 A.a_pick A.d_pick ["_law_pot_here", "_law_some"] (sp_pick_pls A) := by
  refine T.F_pick.ok sc_pick (fun vs H Q E h => ?_) (fun cdv A_ outer s_ H_0 vs Q E hr h => ?_)
  · obtain ⟨ms, ap, v_some, x_some, KM, rfl, _⟩ := h
    rfl
  · obtain ⟨ms, ap, v_some, x_some, KM, rfl, hW, h_some, hM, hQ⟩ := h
    unfold M_pick_pls at hM
    refine ⟨_, (pss_one (ps_ret (pe_ix (ix_listK (K := K) rfl) (pv 1) (pe_call (ok_draw T) (hr.mono (by decide)) (by rfl) T.g_draw T.F_draw.kp T.b_draw .nil pass0 (pa_cons (pv 0) (pa_cons (pe_callB (call_lenK (K := K) rfl) (by rfl) T.z_len PySem.boot_len (pa_cons (pv 1) pa_nil)) pa_nil))) (fun _ _ => rfl)))), ?_⟩
    refine ⟨_, rfl, ?_⟩
    refine ⟨_, rfl, ?_⟩
    refine ⟨_, rfl, ?_⟩
    apply rep_lenL (e := (fun y_ : Str => (D.v (V.str y_)))) (xs := x_some) h_some
    refine ⟨ms, ap, (x_some.length : Int), _, rfl, hW.enterP, hM, fun r1 u4 H5 hM e3 h2 => ?_⟩
    replace h_some := rep_ret hW e3 h_some
    replace hW := hW.retP e3
    obtain rfl := of_v h2
    obtain ⟨g6, g7, hM⟩ := hM
    apply rep_ixL (e := (fun y_ : Str => (D.v (V.str y_)))) (xs := x_some) h_some g6 g7
    intro u10 h8
    obtain ⟨x9, x9e⟩ : ∃ x_, x_ = x_some[Int.toNat r1]'g7 := ⟨_, rfl⟩
    rw [← x9e] at h8
    replace hM := hM x9 x9e
    obtain rfl := of_v h8
    exact hQ x9 _ _ hM hW.out rep_v
def M_model (KM : (Int × (Str × Str × Str) × Str × Bool) → Prop) : Prop :=
  (M_pick ([(1 : Int), (1 : Int), (2 : Int), (3 : Int), (3 : Int), (4 : Int), (5 : Int), (6 : Int), (7 : Int)] : List Int) fun r12 => (M_pick ([(1 : Int), (1 : Int), (-(1 : Int))] : List Int) fun r23 => (CMulW r12 r23 ∧ (M_signs (0 : Int) (4 : Int) fun r31 => (M_signs (1 : Int) (4 : Int) fun r36 => (M_signs (0 : Int) (4 : Int) fun r41 => (M_pick_pls ([("home" : Str), ("away" : Str), ("even" : Str), ("odd" : Str)] : List Str) fun r63 => (M_draw (2 : Int) fun r68 => (KM ((((r12 * r23), (r31, r36, r41)).1, ((r12 * r23), (r31, r36, r41)).2, r63).1, (((r12 * r23), (r31, r36, r41)).1, ((r12 * r23), (r31, r36, r41)).2, r63).2.1, (((r12 * r23), (r31, r36, r41)).1, ((r12 * r23), (r31, r36, r41)).2, r63).2.2, (decide (V.int r68 = V.int (1 : Int)))))))))))))
def sp_model (A : Ad) : Sp := fun vs H Q _ => ∃ (ms : List Addr) (ap : Addr) (KM : (Int × (Str × Str × Str) × Str × Bool) → Prop), vs = [.ref ap] ∧ Wd ms [ap] [] H H ∧ M_model  KM ∧ ∀ (r : (Int × (Str × Str × Str) × Str × Bool)) (u : V) (H1 : Hp), KM r → Ret [ap] H H1 → rep ms H1 (D.dct [(Sum.inr ("stride" : Str) : Key), (Sum.inr ("parts" : Str) : Key), (Sum.inr ("stand" : Str) : Key), (Sum.inr ("flips" : Str) : Key)] [(D.v (V.int r.1)), (D.tup [(D.v (V.str r.2.1.1)), (D.v (V.str r.2.1.2.1)), (D.v (V.str r.2.1.2.2))]), (D.v (V.str r.2.2.1)), (D.v (V.bl r.2.2.2))]) u → Q u H1
set_option maxHeartbeats 16000000 in
theorem ok_model {P : Program} {w : World} {K : PySem.W.Frag} {mg : Str → Option Value} {base : Heap} {A : Ad} (T : Txt w K mg A) : FnOk P w K mg base CX0 3 A.a_model A.d_model ["_law_pot_here"] (sp_model A) := by
  refine T.F_model.ok sc_model (fun vs H Q E h => ?_) (fun cdv A_ outer s_ H_0 vs Q E hr h => ?_)
  · obtain ⟨ms, ap, KM, rfl, _⟩ := h
    rfl
  · obtain ⟨ms, ap, KM, rfl, hW, hM, hQ⟩ := h
    unfold M_model at hM
    refine ⟨_, (pss_cons (ps_set (i := 1) sc_model.nd rfl (by first | exact Or.inl rfl | exact Or.inr rfl) (pe_disp (pps_cons pe_str (pe_op op_mulW (pe_call (ok_pick T) (hr.mono (by decide)) (by rfl) T.g_pick T.F_pick.kp T.b_pick .nil pass0 (pa_cons (pv 0) (pa_cons (pe_lst (pa_cons pe_int (pa_cons pe_int (pa_cons pe_int (pa_cons pe_int (pa_cons pe_int (pa_cons pe_int (pa_cons pe_int (pa_cons pe_int (pa_cons pe_int pa_nil)))))))))) pa_nil))) (pe_call (ok_pick T) (hr.mono (by decide)) (by rfl) T.g_pick T.F_pick.kp T.b_pick .nil pass0 (pa_cons (pv 0) (pa_cons (pe_lst (pa_cons pe_int (pa_cons pe_int (pa_cons (pe_un un_neg pe_int) pa_nil)))) pa_nil)))) pps_nil) rfl rfl (by simp) (by decide))) (pss_cons (ps_asg (pe_tup (pa_cons (pe_call (ok_signs T) (hr.mono (by decide)) (by rfl) T.g_signs T.F_signs.kp T.b_signs .nil pass0 (pa_cons (pv 0) (pa_cons pe_int (pa_cons pe_int pa_nil)))) (pa_cons (pe_call (ok_signs T) (hr.mono (by decide)) (by rfl) T.g_signs T.F_signs.kp T.b_signs .nil pass0 (pa_cons (pv 0) (pa_cons pe_int (pa_cons pe_int pa_nil)))) (pa_cons (pe_call (ok_signs T) (hr.mono (by decide)) (by rfl) T.g_signs T.F_signs.kp T.b_signs .nil pass0 (pa_cons (pv 0) (pa_cons pe_int (pa_cons pe_int pa_nil)))) pa_nil)))) (pg_sub (pv 1) pe_str (set_dict (hu_of hr)))) (pss_cons (ps_asg (pe_tup (pa_cons (pe_call (ok_pick_pls T) (hr.mono (by decide)) (by rfl) T.g_pick T.F_pick.kp T.b_pick .nil pass0 (pa_cons (pv 0) (pa_cons (pe_lst (pa_cons pe_str (pa_cons pe_str (pa_cons pe_str (pa_cons pe_str pa_nil))))) pa_nil))) (pa_cons (pe_cmpR op_eq (pe_call (ok_draw T) (hr.mono (by decide)) (by rfl) T.g_draw T.F_draw.kp T.b_draw .nil pass0 (pa_cons (pv 0) (pa_cons pe_int pa_nil))) pe_int (nomark _)) pa_nil))) (pg_tup rfl (pgs_cons (pg_sub (pv 1) pe_str (set_dict (hu_of hr))) (pgs_cons (pg_sub (pv 1) pe_str (set_dict (hu_of hr))) pgs_nil)))) (pss_one (ps_ret (pv 1)))))), ?_⟩
    intro L1 nl2
    have nm3 := nm_new hW nl2
    have mu4 := mo_nilD hW nl2
    replace hW := wd_cell (o := .dK []) hW nl2
    generalize upd H_0 L1 (.dK []) = H5 at *
    replace mu4 : MutO (L1 :: ms) [ap] H_0 H5 L1 (D.dct [] []) := mu4
    refine ⟨_, rfl, ?_⟩
    refine ⟨(by show 9 ≤ sizeLine; decide), ?_⟩
    intro p6 n10
    have e7 := Rx.Ext.new (H := H5) (o := (HO.lst [V.int (1 : Int), V.int (1 : Int), V.int (2 : Int), V.int (3 : Int), V.int (3 : Int), V.int (4 : Int), V.int (5 : Int), V.int (6 : Int), V.int (7 : Int)])) n10
    have hp8 : upd H5 p6 (HO.lst [V.int (1 : Int), V.int (1 : Int), V.int (2 : Int), V.int (3 : Int), V.int (3 : Int), V.int (4 : Int), V.int (5 : Int), V.int (6 : Int), V.int (7 : Int)]) p6 = some (HO.lst [V.int (1 : Int), V.int (1 : Int), V.int (2 : Int), V.int (3 : Int), V.int (3 : Int), V.int (4 : Int), V.int (5 : Int), V.int (6 : Int), V.int (7 : Int)]) := upd_same
    generalize upd H5 p6 (HO.lst [V.int (1 : Int), V.int (1 : Int), V.int (2 : Int), V.int (3 : Int), V.int (3 : Int), V.int (4 : Int), V.int (5 : Int), V.int (6 : Int), V.int (7 : Int)]) = H11 at e7 hp8 ⊢
    have h9 : rep (L1 :: ms) H11 (D.lst (([(1 : Int), (1 : Int), (2 : Int), (3 : Int), (3 : Int), (4 : Int), (5 : Int), (6 : Int), (7 : Int)] : List Int).map (fun y_ : Int => (D.v (V.int y_))))) (.ref p6) := rep_lst_mk hW n10 e7 hp8 (repL_cons rep_v (repL_cons rep_v (repL_cons rep_v (repL_cons rep_v (repL_cons rep_v (repL_cons rep_v (repL_cons rep_v (repL_cons rep_v (repL_cons rep_v repL_nil)))))))))
    replace mu4 := mo_ext e7 mu4
    replace hW := hW.ret0 e7
    refine ⟨(L1 :: ms), ap, _, ([(1 : Int), (1 : Int), (2 : Int), (3 : Int), (3 : Int), (4 : Int), (5 : Int), (6 : Int), (7 : Int)] : List Int), _, rfl, hW.enterP, h9, hM, fun r12 u15 H16 hM e14 h13 => ?_⟩
    replace h9 := rep_ret hW e14 h9
    replace mu4 := mo_ret hW e14 mu4
    replace hW := hW.retP e14
    obtain rfl := of_v h13
    refine ⟨_, rfl, ?_⟩
    refine ⟨_, rfl, ?_⟩
    refine ⟨(by show 3 ≤ sizeLine; decide), ?_⟩
    intro p17 n21
    have e18 := Rx.Ext.new (H := H16) (o := (HO.lst [V.int (1 : Int), V.int (1 : Int), V.int (-(1 : Int))])) n21
    have hp19 : upd H16 p17 (HO.lst [V.int (1 : Int), V.int (1 : Int), V.int (-(1 : Int))]) p17 = some (HO.lst [V.int (1 : Int), V.int (1 : Int), V.int (-(1 : Int))]) := upd_same
    generalize upd H16 p17 (HO.lst [V.int (1 : Int), V.int (1 : Int), V.int (-(1 : Int))]) = H22 at e18 hp19 ⊢
    have h20 : rep (L1 :: ms) H22 (D.lst (([(1 : Int), (1 : Int), (-(1 : Int))] : List Int).map (fun y_ : Int => (D.v (V.int y_))))) (.ref p17) := rep_lst_mk hW n21 e18 hp19 (repL_cons rep_v (repL_cons rep_v (repL_cons rep_v repL_nil)))
    replace h9 := rep_ext e18 h9
    replace mu4 := mo_ext e18 mu4
    replace hW := hW.ret0 e18
    refine ⟨(L1 :: ms), ap, _, ([(1 : Int), (1 : Int), (-(1 : Int))] : List Int), _, rfl, hW.enterP, h20, hM, fun r23 u26 H27 hM e25 h24 => ?_⟩
    replace h9 := rep_ret hW e25 h9
    replace h20 := rep_ret hW e25 h20
    replace mu4 := mo_ret hW e25 mu4
    replace hW := hW.retP e25
    obtain rfl := of_v h24
    obtain ⟨g28, hM⟩ := hM
    refine ⟨_, _, rfl, rfl, g28, ?_⟩
    refine ⟨mo_dK0 mu4, List.zip [(Sum.inr ("stride" : Str) : Key)] [V.int (r12 * r23)], rfl, (by show 1 ≤ 15; decide), ?_⟩
    rw [merge_zip (ks := [(Sum.inr ("stride" : Str) : Key)]) (vs := [V.int (r12 * r23)]) rfl (by decide +kernel)]
    have mk29 := mo_setD (ks := [(Sum.inr ("stride" : Str) : Key)]) (vs := [V.int (r12 * r23)]) mu4 rfl (repL_cons rep_v repL_nil)
    replace h9 := rep_put (o := .dK (List.zip [(Sum.inr ("stride" : Str) : Key)] [V.int (r12 * r23)])) mu4.im h9
    replace h20 := rep_put (o := .dK (List.zip [(Sum.inr ("stride" : Str) : Key)] [V.int (r12 * r23)])) mu4.im h20
    replace hW := wd_put (o := .dK (List.zip [(Sum.inr ("stride" : Str) : Key)] [V.int (r12 * r23)])) hW mu4
    replace mu4 := mk29
    generalize upd H27 L1 (.dK (List.zip [(Sum.inr ("stride" : Str) : Key)] [V.int (r12 * r23)])) = H30 at *
    replace mu4 : MutO (L1 :: ms) [ap] H_0 H30 L1 (D.dct [(Sum.inr ("stride" : Str) : Key)] [(D.v (V.int (r12 * r23)))]) := mu4
    clear mk29
    refine ⟨_, rfl, ?_⟩
    refine ⟨(L1 :: ms), ap, (0 : Int), (4 : Int), _, rfl, hW.enterP, hM, fun r31 u34 H35 hM e33 h32 => ?_⟩
    replace h9 := rep_ret hW e33 h9
    replace h20 := rep_ret hW e33 h20
    replace mu4 := mo_ret hW e33 mu4
    replace hW := hW.retP e33
    obtain rfl := of_v h32
    refine ⟨_, rfl, ?_⟩
    refine ⟨(L1 :: ms), ap, (1 : Int), (4 : Int), _, rfl, hW.enterP, hM, fun r36 u39 H40 hM e38 h37 => ?_⟩
    replace h9 := rep_ret hW e38 h9
    replace h20 := rep_ret hW e38 h20
    replace mu4 := mo_ret hW e38 mu4
    replace hW := hW.retP e38
    obtain rfl := of_v h37
    refine ⟨_, rfl, ?_⟩
    refine ⟨(L1 :: ms), ap, (0 : Int), (4 : Int), _, rfl, hW.enterP, hM, fun r41 u44 H45 hM e43 h42 => ?_⟩
    replace h9 := rep_ret hW e43 h9
    replace h20 := rep_ret hW e43 h20
    replace mu4 := mo_ret hW e43 mu4
    replace hW := hW.retP e43
    obtain rfl := of_v h42
    refine ⟨(by show 3 ≤ sizeLine; decide), ?_⟩
    intro p46 n50
    have e47 := Rx.Ext.new (H := H45) (o := (HO.tup [V.str r31, V.str r36, V.str r41])) n50
    have hp48 : upd H45 p46 (HO.tup [V.str r31, V.str r36, V.str r41]) p46 = some (HO.tup [V.str r31, V.str r36, V.str r41]) := upd_same
    generalize upd H45 p46 (HO.tup [V.str r31, V.str r36, V.str r41]) = H51 at e47 hp48 ⊢
    have h49 : rep (L1 :: ms) H51 (D.tup [(D.v (V.str r31)), (D.v (V.str r36)), (D.v (V.str r41))]) (.ref p46) := rep_tup_mk hW n50 e47 hp48 (repL_cons rep_v (repL_cons rep_v (repL_cons rep_v repL_nil)))
    replace h9 := rep_ext e47 h9
    replace h20 := rep_ext e47 h20
    replace mu4 := mo_ext e47 mu4
    replace hW := hW.ret0 e47
    refine ⟨_, rfl, ?_⟩
    apply mo_putU (k := (Sum.inr ("parts" : Str) : Key)) mu4 (nin_of (by decide +kernel)) (by show 1 < 16777216; decide)
    intro vs52 hl53 hr54
    have mk55 := mo_setD (ks := [(Sum.inr ("stride" : Str) : Key)] ++ [(Sum.inr ("parts" : Str) : Key)]) mu4 (by rw [List.length_append, List.length_append, hl53]; rfl) (repL_app hr54 (repL_one h49))
    replace h9 := rep_put (o := .dK (List.zip ([(Sum.inr ("stride" : Str) : Key)] ++ [(Sum.inr ("parts" : Str) : Key)]) (vs52 ++ [(V.ref p46)]))) mu4.im h9
    replace h20 := rep_put (o := .dK (List.zip ([(Sum.inr ("stride" : Str) : Key)] ++ [(Sum.inr ("parts" : Str) : Key)]) (vs52 ++ [(V.ref p46)]))) mu4.im h20
    replace h49 := rep_put (o := .dK (List.zip ([(Sum.inr ("stride" : Str) : Key)] ++ [(Sum.inr ("parts" : Str) : Key)]) (vs52 ++ [(V.ref p46)]))) mu4.im h49
    replace hW := wd_put (o := .dK (List.zip ([(Sum.inr ("stride" : Str) : Key)] ++ [(Sum.inr ("parts" : Str) : Key)]) (vs52 ++ [(V.ref p46)]))) hW mu4
    replace mu4 := mk55
    generalize upd H51 L1 (.dK (List.zip ([(Sum.inr ("stride" : Str) : Key)] ++ [(Sum.inr ("parts" : Str) : Key)]) (vs52 ++ [(V.ref p46)]))) = H56 at *
    replace mu4 : MutO (L1 :: ms) [ap] H_0 H56 L1 (D.dct [(Sum.inr ("stride" : Str) : Key), (Sum.inr ("parts" : Str) : Key)] [(D.v (V.int ((r12 * r23), (r31, r36, r41)).1)), (D.tup [(D.v (V.str ((r12 * r23), (r31, r36, r41)).2.1)), (D.v (V.str ((r12 * r23), (r31, r36, r41)).2.2.1)), (D.v (V.str ((r12 * r23), (r31, r36, r41)).2.2.2))])]) := mu4
    clear mk55
    refine ⟨_, rfl, ?_⟩
    refine ⟨(by show 4 ≤ sizeLine; decide), ?_⟩
    intro p57 n61
    have e58 := Rx.Ext.new (H := H56) (o := (HO.lst [V.str ("home" : Str), V.str ("away" : Str), V.str ("even" : Str), V.str ("odd" : Str)])) n61
    have hp59 : upd H56 p57 (HO.lst [V.str ("home" : Str), V.str ("away" : Str), V.str ("even" : Str), V.str ("odd" : Str)]) p57 = some (HO.lst [V.str ("home" : Str), V.str ("away" : Str), V.str ("even" : Str), V.str ("odd" : Str)]) := upd_same
    generalize upd H56 p57 (HO.lst [V.str ("home" : Str), V.str ("away" : Str), V.str ("even" : Str), V.str ("odd" : Str)]) = H62 at e58 hp59 ⊢
    have h60 : rep (L1 :: ms) H62 (D.lst (([("home" : Str), ("away" : Str), ("even" : Str), ("odd" : Str)] : List Str).map (fun y_ : Str => (D.v (V.str y_))))) (.ref p57) := rep_lst_mk hW n61 e58 hp59 (repL_cons rep_v (repL_cons rep_v (repL_cons rep_v (repL_cons rep_v repL_nil))))
    replace h9 := rep_ext e58 h9
    replace h20 := rep_ext e58 h20
    replace h49 := rep_ext e58 h49
    replace mu4 := mo_ext e58 mu4
    replace hW := hW.ret0 e58
    refine ⟨(L1 :: ms), ap, _, ([("home" : Str), ("away" : Str), ("even" : Str), ("odd" : Str)] : List Str), _, rfl, hW.enterP, h60, hM, fun r63 u66 H67 hM e65 h64 => ?_⟩
    replace h9 := rep_ret hW e65 h9
    replace h20 := rep_ret hW e65 h20
    replace h49 := rep_ret hW e65 h49
    replace h60 := rep_ret hW e65 h60
    replace mu4 := mo_ret hW e65 mu4
    replace hW := hW.retP e65
    obtain rfl := of_v h64
    refine ⟨_, rfl, ?_⟩
    refine ⟨(L1 :: ms), ap, (2 : Int), _, rfl, hW.enterP, hM, fun r68 u71 H72 hM e70 h69 => ?_⟩
    replace h9 := rep_ret hW e70 h9
    replace h20 := rep_ret hW e70 h20
    replace h49 := rep_ret hW e70 h49
    replace h60 := rep_ret hW e70 h60
    replace mu4 := mo_ret hW e70 mu4
    replace hW := hW.retP e70
    obtain rfl := of_v h69
    refine ⟨rfl, ?_⟩
    refine ⟨(by show 2 ≤ sizeLine; decide), ?_⟩
    intro p73 n77
    have e74 := Rx.Ext.new (H := H72) (o := (HO.tup [V.str r63, V.bl (decide (V.int r68 = V.int (1 : Int)))])) n77
    have hp75 : upd H72 p73 (HO.tup [V.str r63, V.bl (decide (V.int r68 = V.int (1 : Int)))]) p73 = some (HO.tup [V.str r63, V.bl (decide (V.int r68 = V.int (1 : Int)))]) := upd_same
    generalize upd H72 p73 (HO.tup [V.str r63, V.bl (decide (V.int r68 = V.int (1 : Int)))]) = H78 at e74 hp75 ⊢
    have h76 : rep (L1 :: ms) H78 (D.tup [(D.v (V.str r63)), (D.v (V.bl (decide (V.int r68 = V.int (1 : Int)))))]) (.ref p73) := rep_tup_mk hW n77 e74 hp75 (repL_cons rep_v (repL_cons rep_v repL_nil))
    replace h9 := rep_ext e74 h9
    replace h20 := rep_ext e74 h20
    replace h49 := rep_ext e74 h49
    replace h60 := rep_ext e74 h60
    replace mu4 := mo_ext e74 mu4
    replace hW := hW.ret0 e74
    apply rep_gtup h76 rfl
    intro vs79 hv80
    obtain ⟨u81, us82, rfl, h83, hv84⟩ := repL_uncons hv80
    obtain rfl := of_v h83
    obtain ⟨u85, us86, rfl, h87, hv88⟩ := repL_uncons hv84
    obtain rfl := of_v h87
    obtain rfl := repL_empty hv88
    refine ⟨_, _, rfl, ?_⟩
    refine ⟨_, rfl, ?_⟩
    apply mo_putU (k := (Sum.inr ("stand" : Str) : Key)) mu4 (nin_of (by decide +kernel)) (by show 2 < 16777216; decide)
    intro vs89 hl90 hr91
    have mk92 := mo_setD (ks := [(Sum.inr ("stride" : Str) : Key), (Sum.inr ("parts" : Str) : Key)] ++ [(Sum.inr ("stand" : Str) : Key)]) mu4 (by rw [List.length_append, List.length_append, hl90]; rfl) (repL_app hr91 (repL_one (rep_v (x := V.str r63))))
    replace h9 := rep_put (o := .dK (List.zip ([(Sum.inr ("stride" : Str) : Key), (Sum.inr ("parts" : Str) : Key)] ++ [(Sum.inr ("stand" : Str) : Key)]) (vs89 ++ [V.str r63]))) mu4.im h9
    replace h20 := rep_put (o := .dK (List.zip ([(Sum.inr ("stride" : Str) : Key), (Sum.inr ("parts" : Str) : Key)] ++ [(Sum.inr ("stand" : Str) : Key)]) (vs89 ++ [V.str r63]))) mu4.im h20
    replace h49 := rep_put (o := .dK (List.zip ([(Sum.inr ("stride" : Str) : Key), (Sum.inr ("parts" : Str) : Key)] ++ [(Sum.inr ("stand" : Str) : Key)]) (vs89 ++ [V.str r63]))) mu4.im h49
    replace h60 := rep_put (o := .dK (List.zip ([(Sum.inr ("stride" : Str) : Key), (Sum.inr ("parts" : Str) : Key)] ++ [(Sum.inr ("stand" : Str) : Key)]) (vs89 ++ [V.str r63]))) mu4.im h60
    replace h76 := rep_put (o := .dK (List.zip ([(Sum.inr ("stride" : Str) : Key), (Sum.inr ("parts" : Str) : Key)] ++ [(Sum.inr ("stand" : Str) : Key)]) (vs89 ++ [V.str r63]))) mu4.im h76
    replace hW := wd_put (o := .dK (List.zip ([(Sum.inr ("stride" : Str) : Key), (Sum.inr ("parts" : Str) : Key)] ++ [(Sum.inr ("stand" : Str) : Key)]) (vs89 ++ [V.str r63]))) hW mu4
    replace mu4 := mk92
    generalize upd H78 L1 (.dK (List.zip ([(Sum.inr ("stride" : Str) : Key), (Sum.inr ("parts" : Str) : Key)] ++ [(Sum.inr ("stand" : Str) : Key)]) (vs89 ++ [V.str r63]))) = H93 at *
    replace mu4 : MutO (L1 :: ms) [ap] H_0 H93 L1 (D.dct [(Sum.inr ("stride" : Str) : Key), (Sum.inr ("parts" : Str) : Key), (Sum.inr ("stand" : Str) : Key)] [(D.v (V.int (((r12 * r23), (r31, r36, r41)).1, ((r12 * r23), (r31, r36, r41)).2, r63).1)), (D.tup [(D.v (V.str (((r12 * r23), (r31, r36, r41)).1, ((r12 * r23), (r31, r36, r41)).2, r63).2.1.1)), (D.v (V.str (((r12 * r23), (r31, r36, r41)).1, ((r12 * r23), (r31, r36, r41)).2, r63).2.1.2.1)), (D.v (V.str (((r12 * r23), (r31, r36, r41)).1, ((r12 * r23), (r31, r36, r41)).2, r63).2.1.2.2))]), (D.v (V.str (((r12 * r23), (r31, r36, r41)).1, ((r12 * r23), (r31, r36, r41)).2, r63).2.2))]) := mu4
    clear mk92
    refine ⟨_, _, rfl, ?_⟩
    refine ⟨_, rfl, ?_⟩
    apply mo_putU (k := (Sum.inr ("flips" : Str) : Key)) mu4 (nin_of (by decide +kernel)) (by show 3 < 16777216; decide)
    intro vs94 hl95 hr96
    have mk97 := mo_setD (ks := [(Sum.inr ("stride" : Str) : Key), (Sum.inr ("parts" : Str) : Key), (Sum.inr ("stand" : Str) : Key)] ++ [(Sum.inr ("flips" : Str) : Key)]) mu4 (by rw [List.length_append, List.length_append, hl95]; rfl) (repL_app hr96 (repL_one (rep_v (x := V.bl (decide (V.int r68 = V.int (1 : Int)))))))
    replace h9 := rep_put (o := .dK (List.zip ([(Sum.inr ("stride" : Str) : Key), (Sum.inr ("parts" : Str) : Key), (Sum.inr ("stand" : Str) : Key)] ++ [(Sum.inr ("flips" : Str) : Key)]) (vs94 ++ [V.bl (decide (V.int r68 = V.int (1 : Int)))]))) mu4.im h9
    replace h20 := rep_put (o := .dK (List.zip ([(Sum.inr ("stride" : Str) : Key), (Sum.inr ("parts" : Str) : Key), (Sum.inr ("stand" : Str) : Key)] ++ [(Sum.inr ("flips" : Str) : Key)]) (vs94 ++ [V.bl (decide (V.int r68 = V.int (1 : Int)))]))) mu4.im h20
    replace h49 := rep_put (o := .dK (List.zip ([(Sum.inr ("stride" : Str) : Key), (Sum.inr ("parts" : Str) : Key), (Sum.inr ("stand" : Str) : Key)] ++ [(Sum.inr ("flips" : Str) : Key)]) (vs94 ++ [V.bl (decide (V.int r68 = V.int (1 : Int)))]))) mu4.im h49
    replace h60 := rep_put (o := .dK (List.zip ([(Sum.inr ("stride" : Str) : Key), (Sum.inr ("parts" : Str) : Key), (Sum.inr ("stand" : Str) : Key)] ++ [(Sum.inr ("flips" : Str) : Key)]) (vs94 ++ [V.bl (decide (V.int r68 = V.int (1 : Int)))]))) mu4.im h60
    replace h76 := rep_put (o := .dK (List.zip ([(Sum.inr ("stride" : Str) : Key), (Sum.inr ("parts" : Str) : Key), (Sum.inr ("stand" : Str) : Key)] ++ [(Sum.inr ("flips" : Str) : Key)]) (vs94 ++ [V.bl (decide (V.int r68 = V.int (1 : Int)))]))) mu4.im h76
    replace hW := wd_put (o := .dK (List.zip ([(Sum.inr ("stride" : Str) : Key), (Sum.inr ("parts" : Str) : Key), (Sum.inr ("stand" : Str) : Key)] ++ [(Sum.inr ("flips" : Str) : Key)]) (vs94 ++ [V.bl (decide (V.int r68 = V.int (1 : Int)))]))) hW mu4
    replace mu4 := mk97
    generalize upd H93 L1 (.dK (List.zip ([(Sum.inr ("stride" : Str) : Key), (Sum.inr ("parts" : Str) : Key), (Sum.inr ("stand" : Str) : Key)] ++ [(Sum.inr ("flips" : Str) : Key)]) (vs94 ++ [V.bl (decide (V.int r68 = V.int (1 : Int)))]))) = H98 at *
    replace mu4 : MutO (L1 :: ms) [ap] H_0 H98 L1 (D.dct [(Sum.inr ("stride" : Str) : Key), (Sum.inr ("parts" : Str) : Key), (Sum.inr ("stand" : Str) : Key), (Sum.inr ("flips" : Str) : Key)] [(D.v (V.int ((((r12 * r23), (r31, r36, r41)).1, ((r12 * r23), (r31, r36, r41)).2, r63).1, (((r12 * r23), (r31, r36, r41)).1, ((r12 * r23), (r31, r36, r41)).2, r63).2.1, (((r12 * r23), (r31, r36, r41)).1, ((r12 * r23), (r31, r36, r41)).2, r63).2.2, (decide (V.int r68 = V.int (1 : Int)))).1)), (D.tup [(D.v (V.str ((((r12 * r23), (r31, r36, r41)).1, ((r12 * r23), (r31, r36, r41)).2, r63).1, (((r12 * r23), (r31, r36, r41)).1, ((r12 * r23), (r31, r36, r41)).2, r63).2.1, (((r12 * r23), (r31, r36, r41)).1, ((r12 * r23), (r31, r36, r41)).2, r63).2.2, (decide (V.int r68 = V.int (1 : Int)))).2.1.1)), (D.v (V.str ((((r12 * r23), (r31, r36, r41)).1, ((r12 * r23), (r31, r36, r41)).2, r63).1, (((r12 * r23), (r31, r36, r41)).1, ((r12 * r23), (r31, r36, r41)).2, r63).2.1, (((r12 * r23), (r31, r36, r41)).1, ((r12 * r23), (r31, r36, r41)).2, r63).2.2, (decide (V.int r68 = V.int (1 : Int)))).2.1.2.1)), (D.v (V.str ((((r12 * r23), (r31, r36, r41)).1, ((r12 * r23), (r31, r36, r41)).2, r63).1, (((r12 * r23), (r31, r36, r41)).1, ((r12 * r23), (r31, r36, r41)).2, r63).2.1, (((r12 * r23), (r31, r36, r41)).1, ((r12 * r23), (r31, r36, r41)).2, r63).2.2, (decide (V.int r68 = V.int (1 : Int)))).2.1.2.2))]), (D.v (V.str ((((r12 * r23), (r31, r36, r41)).1, ((r12 * r23), (r31, r36, r41)).2, r63).1, (((r12 * r23), (r31, r36, r41)).1, ((r12 * r23), (r31, r36, r41)).2, r63).2.1, (((r12 * r23), (r31, r36, r41)).1, ((r12 * r23), (r31, r36, r41)).2, r63).2.2, (decide (V.int r68 = V.int (1 : Int)))).2.2.1)), (D.v (V.bl ((((r12 * r23), (r31, r36, r41)).1, ((r12 * r23), (r31, r36, r41)).2, r63).1, (((r12 * r23), (r31, r36, r41)).1, ((r12 * r23), (r31, r36, r41)).2, r63).2.1, (((r12 * r23), (r31, r36, r41)).1, ((r12 * r23), (r31, r36, r41)).2, r63).2.2, (decide (V.int r68 = V.int (1 : Int)))).2.2.2))]) := mu4
    clear mk97
    refine ⟨rfl, ?_⟩
    have h99 := mo_rep_dr dr_here nm3 mu4
    replace hW := wd_dr dr_here mu4.hp hW
    replace h9 := rep_dr dr_here h9
    replace h20 := rep_dr dr_here h20
    replace h49 := rep_dr dr_here h49
    replace h60 := rep_dr dr_here h60
    replace h76 := rep_dr dr_here h76
    clear mu4
    refine ⟨_, rfl, ?_⟩
    exact hQ ((((r12 * r23), (r31, r36, r41)).1, ((r12 * r23), (r31, r36, r41)).2, r63).1, (((r12 * r23), (r31, r36, r41)).1, ((r12 * r23), (r31, r36, r41)).2, r63).2.1, (((r12 * r23), (r31, r36, r41)).1, ((r12 * r23), (r31, r36, r41)).2, r63).2.2, (decide (V.int r68 = V.int (1 : Int)))) _ _ hM hW.out h99
def M_least (x_model_here : (Int × (Str × Str × Str) × Str × Bool)) (KM : Int → Prop) : Prop :=
  (x_model_here.2.1.1.length ≤ sizeLine ∧ (x_model_here.2.1.2.2.length ≤ sizeLine ∧ (KM (if ((x_model_here.2.1.1.length : Int) + (x_model_here.2.1.2.2.length : Int)) > (1 : Int) then ((x_model_here.2.1.1.length : Int) + (x_model_here.2.1.2.2.length : Int)) else (1 : Int)))))
def sp_least (A : Ad) : Sp := fun vs H Q _ => ∃ (ms : List Addr) (v_model_here : V) (x_model_here : (Int × (Str × Str × Str) × Str × Bool)) (KM : Int → Prop), vs = [v_model_here] ∧ Wd ms [] [] H H ∧ rep ms H (D.dct [(Sum.inr ("stride" : Str) : Key), (Sum.inr ("parts" : Str) : Key), (Sum.inr ("stand" : Str) : Key), (Sum.inr ("flips" : Str) : Key)] [(D.v (V.int x_model_here.1)), (D.tup [(D.v (V.str x_model_here.2.1.1)), (D.v (V.str x_model_here.2.1.2.1)), (D.v (V.str x_model_here.2.1.2.2))]), (D.v (V.str x_model_here.2.2.1)), (D.v (V.bl x_model_here.2.2.2))]) v_model_here ∧ M_least x_model_here KM ∧ ∀ (r : Int) (u : V) (H1 : Hp), KM r → Ret [] H H1 → rep ms H1 (D.v (V.int r)) u → Q u H1
set_option maxHeartbeats 16000000 in
theorem ok_least {P : Program} {w : World} {K : PySem.W.Frag} {mg : Str → Option Value} {base : Heap} {A : Ad} (T : Txt w K mg A) : FnOk P w K mg base CX0 1 A.a_least A.d_least ["_law_model_here"] (sp_least A) := by
  refine T.F_least.ok sc_least (fun vs H Q E h => ?_) (fun cdv A_ outer s_ H_0 vs Q E hr h => ?_)
  · obtain ⟨ms, v_model_here, x_model_here, KM, rfl, _⟩ := h
    rfl
  · obtain ⟨ms, v_model_here, x_model_here, KM, rfl, hW, h_model_here, hM, hQ⟩ := h
    unfold M_least at hM
    refine ⟨_, (pss_one (ps_ret (pe_callB (call_max2 rfl) (by rfl) T.z_max (by decide +kernel) (pa_cons pe_int (pa_cons (pe_op op_add (pe_callB call_len_str (by rfl) T.z_len PySem.boot_len (pa_cons (pe_ix (ix_tupK (K := K) rfl) (pe_dget (hu_of hr) (pv 0) pe_str (fun _ _ => rfl)) pe_int (fun _ _ => rfl)) pa_nil)) (pe_callB call_len_str (by rfl) T.z_len PySem.boot_len (pa_cons (pe_ix (ix_tupK (K := K) rfl) (pe_dget (hu_of hr) (pv 0) pe_str (fun _ _ => rfl)) pe_int (fun _ _ => rfl)) pa_nil))) pa_nil))))), ?_⟩
    refine ⟨_, rfl, ?_⟩
    apply rep_dget (k := (Sum.inr ("parts" : Str) : Key)) 1 h_model_here (by decide +kernel) rfl rfl
    intro u2 h1
    apply rep_ixT 0 h1 rfl rfl
    intro u4 h3
    obtain rfl := of_v h3
    obtain ⟨g5, hM⟩ := hM
    refine ⟨_, rfl, g5, ?_⟩
    refine ⟨_, rfl, ?_⟩
    apply rep_dget (k := (Sum.inr ("parts" : Str) : Key)) 1 h_model_here (by decide +kernel) rfl rfl
    intro u7 h6
    apply rep_ixT 2 h6 rfl rfl
    intro u9 h8
    obtain rfl := of_v h8
    obtain ⟨g10, hM⟩ := hM
    refine ⟨_, rfl, g10, ?_⟩
    refine ⟨_, _, rfl, rfl, ?_⟩
    refine ⟨_, _, rfl, ?_⟩
    exact hQ (if ((x_model_here.2.1.1.length : Int) + (x_model_here.2.1.2.2.length : Int)) > (1 : Int) then ((x_model_here.2.1.1.length : Int) + (x_model_here.2.1.2.2.length : Int)) else (1 : Int)) _ _ hM hW.out rep_v
def M_is_integer (x_value : Int) (KM : Bool → Prop) : Prop :=
  (KM (!false))
def sp_is_integer (A : Ad) : Sp := fun vs H Q _ => ∃ (ms : List Addr) (x_value : Int) (KM : Bool → Prop), vs = [V.int x_value] ∧ Wd ms [] [] H H ∧ M_is_integer x_value KM ∧ ∀ (r : Bool) (u : V) (H1 : Hp), KM r → Ret [] H H1 → rep ms H1 (D.v (V.bl r)) u → Q u H1
set_option maxHeartbeats 16000000 in
theorem ok_is_integer {P : Program} {w : World} {K : PySem.W.Frag} {mg : Str → Option Value} {base : Heap} {A : Ad} (T : Txt w K mg A) : FnOk P w K mg base CX0 1 A.a_is_integer A.d_is_integer ["value"] (sp_is_integer A) := by
  refine T.F_is_integer.ok sc_is_integer (fun vs H Q E h => ?_) (fun cdv A_ outer s_ H_0 vs Q E hr h => ?_)
  · obtain ⟨ms, x_value, KM, rfl, _⟩ := h
    rfl
  · obtain ⟨ms, x_value, KM, rfl, hW, hM, hQ⟩ := h
    unfold M_is_integer at hM
    refine ⟨_, (pss_one (ps_ret (pe_and (pe_callB (call_isiK (K := K) rfl) (by rfl) T.z_isinstance (by decide +kernel) (pa_cons (pv 0) (pa_cons (pe_bltn (v := .ty "int") (by rfl) T.z_int (by decide +kernel) rfl) pa_nil))) (pe_one (pe_not (pe_callB (call_isiK (K := K) rfl) (by rfl) T.z_isinstance (by decide +kernel) (pa_cons (pv 0) (pa_cons (pe_bltn (v := .ty "bool") (by rfl) T.z_bool (by decide +kernel) rfl) pa_nil)))))))), ?_⟩
    refine ⟨_, rfl, ?_⟩
    refine ⟨_, _, _, _, true, rfl, .ty _, .base (.int _), kit_ty (by decide +kernel), ?_⟩
    refine ⟨_, rfl, ?_⟩
    refine iteT ?_
    refine ⟨_, rfl, ?_⟩
    refine ⟨_, _, _, _, false, rfl, .ty _, .base (.int _), kit_ty (by decide +kernel), ?_⟩
    refine ⟨_, rfl, ?_⟩
    exact hQ (!false) _ _ hM hW.out rep_v
def M_Rule_init (x_step : Int) (x_word : (Str × Str × Str)) (x_stander : Str) (x_turned : Bool) (KM : (Int × (Str × Str × Str) × Str × Bool) → Prop) : Prop :=
  (M_is_integer x_step fun r1 => (if (!r1) = true then False else (if (decide (V.int x_step = V.int (0 : Int))) = true then False else (if (decide ((7 : Int) < (if x_step < 0 then -x_step else x_step))) = true then False else (∃ c6 : Str, wd_CONTRARY_STANDERS.lookup x_stander = some c6 ∧ (KM (x_step, x_word, x_stander, x_turned)))))))
def sp_Rule_init (A : Ad) : Sp := fun vs H Q _ => ∃ (ms : List Addr) (p_ dx_ : Addr) (v_word : V) (x_step : Int) (x_word : (Str × Str × Str)) (x_stander : Str) (x_turned : Bool) (KM : (Int × (Str × Str × Str) × Str × Bool) → Prop), vs = [.ref p_, V.int x_step, v_word, V.str x_stander, V.bl x_turned] ∧ Wd ms [] [] H H ∧ p_ ∈ ms ∧ H p_ = some (.ins A.c_Rule dx_ []) ∧ rep ms H (eWord A x_word) v_word ∧ M_Rule_init x_step x_word x_stander x_turned KM ∧ ∀ (r : (Int × (Str × Str × Str) × Str × Bool)) (us : List V) (H1 : Hp), KM r → KpI p_ H H1 → H1 p_ = some (.ins A.c_Rule dx_ (List.zip ns_Rule us)) → ns_Rule.length = us.length → repL ms H1 [(D.v (V.int r.1)), (eWord A r.2.1), (D.v (V.str r.2.2.1)), (D.v (V.bl r.2.2.2))] us → Q .non H1
set_option maxHeartbeats 16000000 in
theorem ok_Rule_init {P : Program} {w : World} {K : PySem.W.Frag} {mg : Str → Option Value} {base : Heap} {A : Ad} (T : Txt w K mg A) : FnOk P w K mg base CX0 2 A.a_Rule_init A.d_Rule_init ["self", "step", "word", "stander", "turned"] (sp_Rule_init A) := by
  refine T.F_Rule_init.ok sc_Rule_init (fun vs H Q E h => ?_) (fun cdv A_ outer s_ H_0 vs Q E hr h => ?_)
  · obtain ⟨ms, p_, dx_, v_word, x_step, x_word, x_stander, x_turned, KM, rfl, _⟩ := h
    rfl
  · obtain ⟨ms, p_, dx_, v_word, x_step, x_word, x_stander, x_turned, KM, rfl, hW, pm_, hp, h_word, hM, hQ⟩ := h
    unfold M_Rule_init at hM
    have hK := ki_refl (p := p_) (H := H_0)
    replace hp : H_0 p_ = some (.ins A.c_Rule dx_ (List.zip ([] : List Str) ([] : List V))) := hp
    refine ⟨_, (pss_cons (ps_if (PW.pt (pw_or (pt_not (pt_val (pe_call (ok_is_integer T) (hr.mono (by decide)) (by rfl) T.g_is_integer T.F_is_integer.kp T.b_is_integer .nil pass0 (pa_cons (pv 1) pa_nil)))) (pw_or (pt_cmpR op_eq (pv 1) pe_int (nomark _)) (pw_or1 (pt_cmpR op_gt (pe_callB call_abs (by rfl) T.z_abs (by decide +kernel) (pa_cons (pv 1) pa_nil)) (C8.pe_gc (by rfl) T.c_MOST_STEP) (nomark _)))))) (pss_one ps_never) pss_nil) (pss_cons (ps_if (PW.pt (pw_or (pt_not (pt_val (pe_callB (call_isiK (K := K) rfl) (by rfl) T.z_isinstance (by decide +kernel) (pa_cons (pv 3) (pa_cons (pe_bltn (v := .ty "str") (by rfl) T.z_str (by decide +kernel) rfl) pa_nil))))) (pw_or1 (pt_cmpR (op_ninW (K := K) (w := w) rfl rfl T.lo_CONTRARY_STANDERS) (pv 3) (pe_glob (v := .ref A.wd_CONTRARY_STANDERS) (by rfl) T.g_CONTRARY_STANDERS rfl) (by rfl))))) (pss_one ps_never) pss_nil) (pss_cons (ps_if (pt_not (pt_val (pe_callB (call_isiK (K := K) rfl) (by rfl) T.z_isinstance (by decide +kernel) (pa_cons (pv 4) (pa_cons (pe_bltn (v := .ty "bool") (by rfl) T.z_bool (by decide +kernel) rfl) pa_nil))))) (pss_one ps_never) pss_nil) (pss_cons (ps_fld (pv 0) (pv 1) rfl) (pss_cons (ps_fld (pv 0) (pv 2) rfl) (pss_cons (ps_fld (pv 0) (pv 3) rfl) (pss_one (ps_fld (pv 0) (pv 4) rfl)))))))), ?_⟩
    refine ⟨_, rfl, ?_⟩
    refine ⟨ms, x_step, _, rfl, hW.enter0, hM, fun r1 u4 H5 hM e3 h2 => ?_⟩
    replace h_word := rep_ext e3 h_word
    replace hp := Rx.Ext.keep e3 hp
    replace hW := hW.ret0 e3
    obtain rfl := of_v h2
    refine ⟨_, rfl, ?_⟩
    refine ite3 hM (fun hM => ?_) (fun hM => ?_)
    · skip
      refine iteT ?_
      exact hM
    · skip
      refine ⟨_, rfl, ?_⟩
      refine ⟨rfl, ?_⟩
      refine ⟨_, rfl, ?_⟩
      refine ite3 hM (fun hM => ?_) (fun hM => ?_)
      · skip
        refine iteT ?_
        exact hM
      · skip
        refine ⟨_, rfl, ?_⟩
        refine ⟨_, rfl, ?_⟩
        refine ⟨_, _, rfl, rfl, ?_⟩
        refine ⟨_, rfl, ?_⟩
        refine ite3 hM (fun hM => ?_) (fun hM => ?_)
        · skip
          exact hM
        · skip
          refine ⟨_, rfl, ?_⟩
          refine ⟨_, _, _, _, true, rfl, .ty _, .base (.str _), kit_ty (by decide +kernel), ?_⟩
          refine ⟨_, rfl, ?_⟩
          refine iteF ?_
          refine ⟨_, rfl, ?_⟩
          obtain ⟨c6, h7, hM⟩ := hM
          apply rep_inW T.kd_CONTRARY_STANDERS h7
          refine ⟨_, rfl, ?_⟩
          refine iteF ?_
          refine ⟨_, rfl, ?_⟩
          refine ⟨_, _, _, _, true, rfl, .ty _, .base (.bl _), kit_ty (by decide +kernel), ?_⟩
          refine ⟨_, rfl, ?_⟩
          refine iteF ?_
          refine ⟨_, rfl, ?_⟩
          refine ⟨_, rfl, p_, A.c_Rule, dx_, _, rfl, hp, T.cl_Rule, T.na_Rule__step, (by first | decide | simp), ?_⟩
          have z8 : putF ("_step" : Str) (V.int x_step) (List.zip ([] : List Str) ([] : List V)) = List.zip [("_step" : Str)] [V.int x_step] := putF_zip (ns := ([] : List Str)) (us := ([] : List V)) rfl (nin_of (by decide +kernel))
          replace h_word := rep_put (o := .ins A.c_Rule dx_ (putF ("_step" : Str) (V.int x_step) (List.zip ([] : List Str) ([] : List V)))) pm_ h_word
          replace hK := ki_put (o := .ins A.c_Rule dx_ (putF ("_step" : Str) (V.int x_step) (List.zip ([] : List Str) ([] : List V)))) hK hW
          replace hW := wd_at (p := p_) (o := .ins A.c_Rule dx_ (putF ("_step" : Str) (V.int x_step) (List.zip ([] : List Str) ([] : List V)))) hW
          replace hp : upd H5 p_ (.ins A.c_Rule dx_ (putF ("_step" : Str) (V.int x_step) (List.zip ([] : List Str) ([] : List V)))) p_ = some (.ins A.c_Rule dx_ (putF ("_step" : Str) (V.int x_step) (List.zip ([] : List Str) ([] : List V)))) := upd_same
          generalize upd H5 p_ (.ins A.c_Rule dx_ (putF ("_step" : Str) (V.int x_step) (List.zip ([] : List Str) ([] : List V)))) = H9 at *
          rw [z8] at hp
          refine ⟨_, rfl, ?_⟩
          refine ⟨_, rfl, p_, A.c_Rule, dx_, _, rfl, hp, T.cl_Rule, T.na_Rule__word, (by first | decide | simp), ?_⟩
          have z10 : putF ("_word" : Str) (v_word) (List.zip [("_step" : Str)] [V.int x_step]) = List.zip [("_step" : Str), ("_word" : Str)] [V.int x_step, v_word] := putF_zip (ns := [("_step" : Str)]) (us := [V.int x_step]) rfl (nin_of (by decide +kernel))
          replace h_word := rep_put (o := .ins A.c_Rule dx_ (putF ("_word" : Str) (v_word) (List.zip [("_step" : Str)] [V.int x_step]))) pm_ h_word
          replace hK := ki_put (o := .ins A.c_Rule dx_ (putF ("_word" : Str) (v_word) (List.zip [("_step" : Str)] [V.int x_step]))) hK hW
          replace hW := wd_at (p := p_) (o := .ins A.c_Rule dx_ (putF ("_word" : Str) (v_word) (List.zip [("_step" : Str)] [V.int x_step]))) hW
          replace hp : upd H9 p_ (.ins A.c_Rule dx_ (putF ("_word" : Str) (v_word) (List.zip [("_step" : Str)] [V.int x_step]))) p_ = some (.ins A.c_Rule dx_ (putF ("_word" : Str) (v_word) (List.zip [("_step" : Str)] [V.int x_step]))) := upd_same
          generalize upd H9 p_ (.ins A.c_Rule dx_ (putF ("_word" : Str) (v_word) (List.zip [("_step" : Str)] [V.int x_step]))) = H11 at *
          rw [z10] at hp
          refine ⟨_, rfl, ?_⟩
          refine ⟨_, rfl, p_, A.c_Rule, dx_, _, rfl, hp, T.cl_Rule, T.na_Rule__stander, (by first | decide | simp), ?_⟩
          have z12 : putF ("_stander" : Str) (V.str x_stander) (List.zip [("_step" : Str), ("_word" : Str)] [V.int x_step, v_word]) = List.zip [("_step" : Str), ("_word" : Str), ("_stander" : Str)] [V.int x_step, v_word, V.str x_stander] := putF_zip (ns := [("_step" : Str), ("_word" : Str)]) (us := [V.int x_step, v_word]) rfl (nin_of (by decide +kernel))
          replace h_word := rep_put (o := .ins A.c_Rule dx_ (putF ("_stander" : Str) (V.str x_stander) (List.zip [("_step" : Str), ("_word" : Str)] [V.int x_step, v_word]))) pm_ h_word
          replace hK := ki_put (o := .ins A.c_Rule dx_ (putF ("_stander" : Str) (V.str x_stander) (List.zip [("_step" : Str), ("_word" : Str)] [V.int x_step, v_word]))) hK hW
          replace hW := wd_at (p := p_) (o := .ins A.c_Rule dx_ (putF ("_stander" : Str) (V.str x_stander) (List.zip [("_step" : Str), ("_word" : Str)] [V.int x_step, v_word]))) hW
          replace hp : upd H11 p_ (.ins A.c_Rule dx_ (putF ("_stander" : Str) (V.str x_stander) (List.zip [("_step" : Str), ("_word" : Str)] [V.int x_step, v_word]))) p_ = some (.ins A.c_Rule dx_ (putF ("_stander" : Str) (V.str x_stander) (List.zip [("_step" : Str), ("_word" : Str)] [V.int x_step, v_word]))) := upd_same
          generalize upd H11 p_ (.ins A.c_Rule dx_ (putF ("_stander" : Str) (V.str x_stander) (List.zip [("_step" : Str), ("_word" : Str)] [V.int x_step, v_word]))) = H13 at *
          rw [z12] at hp
          refine ⟨_, rfl, ?_⟩
          refine ⟨_, rfl, p_, A.c_Rule, dx_, _, rfl, hp, T.cl_Rule, T.na_Rule__turned, (by first | decide | simp), ?_⟩
          have z14 : putF ("_turned" : Str) (V.bl x_turned) (List.zip [("_step" : Str), ("_word" : Str), ("_stander" : Str)] [V.int x_step, v_word, V.str x_stander]) = List.zip [("_step" : Str), ("_word" : Str), ("_stander" : Str), ("_turned" : Str)] [V.int x_step, v_word, V.str x_stander, V.bl x_turned] := putF_zip (ns := [("_step" : Str), ("_word" : Str), ("_stander" : Str)]) (us := [V.int x_step, v_word, V.str x_stander]) rfl (nin_of (by decide +kernel))
          replace h_word := rep_put (o := .ins A.c_Rule dx_ (putF ("_turned" : Str) (V.bl x_turned) (List.zip [("_step" : Str), ("_word" : Str), ("_stander" : Str)] [V.int x_step, v_word, V.str x_stander]))) pm_ h_word
          replace hK := ki_put (o := .ins A.c_Rule dx_ (putF ("_turned" : Str) (V.bl x_turned) (List.zip [("_step" : Str), ("_word" : Str), ("_stander" : Str)] [V.int x_step, v_word, V.str x_stander]))) hK hW
          replace hW := wd_at (p := p_) (o := .ins A.c_Rule dx_ (putF ("_turned" : Str) (V.bl x_turned) (List.zip [("_step" : Str), ("_word" : Str), ("_stander" : Str)] [V.int x_step, v_word, V.str x_stander]))) hW
          replace hp : upd H13 p_ (.ins A.c_Rule dx_ (putF ("_turned" : Str) (V.bl x_turned) (List.zip [("_step" : Str), ("_word" : Str), ("_stander" : Str)] [V.int x_step, v_word, V.str x_stander]))) p_ = some (.ins A.c_Rule dx_ (putF ("_turned" : Str) (V.bl x_turned) (List.zip [("_step" : Str), ("_word" : Str), ("_stander" : Str)] [V.int x_step, v_word, V.str x_stander]))) := upd_same
          generalize upd H13 p_ (.ins A.c_Rule dx_ (putF ("_turned" : Str) (V.bl x_turned) (List.zip [("_step" : Str), ("_word" : Str), ("_stander" : Str)] [V.int x_step, v_word, V.str x_stander]))) = H15 at *
          rw [z14] at hp
          exact hQ (x_step, x_word, x_stander, x_turned) [V.int x_step, v_word, V.str x_stander, V.bl x_turned] _ hM (ki_wd hK hW) hp rfl (repL_cons rep_v (repL_cons h_word (repL_cons rep_v (repL_cons rep_v repL_nil))))
theorem make_Rule_init {ms ps : List Addr} {cs : List (Addr × List V)} {H0 H : Hp} {A : Ad} {v_word : V} {x_step : Int} {x_word : (Str × Str × Str)} {x_stander : Str} {x_turned : Bool} {KM : (Int × (Str × Str × Str) × Str × Bool) → Prop} {Q : Addr → Hp → Prop} {E : XK} (hW : Wd ms ps cs H0 H) (h_word : rep ms H (eWord A x_word) v_word) (hM : M_Rule_init x_step x_word x_stander x_turned KM)
    (k : ∀ (x : Addr) (H1 : Hp) (r : (Int × (Str × Str × Str) × Str × Bool)), KM r → Rx.Ext H H1 → rep ms H1 (eRule A r) (.ref x) → Q x H1) :
    ∀ x dx, H x = none → H dx = none → dx ≠ x → sp_Rule_init A (.ref x :: ([V.int x_step, v_word, V.str x_stander, V.bl x_turned] ++ [])) (upd (upd H dx (.own x)) x (.ins A.c_Rule dx [])) (fun v H2 => v = .non ∧ Q x H2) E := by
  intro x dx nx ndx ne
  exact ⟨x :: ms, x, dx, v_word, x_step, x_word, x_stander, x_turned, KM, rfl, wd_new hW nx ndx, List.mem_cons_self, upd_same, mem_new nx h_word ndx, hM, fun r us H1 hr hK hp hl hu => ⟨rfl, k x H1 r hr (ext_new hK nx ndx) (rep_insW hW nx hp hl hu)⟩⟩
def M_rule (x_model_here : (Int × (Str × Str × Str) × Str × Bool)) (KM : (Int × (Str × Str × Str) × Str × Bool) → Prop) : Prop :=
  (M_Word_init x_model_here.2.1.1 x_model_here.2.1.2.1 x_model_here.2.1.2.2 ∧ (M_Rule_init x_model_here.1 (x_model_here.2.1.1, x_model_here.2.1.2.1, x_model_here.2.1.2.2) x_model_here.2.2.1 x_model_here.2.2.2 fun r30 => (KM r30)))
def sp_rule (A : Ad) : Sp := fun vs H Q _ => ∃ (ms : List Addr) (v_model_here : V) (x_model_here : (Int × (Str × Str × Str) × Str × Bool)) (KM : (Int × (Str × Str × Str) × Str × Bool) → Prop), vs = [v_model_here] ∧ Wd ms [] [] H H ∧ rep ms H (D.dct [(Sum.inr ("stride" : Str) : Key), (Sum.inr ("parts" : Str) : Key), (Sum.inr ("stand" : Str) : Key), (Sum.inr ("flips" : Str) : Key)] [(D.v (V.int x_model_here.1)), (D.tup [(D.v (V.str x_model_here.2.1.1)), (D.v (V.str x_model_here.2.1.2.1)), (D.v (V.str x_model_here.2.1.2.2))]), (D.v (V.str x_model_here.2.2.1)), (D.v (V.bl x_model_here.2.2.2))]) v_model_here ∧ M_rule x_model_here KM ∧ ∀ (r : (Int × (Str × Str × Str) × Str × Bool)) (u : V) (H1 : Hp), KM r → Ret [] H H1 → rep ms H1 (eRule A r) u → Q u H1
set_option maxHeartbeats 16000000 in
theorem ok_rule {P : Program} {w : World} {K : PySem.W.Frag} {mg : Str → Option Value} {base : Heap} {A : Ad} (T : Txt w K mg A) : FnOk P w K mg base CX0 5 A.a_rule A.d_rule ["_law_model_here"] (sp_rule A) := by
  refine T.F_rule.ok sc_rule (fun vs H Q E h => ?_) (fun cdv A_ outer s_ H_0 vs Q E hr h => ?_)
  · obtain ⟨ms, v_model_here, x_model_here, KM, rfl, _⟩ := h
    rfl
  · obtain ⟨ms, v_model_here, x_model_here, KM, rfl, hW, h_model_here, hM, hQ⟩ := h
    unfold M_rule at hM
    refine ⟨_, (pss_cons (ps_asg (pe_dget (hu_of hr) (pv 0) pe_str (fun _ _ => rfl)) (pg_tup rfl (pgs_cons (pg_name (i := 1) sc_rule.nd rfl (by first | exact Or.inl rfl | exact Or.inr rfl)) (pgs_cons (pg_name (i := 2) sc_rule.nd rfl (by first | exact Or.inl rfl | exact Or.inr rfl)) (pgs_cons (pg_name (i := 3) sc_rule.nd rfl (by first | exact Or.inl rfl | exact Or.inr rfl)) pgs_nil))))) (pss_one (ps_ret (pe_make T.mk_Rule (ok_Rule_init T) (hr.mono (by decide)) (by rfl) T.g_Rule T.b_Rule_init .nil pass0 (pa_cons (pe_dget (hu_of hr) (pv 0) pe_str (fun _ _ => rfl)) (pa_cons (pe_make T.mk_Word (ok_Word_init T) (hr.mono (by decide)) (by rfl) T.g_Word T.b_Word_init .nil pass0 (pa_cons (pv 1) (pa_cons (pv 2) (pa_cons (pv 3) pa_nil)))) (pa_cons (pe_dget (hu_of hr) (pv 0) pe_str (fun _ _ => rfl)) (pa_cons (pe_dget (hu_of hr) (pv 0) pe_str (fun _ _ => rfl)) pa_nil)))))))), ?_⟩
    refine ⟨_, rfl, ?_⟩
    apply rep_dget (k := (Sum.inr ("parts" : Str) : Key)) 1 h_model_here (by decide +kernel) rfl rfl
    intro u2 h1
    apply rep_gtup h1 rfl
    intro vs3 hv4
    obtain ⟨u5, us6, rfl, h7, hv8⟩ := repL_uncons hv4
    obtain rfl := of_v h7
    obtain ⟨u9, us10, rfl, h11, hv12⟩ := repL_uncons hv8
    obtain rfl := of_v h11
    obtain ⟨u13, us14, rfl, h15, hv16⟩ := repL_uncons hv12
    obtain rfl := of_v h15
    obtain rfl := repL_empty hv16
    refine ⟨_, _, rfl, ?_⟩
    refine ⟨_, _, rfl, ?_⟩
    refine ⟨_, _, rfl, ?_⟩
    refine ⟨rfl, ?_⟩
    refine ⟨_, rfl, ?_⟩
    apply rep_dget (k := (Sum.inr ("stride" : Str) : Key)) 0 h_model_here (by decide +kernel) rfl rfl
    intro u18 h17
    obtain rfl := of_v h17
    refine ⟨_, rfl, ?_⟩
    refine ⟨_, rfl, ?_⟩
    refine ⟨_, rfl, ?_⟩
    conv => whnf
    apply make_Word hW hM
    intro p19 H22 hM e21 h20
    replace h_model_here := rep_ext e21 h_model_here
    replace h1 := rep_ext e21 h1
    replace hW := hW.ret0 e21
    refine ⟨_, rfl, ?_⟩
    apply rep_dget (k := (Sum.inr ("stand" : Str) : Key)) 2 h_model_here (by decide +kernel) rfl rfl
    intro u24 h23
    obtain rfl := of_v h23
    refine ⟨_, rfl, ?_⟩
    apply rep_dget (k := (Sum.inr ("flips" : Str) : Key)) 3 h_model_here (by decide +kernel) rfl rfl
    intro u26 h25
    obtain rfl := of_v h25
    conv => whnf
    apply make_Rule_init (ms := ms) hW h20 hM
    intro p27 H31 r30 hM e29 h28
    replace h_model_here := rep_ext e29 h_model_here
    replace h1 := rep_ext e29 h1
    replace h20 := rep_ext e29 h20
    replace hW := hW.ret0 e29
    exact hQ r30 _ _ hM hW.out h28
def M_spots (x_model_here : (Int × (Str × Str × Str) × Str × Bool)) (x_half : Int) (x_when : Int) (KM : (List Int) → Prop) : Prop :=
  (forC (fun (x11 : Int) (s13 : (List Int)) (k14 : ((List Int)) → Prop) => (CMulW x_model_here.1 x_when ∧ ((rangeI ((0 : Int) - x_half) (x_half + (1 : Int))).length < 100000 ∧ filC (fun (x37 : Int) (k30 : Option Int → Prop) => (0 < (((2 : Int) * x_half) + (1 : Int)) ∧ (if (decide (V.int (((x11 - (x_model_here.1 * x_when)) - x37) % (((2 : Int) * x_half) + (1 : Int))) = V.int (0 : Int))) = true then (k30 (some x37)) else (k30 none)))) (rangeI ((0 : Int) - x_half) (x_half + (1 : Int))) [] fun ys52 => (0 ≤ (0 : Int) ∧ ∃ g57 : Int.toNat (0 : Int) < ys52.length, ∀ x59, x59 = ys52[Int.toNat (0 : Int)]'g57 → (s13.length < 16777216 ∧ (k14 ((s13 ++ [x59])))))))) (rangeI (0 : Int) (((2 : Int) * x_half) + (1 : Int))) (([] : List Int)) fun s68 => (KM s68))
def sp_spots (A : Ad) : Sp := fun vs H Q _ => ∃ (ms : List Addr) (v_model_here : V) (x_model_here : (Int × (Str × Str × Str) × Str × Bool)) (x_half : Int) (x_when : Int) (KM : (List Int) → Prop), vs = [v_model_here, V.int x_half, V.int x_when] ∧ Wd ms [] [] H H ∧ rep ms H (D.dct [(Sum.inr ("stride" : Str) : Key), (Sum.inr ("parts" : Str) : Key), (Sum.inr ("stand" : Str) : Key), (Sum.inr ("flips" : Str) : Key)] [(D.v (V.int x_model_here.1)), (D.tup [(D.v (V.str x_model_here.2.1.1)), (D.v (V.str x_model_here.2.1.2.1)), (D.v (V.str x_model_here.2.1.2.2))]), (D.v (V.str x_model_here.2.2.1)), (D.v (V.bl x_model_here.2.2.2))]) v_model_here ∧ M_spots x_model_here x_half x_when KM ∧ ∀ (r : (List Int)) (u : V) (H1 : Hp), KM r → Ret [] H H1 → rep ms H1 (D.lst (r.map (fun y_ : Int => (D.v (V.int y_))))) u → Q u H1
set_option maxHeartbeats 16000000 in
theorem ok_spots {P : Program} {w : World} {K : PySem.W.Frag} {mg : Str → Option Value} {base : Heap} {A : Ad} (T : Txt w K mg A) : FnOk P w K mg base CX0 1 A.a_spots A.d_spots ["_law_model_here", "_law_half", "_law_when"] (sp_spots A) := by
  refine T.F_spots.ok sc_spots (fun vs H Q E h => ?_) (fun cdv A_ outer s_ H_0 vs Q E hr h => ?_)
  · obtain ⟨ms, v_model_here, x_model_here, x_half, x_when, KM, rfl, _⟩ := h
    rfl
  · obtain ⟨ms, v_model_here, x_model_here, x_half, x_when, KM, rfl, hW, h_model_here, hM, hQ⟩ := h
    unfold M_spots at hM
    refine ⟨_, (pss_cons (ps_asg (pe_tup (pa_cons (pe_lst pa_nil) (pa_cons (pe_op op_add (pe_op op_mul pe_int (pv 1)) pe_int) pa_nil))) (pg_tup rfl (pgs_cons (pg_name (i := 3) sc_spots.nd rfl (by first | exact Or.inl rfl | exact Or.inr rfl)) (pgs_cons (pg_name (i := 4) sc_spots.nd rfl (by first | exact Or.inl rfl | exact Or.inr rfl)) pgs_nil)))) (pss_cons (ps_for PassesOwn.never rfl (pi_rangeW1 (by rfl) T.z_range (pa_cons (pv 4) pa_nil)) (pg_name (i := 5) sc_spots.nd rfl (by first | exact Or.inl rfl | exact Or.inr rfl)) (pss_cons (ps_set (i := 6) sc_spots.nd rfl (by first | exact Or.inl rfl | exact Or.inr rfl) (pe_op op_sub (pv 5) (pe_op op_mulW (pe_dget (hu_of hr) (pv 0) pe_str (fun _ _ => rfl)) (pv 2)))) (pss_one (ps_expr (pe_bmK (K := K) rfl PySem.F.plainAttrs_list PySem.F.slot_list_append PySem.F.type_list_append mt_append (pv 3) (pa_cons (pe_ix (ix_listK (K := K) rfl) (pe_lc (own := [("_law_spot", 7)]) (g := gName 7) rfl sc_spots.nd (pi_rangeW2 (by rfl) T.z_range (pa_cons (pe_op op_sub pe_int (pv 1)) (pa_cons (pe_op op_add (pv 1) pe_int) pa_nil))) (blkOk_by (N := ["_law_model_here", "_law_half", "_law_when", "_law_found", "_law_ring", "_law_who", "_law_here", "_law_spot"]) (sc := defScope s_spots) (by decide +kernel)) (fun _ _ _ _ _ => pg_name (i := 7) sc_spots.nd rfl (by first | exact Or.inl rfl | exact Or.inr rfl)) (fun _ _ _ _ _ => (pts_one (pt_cmpR op_eq (pe_op op_mod (pe_op op_sub (pv 6) (pv 7)) (pv 4)) pe_int (nomark _)))) (fun _ _ _ _ _ => (pv 7))) pe_int (fun _ _ => rfl)) pa_nil)))))) (pss_one (ps_ret (pv 3))))), ?_⟩
    refine ⟨(by show 0 ≤ sizeLine; decide), ?_⟩
    intro L1 nl2
    have nm3 := nm_new hW nl2
    have mu4 := mo_newL (ds := ([] : List Int).map (fun y_ : Int => (D.v (V.int y_)))) (vs := []) hW nl2 repL_nil
    replace h_model_here := rep_cell (o := .lst []) nl2 h_model_here
    replace hW := wd_cell (o := .lst []) hW nl2
    generalize upd H_0 L1 (.lst []) = H5 at *
    replace mu4 : MutO (L1 :: ms) [] H_0 H5 L1 (D.lst (([] : List Int).map (fun y_ : Int => (D.v (V.int y_))))) := mu4
    refine ⟨_, rfl, ?_⟩
    refine ⟨_, _, rfl, rfl, .inl ⟨by decide, by decide⟩, ?_⟩
    refine ⟨_, _, rfl, rfl, ?_⟩
    refine ⟨(by show 2 ≤ sizeLine; decide), ?_⟩
    intro p6 n9
    have e7 := Rx.Ext.new (H := H5) (o := (HO.tup [(V.ref L1), V.int (((2 : Int) * x_half) + (1 : Int))])) n9
    have hp8 : upd H5 p6 (HO.tup [(V.ref L1), V.int (((2 : Int) * x_half) + (1 : Int))]) p6 = some (HO.tup [(V.ref L1), V.int (((2 : Int) * x_half) + (1 : Int))]) := upd_same
    generalize upd H5 p6 (HO.tup [(V.ref L1), V.int (((2 : Int) * x_half) + (1 : Int))]) = H10 at e7 hp8 ⊢
    replace h_model_here := rep_ext e7 h_model_here
    replace mu4 := mo_ext e7 mu4
    replace hW := hW.ret0 e7
    refine ⟨_, _, rfl, .inl (.inl hp8), rfl, ?_⟩
    refine ⟨_, _, rfl, ?_⟩
    refine ⟨_, _, rfl, ?_⟩
    refine ⟨rfl, ?_⟩
    refine ⟨_, rfl, ?_⟩
    refine ⟨_, rfl, ?_⟩
    refine for_rangeG (S := (List Int)) (lo := (0 : Int)) (hi := (((2 : Int) * x_half) + (1 : Int))) (N := Int.toNat (((2 : Int) * x_half) + (1 : Int))) (fun (s : (List Int)) σ_ h_ => ∃ (w_0 : Option V), ∃ (w_1 : Option V), σ_ = [some v_model_here, some (V.int x_half), some (V.int x_when), some (V.ref L1), some (V.int (((2 : Int) * x_half) + (1 : Int))), w_0, w_1, none] ∧ Wd (L1 :: ms) [] [] H_0 h_ ∧ Keep (L1 :: ms) H10 h_ ∧ MutO (L1 :: ms) [] H_0 h_ L1 (D.lst (s.map (fun y_ : Int => (D.v (V.int y_)))))) (([] : List Int)) (by simp) hM ⟨_, _, rfl, hW, Keep.refl, mu4⟩ ?_ ?_
    · skip
      clear mu4
      rintro x11 s13 k14 _ H22 ⟨w19, w20, rfl, hW, hk15, mu21⟩ hM Nx17 hN18
      replace h_model_here := rep_keep hk15 h_model_here
      refine ⟨_, rfl, ?_⟩
      refine ⟨_, rfl, ?_⟩
      apply rep_dget (k := (Sum.inr ("stride" : Str) : Key)) 0 h_model_here (by decide +kernel) rfl rfl
      intro u24 h23
      obtain rfl := of_v h23
      refine ⟨_, rfl, ?_⟩
      obtain ⟨g25, hM⟩ := hM
      refine ⟨_, _, rfl, rfl, g25, ?_⟩
      refine ⟨_, _, rfl, rfl, ?_⟩
      refine ⟨_, rfl, ?_⟩
      refine ⟨mo_tyL mu21, ?_⟩
      refine ⟨_, rfl, ?_⟩
      refine ⟨_, _, rfl, rfl, ?_⟩
      refine ⟨_, rfl, ?_⟩
      refine ⟨_, _, rfl, rfl, ?_⟩
      refine ⟨_, _, rfl, ?_⟩
      refine fun L26 nl27 => ?_
      have nm41 := nm_new hW nl27
      have kn42 := keep_none (w := hW) nl27 hk15
      have ne43 := mo_ne nl27 mu21
      refine lf_rangeG (L := L26) (fun n_ ys_ h_ => Wd (L26 :: (L1 :: ms)) [] [] H_0 h_ ∧ Keep (L26 :: (L1 :: ms)) H22 h_ ∧ MutO (L26 :: (L1 :: ms)) [] H_0 h_ L26 (D.lst (ys_.map (fun y_ : Int => (D.v (V.int y_))))) ∧ ys_.length ≤ n_ ∧ MutO (L26 :: (L1 :: ms)) [] H_0 h_ L1 (D.lst (s13.map (fun y_ : Int => (D.v (V.int y_)))))) (lo := ((0 : Int) - x_half)) (hi := (x_half + (1 : Int))) (N := Int.toNat ((x_half + (1 : Int)) - ((0 : Int) - x_half))) (by simp) hM ⟨wd_cell hW nl27, keep_cell nl27 Keep.refl, mo_newL (ds := []) hW nl27 repL_nil, Nat.le_refl _, mo_cell nl27 mu21⟩ ?_ ?_
      · skip
        clear mu21
        rintro x37  n28 ys29 k30 H44 hn ⟨hW, hk31, mu32, ln33, mu45⟩ hM Nx36 hN34 hNn35
        replace h_model_here := rep_keep hk31 (rep_new nl27 h_model_here)
        replace hk15 := Keep.trans (Keep.new hk15) hk31
        refine ⟨rfl, ?_⟩
        refine ⟨_, rfl, ?_⟩
        refine ⟨_, rfl, ?_⟩
        refine ⟨_, _, rfl, rfl, ?_⟩
        refine ⟨_, rfl, ?_⟩
        obtain ⟨g46, hM⟩ := hM
        refine ⟨_, _, rfl, rfl, g46, ?_⟩
        refine ⟨rfl, ?_⟩
        refine ⟨_, rfl, ?_⟩
        refine ite3 hM (fun hM => ?_) (fun hM => ?_)
        · skip
          refine ⟨_, rfl, ?_⟩
          refine mo_end mu32 hn (by rw [List.length_map]; exact ln33) fun vs47 hr48 => ?_
          have mk50 := mo_setL mu32 (repL_snoc (e := (fun y_ : Int => (D.v (V.int y_)))) (xs := ys29) (y := x37) hr48 rep_v)
          replace mu45 := mo_put (o := .lst (vs47 ++ [V.int x37])) mu32.im ne43 mu45
          replace h_model_here := rep_put (o := .lst (vs47 ++ [V.int x37])) mu32.im h_model_here
          replace hk15 := keep_put (o := .lst (vs47 ++ [V.int x37])) mu32.im hk15
          replace hk31 := keep_put (o := .lst (vs47 ++ [V.int x37])) mu32.im hk31
          replace hW := wd_put (o := .lst (vs47 ++ [V.int x37])) hW mu32
          replace mu32 := mk50
          generalize upd H44 L26 (.lst (vs47 ++ [V.int x37])) = H51 at *
          replace mu32 : MutO (L26 :: (L1 :: ms)) [] H_0 H51 L26 (D.lst ((ys29 ++ [x37]).map (fun y_ : Int => (D.v (V.int y_))))) := mu32
          clear mk50
          exact hN34 x37 _ hM ⟨hW, hk31, mu32, by rw [List.length_append]; exact Nat.add_le_add_right ln33 1, mu45⟩
        · skip
          exact hNn35 _ hM ⟨hW, hk31, mu32, Nat.le_succ_of_le ln33, mu45⟩
      · skip
        clear mu21
        rintro n28 ys52 H53 hM ⟨hW, hk31, mu32, ln33, mu54⟩
        replace h_model_here := rep_keep hk31 (rep_new nl27 h_model_here)
        replace hk15 := Keep.trans (Keep.new hk15) hk31
        clear hk31 ln33
        have h55 := mo_rep_dr dr_here nm41 mu32
        replace hW := wd_dr dr_here mu32.hp hW
        replace h_model_here := rep_dr dr_here h_model_here
        replace hk15 := keep_dr dr_here kn42 hk15
        replace mu54 := mo_dr dr_here ne43 mu54
        clear mu32
        obtain ⟨g56, g57, hM⟩ := hM
        apply rep_ixL (e := (fun y_ : Int => (D.v (V.int y_)))) (xs := ys52) h55 g56 g57
        intro u60 h58
        obtain ⟨x59, x59e⟩ : ∃ x_, x_ = ys52[Int.toNat (0 : Int)]'g57 := ⟨_, rfl⟩
        rw [← x59e] at h58
        replace hM := hM x59 x59e
        obtain rfl := of_v h58
        obtain ⟨g61, hM⟩ := hM
        apply mo_appU mu54 (by rw [List.length_map]; exact g61)
        intro vs62 hr64
        have mk66 := mo_setL mu54 (repL_snoc (e := (fun y_ : Int => (D.v (V.int y_)))) (xs := s13) (y := x59) hr64 rep_v)
        replace h_model_here := rep_put (o := .lst (vs62 ++ [V.int x59])) mu54.im h_model_here
        replace hk15 := keep_put (o := .lst (vs62 ++ [V.int x59])) mu54.im hk15
        replace h55 := rep_put (o := .lst (vs62 ++ [V.int x59])) mu54.im h55
        replace hW := wd_put (o := .lst (vs62 ++ [V.int x59])) hW mu54
        replace mu54 := mk66
        generalize upd H53 L1 (.lst (vs62 ++ [V.int x59])) = H67 at *
        replace mu54 : MutO (L1 :: ms) [] H_0 H67 L1 (D.lst ((s13 ++ [x59]).map (fun y_ : Int => (D.v (V.int y_))))) := mu54
        clear mk66
        exact hN18 ((s13 ++ [x59])) _ _ hM ⟨_, _, rfl, hW, hk15, mu54⟩
    · skip
      clear mu4
      rintro s68 _ H73 hM ⟨w70, w71, rfl, hW, hk69, mu72⟩
      replace h_model_here := rep_keep hk69 h_model_here
      have h74 := mo_rep_dr dr_here nm3 mu72
      replace hW := wd_dr dr_here mu72.hp hW
      replace h_model_here := rep_dr dr_here h_model_here
      clear mu72
      refine ⟨_, rfl, ?_⟩
      exact hQ s68 _ _ hM hW.out h74
def M_standing (x_model_here : (Int × (Str × Str × Str) × Str × Bool)) (x_is_odd : Bool) (KM : Str → Prop) : Prop :=
  (∃ y13, getM [(Sum.inr ("home" : Str) : Key), (Sum.inr ("away" : Str) : Key), (Sum.inr ("even" : Str) : Key), (Sum.inr ("odd" : Str) : Key)] ([(("hh" : Str), ("aa" : Str), ("ha" : Str), ("ah" : Str)).1, (("hh" : Str), ("aa" : Str), ("ha" : Str), ("ah" : Str)).2.1, (("hh" : Str), ("aa" : Str), ("ha" : Str), ("ah" : Str)).2.2.1, (("hh" : Str), ("aa" : Str), ("ha" : Str), ("ah" : Str)).2.2.2] : List Str) (Sum.inr x_model_here.2.2.1 : Key) = some y13 ∧ (y13.length ≤ sizeLine ∧ ∃ c16, atI y13.cps.toList (if x_is_odd then (1 : Int) else 0) = some c16 ∧ (KM (Str.mk #[c16]))))
def sp_standing (A : Ad) : Sp := fun vs H Q _ => ∃ (ms : List Addr) (v_model_here : V) (x_model_here : (Int × (Str × Str × Str) × Str × Bool)) (x_is_odd : Bool) (KM : Str → Prop), vs = [v_model_here, V.bl x_is_odd] ∧ Wd ms [] [] H H ∧ rep ms H (D.dct [(Sum.inr ("stride" : Str) : Key), (Sum.inr ("parts" : Str) : Key), (Sum.inr ("stand" : Str) : Key), (Sum.inr ("flips" : Str) : Key)] [(D.v (V.int x_model_here.1)), (D.tup [(D.v (V.str x_model_here.2.1.1)), (D.v (V.str x_model_here.2.1.2.1)), (D.v (V.str x_model_here.2.1.2.2))]), (D.v (V.str x_model_here.2.2.1)), (D.v (V.bl x_model_here.2.2.2))]) v_model_here ∧ M_standing x_model_here x_is_odd KM ∧ ∀ (r : Str) (u : V) (H1 : Hp), KM r → Ret [] H H1 → rep ms H1 (D.v (V.str r)) u → Q u H1
set_option maxHeartbeats 16000000 in
theorem ok_standing {P : Program} {w : World} {K : PySem.W.Frag} {mg : Str → Option Value} {base : Heap} {A : Ad} (T : Txt w K mg A) : FnOk P w K mg base CX0 1 A.a_standing A.d_standing ["_law_model_here", "_law_is_odd"] (sp_standing A) := by
  refine T.F_standing.ok sc_standing (fun vs H Q E h => ?_) (fun cdv A_ outer s_ H_0 vs Q E hr h => ?_)
  · obtain ⟨ms, v_model_here, x_model_here, x_is_odd, KM, rfl, _⟩ := h
    rfl
  · obtain ⟨ms, v_model_here, x_model_here, x_is_odd, KM, rfl, hW, h_model_here, hM, hQ⟩ := h
    unfold M_standing at hM
    refine ⟨_, (pss_one (ps_ret (pe_ix ix_str (pe_dget (hu_of hr) (pe_disp (pps_cons pe_str pe_str (pps_cons pe_str pe_str (pps_cons pe_str pe_str (pps_cons pe_str pe_str pps_nil)))) rfl rfl (by simp) (by decide)) (pe_dget (hu_of hr) (pv 0) pe_str (fun _ _ => rfl)) (fun _ _ => rfl)) (pe_callTy call_int1 (by rfl) T.z_int (by decide +kernel) (pa_cons (pv 1) pa_nil)) (fun _ _ => rfl)))), ?_⟩
    intro L1 nl2
    have nm3 := nm_new hW nl2
    have mu4 := mo_nilD hW nl2
    replace h_model_here := rep_cell (o := .dK []) nl2 h_model_here
    replace hW := wd_cell (o := .dK []) hW nl2
    generalize upd H_0 L1 (.dK []) = H5 at *
    replace mu4 : MutO (L1 :: ms) [] H_0 H5 L1 (D.dct [] []) := mu4
    refine ⟨mo_dK0 mu4, List.zip [(Sum.inr ("home" : Str) : Key), (Sum.inr ("away" : Str) : Key), (Sum.inr ("even" : Str) : Key), (Sum.inr ("odd" : Str) : Key)] [V.str ("hh" : Str), V.str ("aa" : Str), V.str ("ha" : Str), V.str ("ah" : Str)], rfl, (by show 4 ≤ 15; decide), ?_⟩
    rw [merge_zip (ks := [(Sum.inr ("home" : Str) : Key), (Sum.inr ("away" : Str) : Key), (Sum.inr ("even" : Str) : Key), (Sum.inr ("odd" : Str) : Key)]) (vs := [V.str ("hh" : Str), V.str ("aa" : Str), V.str ("ha" : Str), V.str ("ah" : Str)]) rfl (by decide +kernel)]
    have mk6 := mo_setD (ks := [(Sum.inr ("home" : Str) : Key), (Sum.inr ("away" : Str) : Key), (Sum.inr ("even" : Str) : Key), (Sum.inr ("odd" : Str) : Key)]) (vs := [V.str ("hh" : Str), V.str ("aa" : Str), V.str ("ha" : Str), V.str ("ah" : Str)]) mu4 rfl (repL_cons rep_v (repL_cons rep_v (repL_cons rep_v (repL_cons rep_v repL_nil))))
    replace h_model_here := rep_put (o := .dK (List.zip [(Sum.inr ("home" : Str) : Key), (Sum.inr ("away" : Str) : Key), (Sum.inr ("even" : Str) : Key), (Sum.inr ("odd" : Str) : Key)] [V.str ("hh" : Str), V.str ("aa" : Str), V.str ("ha" : Str), V.str ("ah" : Str)])) mu4.im h_model_here
    replace hW := wd_put (o := .dK (List.zip [(Sum.inr ("home" : Str) : Key), (Sum.inr ("away" : Str) : Key), (Sum.inr ("even" : Str) : Key), (Sum.inr ("odd" : Str) : Key)] [V.str ("hh" : Str), V.str ("aa" : Str), V.str ("ha" : Str), V.str ("ah" : Str)])) hW mu4
    replace mu4 := mk6
    generalize upd H5 L1 (.dK (List.zip [(Sum.inr ("home" : Str) : Key), (Sum.inr ("away" : Str) : Key), (Sum.inr ("even" : Str) : Key), (Sum.inr ("odd" : Str) : Key)] [V.str ("hh" : Str), V.str ("aa" : Str), V.str ("ha" : Str), V.str ("ah" : Str)])) = H7 at *
    replace mu4 : MutO (L1 :: ms) [] H_0 H7 L1 (D.dct [(Sum.inr ("home" : Str) : Key), (Sum.inr ("away" : Str) : Key), (Sum.inr ("even" : Str) : Key), (Sum.inr ("odd" : Str) : Key)] [(D.v (V.str (("hh" : Str), ("aa" : Str), ("ha" : Str), ("ah" : Str)).1)), (D.v (V.str (("hh" : Str), ("aa" : Str), ("ha" : Str), ("ah" : Str)).2.1)), (D.v (V.str (("hh" : Str), ("aa" : Str), ("ha" : Str), ("ah" : Str)).2.2.1)), (D.v (V.str (("hh" : Str), ("aa" : Str), ("ha" : Str), ("ah" : Str)).2.2.2))]) := mu4
    clear mk6
    have h8 := mo_rep_dr dr_here nm3 mu4
    replace hW := wd_dr dr_here mu4.hp hW
    replace h_model_here := rep_dr dr_here h_model_here
    clear mu4
    refine ⟨_, rfl, ?_⟩
    apply rep_dget (k := (Sum.inr ("stand" : Str) : Key)) 2 h_model_here (by decide +kernel) rfl rfl
    intro u10 h9
    obtain rfl := of_v h9
    obtain ⟨y13, hy14, hM⟩ := hM
    apply rep_dgetM (k := (Sum.inr x_model_here.2.2.1 : Key)) (e := (fun y_ : Str => (D.v (V.str y_)))) (xs := ([(("hh" : Str), ("aa" : Str), ("ha" : Str), ("ah" : Str)).1, (("hh" : Str), ("aa" : Str), ("ha" : Str), ("ah" : Str)).2.1, (("hh" : Str), ("aa" : Str), ("ha" : Str), ("ah" : Str)).2.2.1, (("hh" : Str), ("aa" : Str), ("ha" : Str), ("ah" : Str)).2.2.2] : List Str)) (y := y13) h8 (by decide +kernel) hy14
    intro u12 h11
    obtain rfl := of_v h11
    refine ⟨_, rfl, ?_⟩
    refine .inr ⟨_, rfl, ?_⟩
    obtain ⟨g15, hM⟩ := hM
    obtain ⟨c16, c16h, hM⟩ := hM
    refine ⟨_, _, _, rfl, rfl, g15, c16h, ?_⟩
    exact hQ (Str.mk #[c16]) _ _ hM hW.out rep_v
def M_turned (x_sign : Str) (KM : Str → Prop) : Prop :=
  (∃ KB1 : Str → Prop, (if (decide (V.str x_sign = V.str ("h" : Str))) = true then (KB1 ("a" : Str)) else (KB1 ("h" : Str))) ∧ ∀ r4 : Str, KB1 r4 → (KM r4))
def sp_turned (A : Ad) : Sp := fun vs H Q _ => ∃ (ms : List Addr) (x_sign : Str) (KM : Str → Prop), vs = [V.str x_sign] ∧ Wd ms [] [] H H ∧ M_turned x_sign KM ∧ ∀ (r : Str) (u : V) (H1 : Hp), KM r → Ret [] H H1 → rep ms H1 (D.v (V.str r)) u → Q u H1
set_option maxHeartbeats 16000000 in
theorem ok_turned {P : Program} {w : World} {K : PySem.W.Frag} {mg : Str → Option Value} {base : Heap} {A : Ad} (T : Txt w K mg A) : FnOk P w K mg base CX0 1 A.a_turned A.d_turned ["_law_sign"] (sp_turned A) := by
  refine T.F_turned.ok sc_turned (fun vs H Q E h => ?_) (fun cdv A_ outer s_ H_0 vs Q E hr h => ?_)
  · obtain ⟨ms, x_sign, KM, rfl, _⟩ := h
    rfl
  · obtain ⟨ms, x_sign, KM, rfl, hW, hM, hQ⟩ := h
    unfold M_turned at hM
    refine ⟨_, (pss_one (ps_ret (pe_up (pe_ifExp (pt_cmpR op_eq (pv 0) pe_str (nomark _)) pe_str pe_str)))), ?_⟩
    obtain ⟨KB1, hM, hKKB1⟩ := hM
    refine ⟨fun v H1 => ∃ r : Str, KB1 r ∧ Wd ms [] [] H_0 H1 ∧ Keep ms H_0 H1 ∧ rep ms H1 (D.v (V.str r)) v, ?_, ?_⟩
    · skip
      have hj3 := Keep.refl (ms := ms) (H := H_0)
      refine ⟨_, rfl, ?_⟩
      refine ⟨rfl, ?_⟩
      refine ⟨_, rfl, ?_⟩
      refine ite3 hM (fun hM => ?_) (fun hM => ?_)
      · skip
        exact ⟨("a" : Str), hM, hW, hj3, rep_v⟩
      · skip
        exact ⟨("h" : Str), hM, hW, hj3, rep_v⟩
    · skip
      rintro u6 Hj2 ⟨r4, hr, hW, hj3, h5⟩
      replace hM := hKKB1 r4 hr
      obtain rfl := of_v h5
      exact hQ r4 _ _ hM hW.out rep_v
def M_line (x_model_here : (Int × (Str × Str × Str) × Str × Bool)) (x_half : Int) (KM : Str → Prop) : Prop :=
  (∃ fu33, whileC (fun (s34 : Str) (k35 k36 : Str → Prop) => (s34.length ≤ sizeLine ∧ (if (decide ((s34.length : Int) < x_half)) = true then ((s34.length + x_model_here.2.1.2.1.length ≤ sizeLine) ∧ (k35 ((s34 ++ x_model_here.2.1.2.1)))) else (k36 (s34))))) fu33 (("" : Str)) fun s45 => (x_model_here.2.1.1.length ≤ sizeLine ∧ (x_model_here.2.1.2.2.length ≤ sizeLine ∧ (s45.length ≤ sizeLine ∧ ((x_model_here.2.1.1.length + (cutS s45 none (some ((x_half - (x_model_here.2.1.1.length : Int)) - (x_model_here.2.1.2.2.length : Int)))).length ≤ sizeLine) ∧ (((x_model_here.2.1.1 ++ (cutS s45 none (some ((x_half - (x_model_here.2.1.1.length : Int)) - (x_model_here.2.1.2.2.length : Int))))).length + x_model_here.2.1.2.2.length ≤ sizeLine) ∧ (KM ((x_model_here.2.1.1 ++ (cutS s45 none (some ((x_half - (x_model_here.2.1.1.length : Int)) - (x_model_here.2.1.2.2.length : Int))))) ++ x_model_here.2.1.2.2))))))))
def sp_line (A : Ad) : Sp := fun vs H Q _ => ∃ (ms : List Addr) (v_model_here : V) (x_model_here : (Int × (Str × Str × Str) × Str × Bool)) (x_half : Int) (KM : Str → Prop), vs = [v_model_here, V.int x_half] ∧ Wd ms [] [] H H ∧ rep ms H (D.dct [(Sum.inr ("stride" : Str) : Key), (Sum.inr ("parts" : Str) : Key), (Sum.inr ("stand" : Str) : Key), (Sum.inr ("flips" : Str) : Key)] [(D.v (V.int x_model_here.1)), (D.tup [(D.v (V.str x_model_here.2.1.1)), (D.v (V.str x_model_here.2.1.2.1)), (D.v (V.str x_model_here.2.1.2.2))]), (D.v (V.str x_model_here.2.2.1)), (D.v (V.bl x_model_here.2.2.2))]) v_model_here ∧ M_line x_model_here x_half KM ∧ ∀ (r : Str) (u : V) (H1 : Hp), KM r → Ret [] H H1 → rep ms H1 (D.v (V.str r)) u → Q u H1
set_option maxHeartbeats 16000000 in
theorem ok_line {P : Program} {w : World} {K : PySem.W.Frag} {mg : Str → Option Value} {base : Heap} {A : Ad} (T : Txt w K mg A) : FnOk P w K mg base CX0 1 A.a_line A.d_line ["_law_model_here", "_law_half"] (sp_line A) := by
  refine T.F_line.ok sc_line (fun vs H Q E h => ?_) (fun cdv A_ outer s_ H_0 vs Q E hr h => ?_)
  · obtain ⟨ms, v_model_here, x_model_here, x_half, KM, rfl, _⟩ := h
    rfl
  · obtain ⟨ms, v_model_here, x_model_here, x_half, KM, rfl, hW, h_model_here, hM, hQ⟩ := h
    unfold M_line at hM
    refine ⟨_, (pss_cons (ps_asg (pe_tup (pa_cons (pe_dget (hu_of hr) (pv 0) pe_str (fun _ _ => rfl)) (pa_cons pe_str pa_nil))) (pg_tup rfl (pgs_cons (pg_tup rfl (pgs_cons (pg_name (i := 2) sc_line.nd rfl (by first | exact Or.inl rfl | exact Or.inr rfl)) (pgs_cons (pg_name (i := 3) sc_line.nd rfl (by first | exact Or.inl rfl | exact Or.inr rfl)) (pgs_cons (pg_name (i := 4) sc_line.nd rfl (by first | exact Or.inl rfl | exact Or.inr rfl)) pgs_nil)))) (pgs_cons (pg_name (i := 5) sc_line.nd rfl (by first | exact Or.inl rfl | exact Or.inr rfl)) pgs_nil)))) (pss_cons (ps_while PassesOwn.never (pt_up (pt_cmpR op_lt (pe_callB call_len_str (by rfl) T.z_len PySem.boot_len (pa_cons (pv 5) pa_nil)) (pv 1) (nomark _))) (pss_one (ps_set (i := 5) sc_line.nd rfl (by first | exact Or.inl rfl | exact Or.inr rfl) (pe_op op_add_str (pv 5) (pv 3))))) (pss_one (ps_ret (pe_op op_add_str (pe_op op_add_str (pv 2) (pe_slice sl_str (pv 5) po_none (po_some (pe_op op_sub (pe_op op_sub (pv 1) (pe_callB call_len_str (by rfl) T.z_len PySem.boot_len (pa_cons (pv 2) pa_nil))) (pe_callB call_len_str (by rfl) T.z_len PySem.boot_len (pa_cons (pv 4) pa_nil)))))) (pv 4)))))), ?_⟩
    refine ⟨_, rfl, ?_⟩
    apply rep_dget (k := (Sum.inr ("parts" : Str) : Key)) 1 h_model_here (by decide +kernel) rfl rfl
    intro u2 h1
    refine ⟨(by show 2 ≤ sizeLine; decide), ?_⟩
    intro p3 n7
    have e4 := Rx.Ext.new (H := H_0) (o := (HO.tup [u2, V.str ("" : Str)])) n7
    have hp5 : upd H_0 p3 (HO.tup [u2, V.str ("" : Str)]) p3 = some (HO.tup [u2, V.str ("" : Str)]) := upd_same
    generalize upd H_0 p3 (HO.tup [u2, V.str ("" : Str)]) = H8 at e4 hp5 ⊢
    have h6 : rep ms H8 (D.tup [(D.tup [(D.v (V.str x_model_here.2.1.1)), (D.v (V.str x_model_here.2.1.2.1)), (D.v (V.str x_model_here.2.1.2.2))]), (D.v (V.str ("" : Str)))]) (.ref p3) := rep_tup_mk hW n7 e4 hp5 (repL_cons h1 (repL_cons rep_v repL_nil))
    replace h_model_here := rep_ext e4 h_model_here
    replace h1 := rep_ext e4 h1
    replace hW := hW.ret0 e4
    apply rep_gtup h6 rfl
    intro vs9 hv10
    obtain ⟨u11, us12, rfl, h13, hv14⟩ := repL_uncons hv10
    obtain ⟨u15, us16, rfl, h17, hv18⟩ := repL_uncons hv14
    obtain rfl := of_v h17
    obtain rfl := repL_empty hv18
    refine ⟨_, _, rfl, ?_⟩
    apply rep_gtup h13 rfl
    intro vs19 hv20
    obtain ⟨u21, us22, rfl, h23, hv24⟩ := repL_uncons hv20
    obtain rfl := of_v h23
    obtain ⟨u25, us26, rfl, h27, hv28⟩ := repL_uncons hv24
    obtain rfl := of_v h27
    obtain ⟨u29, us30, rfl, h31, hv32⟩ := repL_uncons hv28
    obtain rfl := of_v h31
    obtain rfl := repL_empty hv32
    refine ⟨_, _, rfl, ?_⟩
    refine ⟨_, _, rfl, ?_⟩
    refine ⟨_, _, rfl, ?_⟩
    refine ⟨rfl, ?_⟩
    refine ⟨_, _, rfl, ?_⟩
    refine ⟨rfl, ?_⟩
    obtain ⟨fu33, hM⟩ := hM
    refine while_G (S := Str) (fun (s : Str) σ_ h_ => σ_ = [some v_model_here, some (V.int x_half), some (V.str x_model_here.2.1.1), some (V.str x_model_here.2.1.2.1), some (V.str x_model_here.2.1.2.2), some (V.str s)] ∧ Wd ms [] [] H_0 h_ ∧ Keep ms H8 h_) (("" : Str)) hM ⟨rfl, hW, Keep.refl⟩ ?_ ?_ ?_
    · skip
      rintro s34 k35 k36 _ H42 ⟨rfl, hW, hk37⟩ hM Nx38 Ex39 hN40 hE41
      replace h_model_here := rep_keep hk37 h_model_here
      replace h1 := rep_keep hk37 h1
      replace h6 := rep_keep hk37 h6
      replace h13 := rep_keep hk37 h13
      refine ⟨_, ?_, fun _ _ h_ => h_⟩
      refine ⟨_, rfl, ?_⟩
      obtain ⟨g43, hM⟩ := hM
      refine ⟨_, rfl, g43, ?_⟩
      refine ⟨_, rfl, ?_⟩
      refine ⟨_, _, rfl, rfl, ?_⟩
      refine ⟨_, rfl, ?_⟩
      refine ite3 hM (fun hM => ?_) (fun hM => ?_)
      · skip
        refine ⟨_, rfl, ?_⟩
        refine ⟨_, rfl, ?_⟩
        obtain ⟨g44, hM⟩ := hM
        refine ⟨_, _, rfl, rfl, g44, ?_⟩
        exact hN40 ((s34 ++ x_model_here.2.1.2.1)) _ _ hM ⟨rfl, hW, hk37⟩
      · skip
        exact hE41 (s34) _ _ hM ⟨rfl, hW, hk37⟩
    · skip
      rintro s45 _ H47 hM ⟨rfl, hW, hk46⟩
      replace h_model_here := rep_keep hk46 h_model_here
      replace h1 := rep_keep hk46 h1
      replace h6 := rep_keep hk46 h6
      replace h13 := rep_keep hk46 h13
      refine ⟨_, rfl, ?_⟩
      refine ⟨_, rfl, ?_⟩
      refine ⟨_, rfl, ?_⟩
      refine ⟨_, rfl, ?_⟩
      obtain ⟨g48, hM⟩ := hM
      refine ⟨_, rfl, g48, ?_⟩
      refine ⟨_, _, rfl, rfl, ?_⟩
      refine ⟨_, rfl, ?_⟩
      obtain ⟨g49, hM⟩ := hM
      refine ⟨_, rfl, g49, ?_⟩
      refine ⟨_, _, rfl, rfl, ?_⟩
      refine ⟨_, rfl, ?_⟩
      obtain ⟨g50, hM⟩ := hM
      refine ⟨_, rfl, g50, ?_⟩
      obtain ⟨g51, hM⟩ := hM
      refine ⟨_, _, rfl, rfl, g51, ?_⟩
      refine ⟨_, rfl, ?_⟩
      obtain ⟨g52, hM⟩ := hM
      refine ⟨_, _, rfl, rfl, g52, ?_⟩
      exact hQ ((x_model_here.2.1.1 ++ (cutS s45 none (some ((x_half - (x_model_here.2.1.1.length : Int)) - (x_model_here.2.1.2.2.length : Int))))) ++ x_model_here.2.1.2.2) _ _ hM hW.out rep_v
    · skip
      exact fun _ _ _ _ m_ ⟨Q_, h_, m1_⟩ => ⟨Q_, h_, fun b_ H_ q_ => m_ b_ H_ (m1_ b_ H_ q_)⟩
def M_marks (x_model_here : (Int × (Str × Str × Str) × Str × Bool)) (x_half : Int) (x_is_odd : Bool) (KM : (List (Key × Str)) → Prop) : Prop :=
  (M_standing x_model_here x_is_odd fun r6 => (M_turned r6 fun r11 => (M_line x_model_here x_half fun r18 => (forC (fun (x23 : Int) (s25 : (List (Key × Str))) (k26 : ((List (Key × Str))) → Prop) => (r18.length ≤ sizeLine ∧ ∃ c36, atI r18.cps.toList (x23 - (1 : Int)) = some c36 ∧ (if x_model_here.2.2.2 = true then (if x_is_odd = true then (M_turned (Str.mk #[c36]) fun r39 => (M_turned r39 fun r44 => (s25.length < 16777216 ∧ ((putD s25 (Sum.inl x23 : Key) r39).length < 16777216 ∧ (k26 ((putD (putD s25 (Sum.inl x23 : Key) r39) (Sum.inl ((0 : Int) - x23) : Key) r44))))))) else (M_turned (Str.mk #[c36]) fun r77 => (s25.length < 16777216 ∧ ((putD s25 (Sum.inl x23 : Key) (Str.mk #[c36])).length < 16777216 ∧ (k26 ((putD (putD s25 (Sum.inl x23 : Key) (Str.mk #[c36])) (Sum.inl ((0 : Int) - x23) : Key) r77))))))) else (M_turned (Str.mk #[c36]) fun r110 => (s25.length < 16777216 ∧ ((putD s25 (Sum.inl x23 : Key) (Str.mk #[c36])).length < 16777216 ∧ (k26 ((putD (putD s25 (Sum.inl x23 : Key) (Str.mk #[c36])) (Sum.inl ((0 : Int) - x23) : Key) r110))))))))) (rangeI (1 : Int) (x_half + (1 : Int))) (([((Sum.inl (0 : Int) : Key), r11)] : (List (Key × Str)))) fun s143 => (KM s143)))))
def sp_marks (A : Ad) : Sp := fun vs H Q _ => ∃ (ms : List Addr) (v_model_here : V) (x_model_here : (Int × (Str × Str × Str) × Str × Bool)) (x_half : Int) (x_is_odd : Bool) (KM : (List (Key × Str)) → Prop), vs = [v_model_here, V.int x_half, V.bl x_is_odd] ∧ Wd ms [] [] H H ∧ rep ms H (D.dct [(Sum.inr ("stride" : Str) : Key), (Sum.inr ("parts" : Str) : Key), (Sum.inr ("stand" : Str) : Key), (Sum.inr ("flips" : Str) : Key)] [(D.v (V.int x_model_here.1)), (D.tup [(D.v (V.str x_model_here.2.1.1)), (D.v (V.str x_model_here.2.1.2.1)), (D.v (V.str x_model_here.2.1.2.2))]), (D.v (V.str x_model_here.2.2.1)), (D.v (V.bl x_model_here.2.2.2))]) v_model_here ∧ M_marks x_model_here x_half x_is_odd KM ∧ ∀ (r : (List (Key × Str))) (u : V) (H1 : Hp), KM r → Ret [] H H1 → rep ms H1 (D.dct (r.map (·.1)) (r.map fun y_ : Key × Str => (D.v (V.str y_.2)))) u → Q u H1
set_option maxHeartbeats 16000000 in
theorem ok_marks {P : Program} {w : World} {K : PySem.W.Frag} {mg : Str → Option Value} {base : Heap} {A : Ad} (T : Txt w K mg A) : FnOk P w K mg base CX0 2 A.a_marks A.d_marks ["_law_model_here", "_law_half", "_law_is_odd"] (sp_marks A) := by
  refine T.F_marks.ok sc_marks (fun vs H Q E h => ?_) (fun cdv A_ outer s_ H_0 vs Q E hr h => ?_)
  · obtain ⟨ms, v_model_here, x_model_here, x_half, x_is_odd, KM, rfl, _⟩ := h
    rfl
  · obtain ⟨ms, v_model_here, x_model_here, x_half, x_is_odd, KM, rfl, hW, h_model_here, hM, hQ⟩ := h
    unfold M_marks at hM
    refine ⟨_, (pss_cons (ps_par (i := 3) (j := 4) (by rfl) sc_marks.nd rfl rfl (by decide) rfl rfl (pa_cons (pe_disp (pps_cons pe_int (pe_call (ok_turned T) (hr.mono (by decide)) (by rfl) T.g_turned T.F_turned.kp T.b_turned .nil pass0 (pa_cons (pe_call (ok_standing T) (hr.mono (by decide)) (by rfl) T.g_standing T.F_standing.kp T.b_standing .nil pass0 (pa_cons (pv 0) (pa_cons (pv 2) pa_nil))) pa_nil)) pps_nil) rfl rfl (by simp) (by decide)) (pa_cons (pe_call (ok_line T) (hr.mono (by decide)) (by rfl) T.g_line T.F_line.kp T.b_line .nil pass0 (pa_cons (pv 0) (pa_cons (pv 1) pa_nil))) pa_nil)) (by rfl)) (pss_cons (ps_for PassesOwn.never rfl (pi_rangeW2 (by rfl) T.z_range (pa_cons pe_int (pa_cons (pe_op op_add (pv 1) pe_int) pa_nil))) (pg_name (i := 5) sc_marks.nd rfl (by first | exact Or.inl rfl | exact Or.inr rfl)) (pss_cons (ps_set (i := 6) sc_marks.nd rfl (by first | exact Or.inl rfl | exact Or.inr rfl) (pe_ix ix_str (pv 4) (pe_op op_sub (pv 5) pe_int) (fun _ _ => rfl))) (pss_cons (ps_if (PW.pt (pw_and (pt_val (pe_dget (hu_of hr) (pv 0) pe_str (fun _ _ => rfl))) (pw_and1 (pt_val (pv 2))))) (pss_one (ps_set (i := 6) sc_marks.nd rfl (by first | exact Or.inl rfl | exact Or.inr rfl) (pe_call (ok_turned T) (hr.mono (by decide)) (by rfl) T.g_turned T.F_turned.kp T.b_turned .nil pass0 (pa_cons (pv 6) pa_nil)))) pss_nil) (pss_one (ps_asg (pe_tup (pa_cons (pv 6) (pa_cons (pe_call (ok_turned T) (hr.mono (by decide)) (by rfl) T.g_turned T.F_turned.kp T.b_turned .nil pass0 (pa_cons (pv 6) pa_nil)) pa_nil))) (pg_tup rfl (pgs_cons (pg_sub (pv 3) (pv 5) (set_dict (hu_of hr))) (pgs_cons (pg_sub (pv 3) (pe_op op_sub pe_int (pv 5)) (set_dict (hu_of hr))) pgs_nil)))))))) (pss_one (ps_ret (pv 3))))), ?_⟩
    intro L1 nl2
    have nm3 := nm_new hW nl2
    have mu4 := mo_nilD hW nl2
    replace h_model_here := rep_cell (o := .dK []) nl2 h_model_here
    replace hW := wd_cell (o := .dK []) hW nl2
    generalize upd H_0 L1 (.dK []) = H5 at *
    replace mu4 : MutO (L1 :: ms) [] H_0 H5 L1 (D.dct [] []) := mu4
    refine ⟨_, rfl, ?_⟩
    refine ⟨_, rfl, ?_⟩
    refine ⟨(L1 :: ms), _, x_model_here, x_is_odd, _, rfl, hW.enter0, h_model_here, hM, fun r6 u9 H10 hM e8 h7 => ?_⟩
    replace h_model_here := rep_ext e8 h_model_here
    replace mu4 := mo_ext e8 mu4
    replace hW := hW.ret0 e8
    obtain rfl := of_v h7
    refine ⟨(L1 :: ms), r6, _, rfl, hW.enter0, hM, fun r11 u14 H15 hM e13 h12 => ?_⟩
    replace h_model_here := rep_ext e13 h_model_here
    replace mu4 := mo_ext e13 mu4
    replace hW := hW.ret0 e13
    obtain rfl := of_v h12
    refine ⟨mo_dK0 mu4, List.zip [(Sum.inl (0 : Int) : Key)] [V.str r11], rfl, (by show 1 ≤ 15; decide), ?_⟩
    rw [merge_zip (ks := [(Sum.inl (0 : Int) : Key)]) (vs := [V.str r11]) rfl (by decide +kernel)]
    have mk16 := mo_setD (ks := [(Sum.inl (0 : Int) : Key)]) (vs := [V.str r11]) mu4 rfl (repL_cons rep_v repL_nil)
    replace h_model_here := rep_put (o := .dK (List.zip [(Sum.inl (0 : Int) : Key)] [V.str r11])) mu4.im h_model_here
    replace hW := wd_put (o := .dK (List.zip [(Sum.inl (0 : Int) : Key)] [V.str r11])) hW mu4
    replace mu4 := mk16
    generalize upd H15 L1 (.dK (List.zip [(Sum.inl (0 : Int) : Key)] [V.str r11])) = H17 at *
    replace mu4 : MutO (L1 :: ms) [] H_0 H17 L1 (D.dct (([((Sum.inl (0 : Int) : Key), r11)] : (List (Key × Str))).map (·.1)) (([((Sum.inl (0 : Int) : Key), r11)] : (List (Key × Str))).map fun y_ : Key × Str => (D.v (V.str y_.2)))) := mu4
    clear mk16
    refine ⟨_, rfl, ?_⟩
    refine ⟨_, rfl, ?_⟩
    refine ⟨(L1 :: ms), _, x_model_here, x_half, _, rfl, hW.enter0, h_model_here, hM, fun r18 u21 H22 hM e20 h19 => ?_⟩
    replace h_model_here := rep_ext e20 h_model_here
    replace mu4 := mo_ext e20 mu4
    replace hW := hW.ret0 e20
    obtain rfl := of_v h19
    refine ⟨_, _, rfl, ?_⟩
    refine ⟨_, rfl, ?_⟩
    refine ⟨_, _, rfl, rfl, ?_⟩
    refine ⟨_, _, rfl, ?_⟩
    refine for_rangeG (S := (List (Key × Str))) (lo := (1 : Int)) (hi := (x_half + (1 : Int))) (N := Int.toNat ((x_half + (1 : Int)) - (1 : Int))) (fun (s : (List (Key × Str))) σ_ h_ => ∃ (w_0 : Option V), ∃ (w_1 : Option V), σ_ = [some v_model_here, some (V.int x_half), some (V.bl x_is_odd), some (V.ref L1), some (V.str r18), w_0, w_1] ∧ Wd (L1 :: ms) [] [] H_0 h_ ∧ Keep (L1 :: ms) H22 h_ ∧ MutO (L1 :: ms) [] H_0 h_ L1 (D.dct (s.map (·.1)) (s.map fun y_ : Key × Str => (D.v (V.str y_.2))))) (([((Sum.inl (0 : Int) : Key), r11)] : (List (Key × Str)))) (by simp) hM ⟨_, _, rfl, hW, Keep.refl, mu4⟩ ?_ ?_
    · skip
      clear mu4
      rintro x23 s25 k26 _ H34 ⟨w31, w32, rfl, hW, hk27, mu33⟩ hM Nx29 hN30
      replace h_model_here := rep_keep hk27 h_model_here
      refine ⟨_, rfl, ?_⟩
      refine ⟨_, rfl, ?_⟩
      refine ⟨_, _, rfl, rfl, ?_⟩
      obtain ⟨g35, hM⟩ := hM
      obtain ⟨c36, c36h, hM⟩ := hM
      refine ⟨_, _, _, rfl, rfl, g35, c36h, ?_⟩
      refine ⟨_, rfl, ?_⟩
      apply rep_dget (k := (Sum.inr ("flips" : Str) : Key)) 3 h_model_here (by decide +kernel) rfl rfl
      intro u38 h37
      obtain rfl := of_v h37
      refine ⟨_, rfl, ?_⟩
      refine ite3 hM (fun hM => ?_) (fun hM => ?_)
      · skip
        refine ⟨_, rfl, ?_⟩
        refine ⟨_, rfl, ?_⟩
        refine ite3 hM (fun hM => ?_) (fun hM => ?_)
        · skip
          refine ⟨_, rfl, ?_⟩
          refine ⟨(L1 :: ms), (Str.mk #[c36]), _, rfl, hW.enter0, hM, fun r39 u42 H43 hM e41 h40 => ?_⟩
          replace h_model_here := rep_ext e41 h_model_here
          replace hk27 := keep_ext e41 hk27
          replace mu33 := mo_ext e41 mu33
          replace hW := hW.ret0 e41
          obtain rfl := of_v h40
          refine ⟨_, rfl, ?_⟩
          refine ⟨_, rfl, ?_⟩
          refine ⟨(L1 :: ms), r39, _, rfl, hW.enter0, hM, fun r44 u47 H48 hM e46 h45 => ?_⟩
          replace h_model_here := rep_ext e46 h_model_here
          replace hk27 := keep_ext e46 hk27
          replace mu33 := mo_ext e46 mu33
          replace hW := hW.ret0 e46
          obtain rfl := of_v h45
          refine ⟨(by show 2 ≤ sizeLine; decide), ?_⟩
          intro p49 n53
          have e50 := Rx.Ext.new (H := H48) (o := (HO.tup [V.str r39, V.str r44])) n53
          have hp51 : upd H48 p49 (HO.tup [V.str r39, V.str r44]) p49 = some (HO.tup [V.str r39, V.str r44]) := upd_same
          generalize upd H48 p49 (HO.tup [V.str r39, V.str r44]) = H54 at e50 hp51 ⊢
          have h52 : rep (L1 :: ms) H54 (D.tup [(D.v (V.str r39)), (D.v (V.str r44))]) (.ref p49) := rep_tup_mk hW n53 e50 hp51 (repL_cons rep_v (repL_cons rep_v repL_nil))
          replace h_model_here := rep_ext e50 h_model_here
          replace hk27 := keep_ext e50 hk27
          replace mu33 := mo_ext e50 mu33
          replace hW := hW.ret0 e50
          apply rep_gtup h52 rfl
          intro vs55 hv56
          obtain ⟨u57, us58, rfl, h59, hv60⟩ := repL_uncons hv56
          obtain rfl := of_v h59
          obtain ⟨u61, us62, rfl, h63, hv64⟩ := repL_uncons hv60
          obtain rfl := of_v h63
          obtain rfl := repL_empty hv64
          refine ⟨_, _, rfl, ?_⟩
          refine ⟨_, rfl, ?_⟩
          refine ⟨_, rfl, ?_⟩
          obtain ⟨g68, hM⟩ := hM
          apply mo_putA (k := (Sum.inl x23 : Key)) (e := (fun y_ : Str => (D.v (V.str y_)))) (m := s25) (y := r39) mu33 rep_v g68
          intro vs65 hl66 hr67
          have mk69 := mo_setD (ks := (putD s25 (Sum.inl x23 : Key) r39).map (·.1)) (ds := (putD s25 (Sum.inl x23 : Key) r39).map fun q_ => (fun y_ : Str => (D.v (V.str y_))) q_.2) mu33 hl66 hr67
          replace h_model_here := rep_put (o := .dK (List.zip ((putD s25 (Sum.inl x23 : Key) r39).map (·.1)) vs65)) mu33.im h_model_here
          replace hk27 := keep_put (o := .dK (List.zip ((putD s25 (Sum.inl x23 : Key) r39).map (·.1)) vs65)) mu33.im hk27
          replace h52 := rep_put (o := .dK (List.zip ((putD s25 (Sum.inl x23 : Key) r39).map (·.1)) vs65)) mu33.im h52
          replace hW := wd_put (o := .dK (List.zip ((putD s25 (Sum.inl x23 : Key) r39).map (·.1)) vs65)) hW mu33
          replace mu33 := mk69
          generalize upd H54 L1 (.dK (List.zip ((putD s25 (Sum.inl x23 : Key) r39).map (·.1)) vs65)) = H70 at *
          replace mu33 : MutO (L1 :: ms) [] H_0 H70 L1 (D.dct ((putD s25 (Sum.inl x23 : Key) r39).map (·.1)) ((putD s25 (Sum.inl x23 : Key) r39).map fun y_ : Key × Str => (D.v (V.str y_.2)))) := mu33
          clear mk69
          refine ⟨_, _, rfl, ?_⟩
          refine ⟨_, rfl, ?_⟩
          refine ⟨_, rfl, ?_⟩
          refine ⟨_, _, rfl, rfl, ?_⟩
          obtain ⟨g74, hM⟩ := hM
          apply mo_putA (k := (Sum.inl ((0 : Int) - x23) : Key)) (e := (fun y_ : Str => (D.v (V.str y_)))) (m := (putD s25 (Sum.inl x23 : Key) r39)) (y := r44) mu33 rep_v g74
          intro vs71 hl72 hr73
          have mk75 := mo_setD (ks := (putD (putD s25 (Sum.inl x23 : Key) r39) (Sum.inl ((0 : Int) - x23) : Key) r44).map (·.1)) (ds := (putD (putD s25 (Sum.inl x23 : Key) r39) (Sum.inl ((0 : Int) - x23) : Key) r44).map fun q_ => (fun y_ : Str => (D.v (V.str y_))) q_.2) mu33 hl72 hr73
          replace h_model_here := rep_put (o := .dK (List.zip ((putD (putD s25 (Sum.inl x23 : Key) r39) (Sum.inl ((0 : Int) - x23) : Key) r44).map (·.1)) vs71)) mu33.im h_model_here
          replace hk27 := keep_put (o := .dK (List.zip ((putD (putD s25 (Sum.inl x23 : Key) r39) (Sum.inl ((0 : Int) - x23) : Key) r44).map (·.1)) vs71)) mu33.im hk27
          replace h52 := rep_put (o := .dK (List.zip ((putD (putD s25 (Sum.inl x23 : Key) r39) (Sum.inl ((0 : Int) - x23) : Key) r44).map (·.1)) vs71)) mu33.im h52
          replace hW := wd_put (o := .dK (List.zip ((putD (putD s25 (Sum.inl x23 : Key) r39) (Sum.inl ((0 : Int) - x23) : Key) r44).map (·.1)) vs71)) hW mu33
          replace mu33 := mk75
          generalize upd H70 L1 (.dK (List.zip ((putD (putD s25 (Sum.inl x23 : Key) r39) (Sum.inl ((0 : Int) - x23) : Key) r44).map (·.1)) vs71)) = H76 at *
          replace mu33 : MutO (L1 :: ms) [] H_0 H76 L1 (D.dct ((putD (putD s25 (Sum.inl x23 : Key) r39) (Sum.inl ((0 : Int) - x23) : Key) r44).map (·.1)) ((putD (putD s25 (Sum.inl x23 : Key) r39) (Sum.inl ((0 : Int) - x23) : Key) r44).map fun y_ : Key × Str => (D.v (V.str y_.2)))) := mu33
          clear mk75
          refine ⟨rfl, ?_⟩
          exact hN30 ((putD (putD s25 (Sum.inl x23 : Key) r39) (Sum.inl ((0 : Int) - x23) : Key) r44)) _ _ hM ⟨_, _, rfl, hW, hk27, mu33⟩
        · skip
          refine ⟨_, rfl, ?_⟩
          refine ⟨_, rfl, ?_⟩
          refine ⟨(L1 :: ms), (Str.mk #[c36]), _, rfl, hW.enter0, hM, fun r77 u80 H81 hM e79 h78 => ?_⟩
          replace h_model_here := rep_ext e79 h_model_here
          replace hk27 := keep_ext e79 hk27
          replace mu33 := mo_ext e79 mu33
          replace hW := hW.ret0 e79
          obtain rfl := of_v h78
          refine ⟨(by show 2 ≤ sizeLine; decide), ?_⟩
          intro p82 n86
          have e83 := Rx.Ext.new (H := H81) (o := (HO.tup [V.str (Str.mk #[c36]), V.str r77])) n86
          have hp84 : upd H81 p82 (HO.tup [V.str (Str.mk #[c36]), V.str r77]) p82 = some (HO.tup [V.str (Str.mk #[c36]), V.str r77]) := upd_same
          generalize upd H81 p82 (HO.tup [V.str (Str.mk #[c36]), V.str r77]) = H87 at e83 hp84 ⊢
          have h85 : rep (L1 :: ms) H87 (D.tup [(D.v (V.str (Str.mk #[c36]))), (D.v (V.str r77))]) (.ref p82) := rep_tup_mk hW n86 e83 hp84 (repL_cons rep_v (repL_cons rep_v repL_nil))
          replace h_model_here := rep_ext e83 h_model_here
          replace hk27 := keep_ext e83 hk27
          replace mu33 := mo_ext e83 mu33
          replace hW := hW.ret0 e83
          apply rep_gtup h85 rfl
          intro vs88 hv89
          obtain ⟨u90, us91, rfl, h92, hv93⟩ := repL_uncons hv89
          obtain rfl := of_v h92
          obtain ⟨u94, us95, rfl, h96, hv97⟩ := repL_uncons hv93
          obtain rfl := of_v h96
          obtain rfl := repL_empty hv97
          refine ⟨_, _, rfl, ?_⟩
          refine ⟨_, rfl, ?_⟩
          refine ⟨_, rfl, ?_⟩
          obtain ⟨g101, hM⟩ := hM
          apply mo_putA (k := (Sum.inl x23 : Key)) (e := (fun y_ : Str => (D.v (V.str y_)))) (m := s25) (y := (Str.mk #[c36])) mu33 rep_v g101
          intro vs98 hl99 hr100
          have mk102 := mo_setD (ks := (putD s25 (Sum.inl x23 : Key) (Str.mk #[c36])).map (·.1)) (ds := (putD s25 (Sum.inl x23 : Key) (Str.mk #[c36])).map fun q_ => (fun y_ : Str => (D.v (V.str y_))) q_.2) mu33 hl99 hr100
          replace h_model_here := rep_put (o := .dK (List.zip ((putD s25 (Sum.inl x23 : Key) (Str.mk #[c36])).map (·.1)) vs98)) mu33.im h_model_here
          replace hk27 := keep_put (o := .dK (List.zip ((putD s25 (Sum.inl x23 : Key) (Str.mk #[c36])).map (·.1)) vs98)) mu33.im hk27
          replace h85 := rep_put (o := .dK (List.zip ((putD s25 (Sum.inl x23 : Key) (Str.mk #[c36])).map (·.1)) vs98)) mu33.im h85
          replace hW := wd_put (o := .dK (List.zip ((putD s25 (Sum.inl x23 : Key) (Str.mk #[c36])).map (·.1)) vs98)) hW mu33
          replace mu33 := mk102
          generalize upd H87 L1 (.dK (List.zip ((putD s25 (Sum.inl x23 : Key) (Str.mk #[c36])).map (·.1)) vs98)) = H103 at *
          replace mu33 : MutO (L1 :: ms) [] H_0 H103 L1 (D.dct ((putD s25 (Sum.inl x23 : Key) (Str.mk #[c36])).map (·.1)) ((putD s25 (Sum.inl x23 : Key) (Str.mk #[c36])).map fun y_ : Key × Str => (D.v (V.str y_.2)))) := mu33
          clear mk102
          refine ⟨_, _, rfl, ?_⟩
          refine ⟨_, rfl, ?_⟩
          refine ⟨_, rfl, ?_⟩
          refine ⟨_, _, rfl, rfl, ?_⟩
          obtain ⟨g107, hM⟩ := hM
          apply mo_putA (k := (Sum.inl ((0 : Int) - x23) : Key)) (e := (fun y_ : Str => (D.v (V.str y_)))) (m := (putD s25 (Sum.inl x23 : Key) (Str.mk #[c36]))) (y := r77) mu33 rep_v g107
          intro vs104 hl105 hr106
          have mk108 := mo_setD (ks := (putD (putD s25 (Sum.inl x23 : Key) (Str.mk #[c36])) (Sum.inl ((0 : Int) - x23) : Key) r77).map (·.1)) (ds := (putD (putD s25 (Sum.inl x23 : Key) (Str.mk #[c36])) (Sum.inl ((0 : Int) - x23) : Key) r77).map fun q_ => (fun y_ : Str => (D.v (V.str y_))) q_.2) mu33 hl105 hr106
          replace h_model_here := rep_put (o := .dK (List.zip ((putD (putD s25 (Sum.inl x23 : Key) (Str.mk #[c36])) (Sum.inl ((0 : Int) - x23) : Key) r77).map (·.1)) vs104)) mu33.im h_model_here
          replace hk27 := keep_put (o := .dK (List.zip ((putD (putD s25 (Sum.inl x23 : Key) (Str.mk #[c36])) (Sum.inl ((0 : Int) - x23) : Key) r77).map (·.1)) vs104)) mu33.im hk27
          replace h85 := rep_put (o := .dK (List.zip ((putD (putD s25 (Sum.inl x23 : Key) (Str.mk #[c36])) (Sum.inl ((0 : Int) - x23) : Key) r77).map (·.1)) vs104)) mu33.im h85
          replace hW := wd_put (o := .dK (List.zip ((putD (putD s25 (Sum.inl x23 : Key) (Str.mk #[c36])) (Sum.inl ((0 : Int) - x23) : Key) r77).map (·.1)) vs104)) hW mu33
          replace mu33 := mk108
          generalize upd H103 L1 (.dK (List.zip ((putD (putD s25 (Sum.inl x23 : Key) (Str.mk #[c36])) (Sum.inl ((0 : Int) - x23) : Key) r77).map (·.1)) vs104)) = H109 at *
          replace mu33 : MutO (L1 :: ms) [] H_0 H109 L1 (D.dct ((putD (putD s25 (Sum.inl x23 : Key) (Str.mk #[c36])) (Sum.inl ((0 : Int) - x23) : Key) r77).map (·.1)) ((putD (putD s25 (Sum.inl x23 : Key) (Str.mk #[c36])) (Sum.inl ((0 : Int) - x23) : Key) r77).map fun y_ : Key × Str => (D.v (V.str y_.2)))) := mu33
          clear mk108
          refine ⟨rfl, ?_⟩
          exact hN30 ((putD (putD s25 (Sum.inl x23 : Key) (Str.mk #[c36])) (Sum.inl ((0 : Int) - x23) : Key) r77)) _ _ hM ⟨_, _, rfl, hW, hk27, mu33⟩
      · skip
        refine iteF ?_
        refine ⟨_, rfl, ?_⟩
        refine ⟨_, rfl, ?_⟩
        refine ⟨(L1 :: ms), (Str.mk #[c36]), _, rfl, hW.enter0, hM, fun r110 u113 H114 hM e112 h111 => ?_⟩
        replace h_model_here := rep_ext e112 h_model_here
        replace hk27 := keep_ext e112 hk27
        replace mu33 := mo_ext e112 mu33
        replace hW := hW.ret0 e112
        obtain rfl := of_v h111
        refine ⟨(by show 2 ≤ sizeLine; decide), ?_⟩
        intro p115 n119
        have e116 := Rx.Ext.new (H := H114) (o := (HO.tup [V.str (Str.mk #[c36]), V.str r110])) n119
        have hp117 : upd H114 p115 (HO.tup [V.str (Str.mk #[c36]), V.str r110]) p115 = some (HO.tup [V.str (Str.mk #[c36]), V.str r110]) := upd_same
        generalize upd H114 p115 (HO.tup [V.str (Str.mk #[c36]), V.str r110]) = H120 at e116 hp117 ⊢
        have h118 : rep (L1 :: ms) H120 (D.tup [(D.v (V.str (Str.mk #[c36]))), (D.v (V.str r110))]) (.ref p115) := rep_tup_mk hW n119 e116 hp117 (repL_cons rep_v (repL_cons rep_v repL_nil))
        replace h_model_here := rep_ext e116 h_model_here
        replace hk27 := keep_ext e116 hk27
        replace mu33 := mo_ext e116 mu33
        replace hW := hW.ret0 e116
        apply rep_gtup h118 rfl
        intro vs121 hv122
        obtain ⟨u123, us124, rfl, h125, hv126⟩ := repL_uncons hv122
        obtain rfl := of_v h125
        obtain ⟨u127, us128, rfl, h129, hv130⟩ := repL_uncons hv126
        obtain rfl := of_v h129
        obtain rfl := repL_empty hv130
        refine ⟨_, _, rfl, ?_⟩
        refine ⟨_, rfl, ?_⟩
        refine ⟨_, rfl, ?_⟩
        obtain ⟨g134, hM⟩ := hM
        apply mo_putA (k := (Sum.inl x23 : Key)) (e := (fun y_ : Str => (D.v (V.str y_)))) (m := s25) (y := (Str.mk #[c36])) mu33 rep_v g134
        intro vs131 hl132 hr133
        have mk135 := mo_setD (ks := (putD s25 (Sum.inl x23 : Key) (Str.mk #[c36])).map (·.1)) (ds := (putD s25 (Sum.inl x23 : Key) (Str.mk #[c36])).map fun q_ => (fun y_ : Str => (D.v (V.str y_))) q_.2) mu33 hl132 hr133
        replace h_model_here := rep_put (o := .dK (List.zip ((putD s25 (Sum.inl x23 : Key) (Str.mk #[c36])).map (·.1)) vs131)) mu33.im h_model_here
        replace hk27 := keep_put (o := .dK (List.zip ((putD s25 (Sum.inl x23 : Key) (Str.mk #[c36])).map (·.1)) vs131)) mu33.im hk27
        replace h118 := rep_put (o := .dK (List.zip ((putD s25 (Sum.inl x23 : Key) (Str.mk #[c36])).map (·.1)) vs131)) mu33.im h118
        replace hW := wd_put (o := .dK (List.zip ((putD s25 (Sum.inl x23 : Key) (Str.mk #[c36])).map (·.1)) vs131)) hW mu33
        replace mu33 := mk135
        generalize upd H120 L1 (.dK (List.zip ((putD s25 (Sum.inl x23 : Key) (Str.mk #[c36])).map (·.1)) vs131)) = H136 at *
        replace mu33 : MutO (L1 :: ms) [] H_0 H136 L1 (D.dct ((putD s25 (Sum.inl x23 : Key) (Str.mk #[c36])).map (·.1)) ((putD s25 (Sum.inl x23 : Key) (Str.mk #[c36])).map fun y_ : Key × Str => (D.v (V.str y_.2)))) := mu33
        clear mk135
        refine ⟨_, _, rfl, ?_⟩
        refine ⟨_, rfl, ?_⟩
        refine ⟨_, rfl, ?_⟩
        refine ⟨_, _, rfl, rfl, ?_⟩
        obtain ⟨g140, hM⟩ := hM
        apply mo_putA (k := (Sum.inl ((0 : Int) - x23) : Key)) (e := (fun y_ : Str => (D.v (V.str y_)))) (m := (putD s25 (Sum.inl x23 : Key) (Str.mk #[c36]))) (y := r110) mu33 rep_v g140
        intro vs137 hl138 hr139
        have mk141 := mo_setD (ks := (putD (putD s25 (Sum.inl x23 : Key) (Str.mk #[c36])) (Sum.inl ((0 : Int) - x23) : Key) r110).map (·.1)) (ds := (putD (putD s25 (Sum.inl x23 : Key) (Str.mk #[c36])) (Sum.inl ((0 : Int) - x23) : Key) r110).map fun q_ => (fun y_ : Str => (D.v (V.str y_))) q_.2) mu33 hl138 hr139
        replace h_model_here := rep_put (o := .dK (List.zip ((putD (putD s25 (Sum.inl x23 : Key) (Str.mk #[c36])) (Sum.inl ((0 : Int) - x23) : Key) r110).map (·.1)) vs137)) mu33.im h_model_here
        replace hk27 := keep_put (o := .dK (List.zip ((putD (putD s25 (Sum.inl x23 : Key) (Str.mk #[c36])) (Sum.inl ((0 : Int) - x23) : Key) r110).map (·.1)) vs137)) mu33.im hk27
        replace h118 := rep_put (o := .dK (List.zip ((putD (putD s25 (Sum.inl x23 : Key) (Str.mk #[c36])) (Sum.inl ((0 : Int) - x23) : Key) r110).map (·.1)) vs137)) mu33.im h118
        replace hW := wd_put (o := .dK (List.zip ((putD (putD s25 (Sum.inl x23 : Key) (Str.mk #[c36])) (Sum.inl ((0 : Int) - x23) : Key) r110).map (·.1)) vs137)) hW mu33
        replace mu33 := mk141
        generalize upd H136 L1 (.dK (List.zip ((putD (putD s25 (Sum.inl x23 : Key) (Str.mk #[c36])) (Sum.inl ((0 : Int) - x23) : Key) r110).map (·.1)) vs137)) = H142 at *
        replace mu33 : MutO (L1 :: ms) [] H_0 H142 L1 (D.dct ((putD (putD s25 (Sum.inl x23 : Key) (Str.mk #[c36])) (Sum.inl ((0 : Int) - x23) : Key) r110).map (·.1)) ((putD (putD s25 (Sum.inl x23 : Key) (Str.mk #[c36])) (Sum.inl ((0 : Int) - x23) : Key) r110).map fun y_ : Key × Str => (D.v (V.str y_.2)))) := mu33
        clear mk141
        refine ⟨rfl, ?_⟩
        exact hN30 ((putD (putD s25 (Sum.inl x23 : Key) (Str.mk #[c36])) (Sum.inl ((0 : Int) - x23) : Key) r110)) _ _ hM ⟨_, _, rfl, hW, hk27, mu33⟩
    · skip
      clear mu4
      rintro s143 _ H148 hM ⟨w145, w146, rfl, hW, hk144, mu147⟩
      replace h_model_here := rep_keep hk144 h_model_here
      have h149 := mo_rep_dr dr_here nm3 mu147
      replace hW := wd_dr dr_here mu147.hp hW
      replace h_model_here := rep_dr dr_here h_model_here
      clear mu147
      refine ⟨_, rfl, ?_⟩
      exact hQ s143 _ _ hM hW.out h149
def M_due (x_model_here : (Int × (Str × Str × Str) × Str × Bool)) (x_half : Int) (x_when : Int) (KM : ((List Int) × (List Int) × (List Str)) → Prop) : Prop :=
  (M_spots x_model_here x_half x_when fun r1 => (M_marks x_model_here x_half (decide (V.int (x_when % (2 : Int)) = V.int (1 : Int))) fun r11 => (forC (fun (x16 : Int) (s18 : (List Int)) (k19 : ((List Int)) → Prop) => (∃ KB27 : Int → Prop, (0 ≤ x16 ∧ ∃ g31 : Int.toNat x16 < r1.length, ∀ x33, x33 = r1[Int.toNat x16]'g31 → (if (decide (V.int x33 = V.int (0 : Int))) = true then (KB27 (((2 : Int) * x_half) + (1 : Int))) else (0 ≤ x16 ∧ ∃ g36 : Int.toNat x16 < r1.length, ∀ x38, x38 = r1[Int.toNat x16]'g36 → (((0 : Int) - x38) ∈ r1 ∧ (KB27 ((r1.idxOf ((0 : Int) - x38) : Nat) : Int)))))) ∧ ∀ r41 : Int, KB27 r41 → (s18.length < 16777216 ∧ (k19 ((s18 ++ [r41])))))) (rangeI (0 : Int) (((2 : Int) * x_half) + (1 : Int))) (([] : List Int)) fun s52 => (r1.length < 100000 ∧ mapC (fun (x74 : Int) (k67 : Str → Prop) => (∃ y80, Rx.getD r11 (Sum.inl x74 : Key) = some y80 ∧ (k67 y80))) r1 [] fun ys89 => (M_standing x_model_here (decide (V.int (x_when % (2 : Int)) = V.int (1 : Int))) fun r92 => (ys89.length + ([r92] : List Str).length ≤ sizeLine ∧ ((0 : Int) ∈ r1 ∧ (s52.length + ([((r1.idxOf (0 : Int) : Nat) : Int)] : List Int).length ≤ sizeLine ∧ (KM (r1, (s52 ++ ([((r1.idxOf (0 : Int) : Nat) : Int)] : List Int)), (ys89 ++ ([r92] : List Str))))))))))))
def sp_due (A : Ad) : Sp := fun vs H Q _ => ∃ (ms : List Addr) (v_model_here : V) (x_model_here : (Int × (Str × Str × Str) × Str × Bool)) (x_half : Int) (x_when : Int) (KM : ((List Int) × (List Int) × (List Str)) → Prop), vs = [v_model_here, V.int x_half, V.int x_when] ∧ Wd ms [] [] H H ∧ rep ms H (D.dct [(Sum.inr ("stride" : Str) : Key), (Sum.inr ("parts" : Str) : Key), (Sum.inr ("stand" : Str) : Key), (Sum.inr ("flips" : Str) : Key)] [(D.v (V.int x_model_here.1)), (D.tup [(D.v (V.str x_model_here.2.1.1)), (D.v (V.str x_model_here.2.1.2.1)), (D.v (V.str x_model_here.2.1.2.2))]), (D.v (V.str x_model_here.2.2.1)), (D.v (V.bl x_model_here.2.2.2))]) v_model_here ∧ M_due x_model_here x_half x_when KM ∧ ∀ (r : ((List Int) × (List Int) × (List Str))) (u : V) (H1 : Hp), KM r → Ret [] H H1 → rep ms H1 (D.lst [(D.lst (r.1.map (fun y_ : Int => (D.v (V.int y_))))), (D.lst (r.2.1.map (fun y_ : Int => (D.v (V.int y_))))), (D.lst (r.2.2.map (fun y_ : Str => (D.v (V.str y_)))))]) u → Q u H1
set_option maxHeartbeats 16000000 in
theorem ok_due {P : Program} {w : World} {K : PySem.W.Frag} {mg : Str → Option Value} {base : Heap} {A : Ad} (T : Txt w K mg A) : FnOk P w K mg base CX0 3 A.a_due A.d_due ["_law_model_here", "_law_half", "_law_when"] (sp_due A) := by
  refine T.F_due.ok sc_due (fun vs H Q E h => ?_) (fun cdv A_ outer s_ H_0 vs Q E hr h => ?_)
  · obtain ⟨ms, v_model_here, x_model_here, x_half, x_when, KM, rfl, _⟩ := h
    rfl
  · obtain ⟨ms, v_model_here, x_model_here, x_half, x_when, KM, rfl, hW, h_model_here, hM, hQ⟩ := h
    unfold M_due at hM
    refine ⟨_, (pss_cons (ps_par3 (i := 3) (j := 4) (l := 5) (by rfl) sc_due.nd rfl rfl rfl (by decide) (by decide) (by decide) rfl rfl rfl (pa_cons (pe_call (ok_spots T) (hr.mono (by decide)) (by rfl) T.g_spots T.F_spots.kp T.b_spots .nil pass0 (pa_cons (pv 0) (pa_cons (pv 1) (pa_cons (pv 2) pa_nil)))) (pa_cons (pe_op op_add (pe_op op_mul pe_int (pv 1)) pe_int) (pa_cons (pe_lst pa_nil) pa_nil))) (by rfl)) (pss_cons (ps_set (i := 6) sc_due.nd rfl (by first | exact Or.inl rfl | exact Or.inr rfl) (pe_call (ok_marks T) (hr.mono (by decide)) (by rfl) T.g_marks T.F_marks.kp T.b_marks .nil pass0 (pa_cons (pv 0) (pa_cons (pv 1) (pa_cons (pe_cmpR op_eq (pe_op op_mod (pv 2) pe_int) pe_int (nomark _)) pa_nil))))) (pss_cons (ps_for PassesOwn.never rfl (pi_rangeW1 (by rfl) T.z_range (pa_cons (pv 4) pa_nil)) (pg_name (i := 7) sc_due.nd rfl (by first | exact Or.inl rfl | exact Or.inr rfl)) (pss_one (ps_expr (pe_bmK (K := K) rfl PySem.F.plainAttrs_list PySem.F.slot_list_append PySem.F.type_list_append mt_append (pv 5) (pa_cons (pe_up (pe_ifExp (pt_cmpR op_eq (pe_ix (ix_listK (K := K) rfl) (pv 3) (pv 7) (fun _ _ => rfl)) pe_int (nomark _)) (pv 4) (pe_bmK (K := K) rfl PySem.F.plainAttrs_list PySem.F.slot_list_index PySem.F.type_list_index (mt_indexK (K := K) rfl) (pv 3) (pa_cons (pe_op op_sub pe_int (pe_ix (ix_listK (K := K) rfl) (pv 3) (pv 7) (fun _ _ => rfl))) pa_nil)))) pa_nil))))) (pss_cons (ps_set (i := 8) sc_due.nd rfl (by first | exact Or.inl rfl | exact Or.inr rfl) (pe_op op_cat (pe_lc (own := [("_law_spot", 9)]) (g := gName 9) rfl sc_due.nd (pi_list (pv 3)) (blkOk_by (N := ["_law_model_here", "_law_half", "_law_when", "_law_spots_here", "_law_ring", "_law_others", "_law_marks_here", "_law_who", "_law_signs_here", "_law_spot"]) (sc := defScope s_due) (by decide +kernel)) (fun _ _ _ _ _ => pg_name (i := 9) sc_due.nd rfl (by first | exact Or.inl rfl | exact Or.inr rfl)) (fun _ _ _ _ _ => pts_nil) (fun _ _ _ _ _ => (pe_dget (hu_of hr) (pv 6) (pv 9) (fun _ _ => rfl)))) (pe_lst (pa_cons (pe_call (ok_standing T) (hr.mono (by decide)) (by rfl) T.g_standing T.F_standing.kp T.b_standing .nil pass0 (pa_cons (pv 0) (pa_cons (pe_cmpR op_eq (pe_op op_mod (pv 2) pe_int) pe_int (nomark _)) pa_nil))) pa_nil)))) (pss_one (ps_ret (pe_lst (pa_cons (pv 3) (pa_cons (pe_op op_cat (pv 5) (pe_lst (pa_cons (pe_bmK (K := K) rfl PySem.F.plainAttrs_list PySem.F.slot_list_index PySem.F.type_list_index (mt_indexK (K := K) rfl) (pv 3) (pa_cons pe_int pa_nil)) pa_nil))) (pa_cons (pv 8) pa_nil)))))))))), ?_⟩
    refine ⟨_, rfl, ?_⟩
    refine ⟨_, rfl, ?_⟩
    refine ⟨_, rfl, ?_⟩
    refine ⟨ms, _, x_model_here, x_half, x_when, _, rfl, hW.enter0, h_model_here, hM, fun r1 u4 H5 hM e3 h2 => ?_⟩
    replace h_model_here := rep_ext e3 h_model_here
    replace hW := hW.ret0 e3
    refine ⟨_, rfl, ?_⟩
    refine ⟨_, _, rfl, rfl, .inl ⟨by decide, by decide⟩, ?_⟩
    refine ⟨_, _, rfl, rfl, ?_⟩
    refine ⟨(by show 0 ≤ sizeLine; decide), ?_⟩
    intro L6 nl7
    have nm8 := nm_new hW nl7
    have mu9 := mo_newL (ds := ([] : List Int).map (fun y_ : Int => (D.v (V.int y_)))) (vs := []) hW nl7 repL_nil
    replace h_model_here := rep_cell (o := .lst []) nl7 h_model_here
    replace h2 := rep_cell (o := .lst []) nl7 h2
    replace hW := wd_cell (o := .lst []) hW nl7
    generalize upd H5 L6 (.lst []) = H10 at *
    replace mu9 : MutO (L6 :: ms) [] H_0 H10 L6 (D.lst (([] : List Int).map (fun y_ : Int => (D.v (V.int y_))))) := mu9
    refine ⟨_, _, _, rfl, ?_⟩
    refine ⟨_, rfl, ?_⟩
    refine ⟨_, rfl, ?_⟩
    refine ⟨_, rfl, ?_⟩
    refine ⟨_, _, rfl, rfl, (by show (0 : Int) < (2 : Int); decide), ?_⟩
    refine ⟨rfl, ?_⟩
    refine ⟨(L6 :: ms), _, x_model_here, x_half, (decide (V.int (x_when % (2 : Int)) = V.int (1 : Int))), _, rfl, hW.enter0, h_model_here, hM, fun r11 u14 H15 hM e13 h12 => ?_⟩
    replace h_model_here := rep_ext e13 h_model_here
    replace h2 := rep_ext e13 h2
    replace mu9 := mo_ext e13 mu9
    replace hW := hW.ret0 e13
    refine ⟨_, rfl, ?_⟩
    refine ⟨_, rfl, ?_⟩
    refine for_rangeG (S := (List Int)) (lo := (0 : Int)) (hi := (((2 : Int) * x_half) + (1 : Int))) (N := Int.toNat (((2 : Int) * x_half) + (1 : Int))) (fun (s : (List Int)) σ_ h_ => ∃ (w_0 : Option V), σ_ = [some v_model_here, some (V.int x_half), some (V.int x_when), some u4, some (V.int (((2 : Int) * x_half) + (1 : Int))), some (V.ref L6), some u14, w_0, none, none] ∧ Wd (L6 :: ms) [] [] H_0 h_ ∧ Keep (L6 :: ms) H15 h_ ∧ MutO (L6 :: ms) [] H_0 h_ L6 (D.lst (s.map (fun y_ : Int => (D.v (V.int y_)))))) (([] : List Int)) (by simp) hM ⟨_, rfl, hW, Keep.refl, mu9⟩ ?_ ?_
    · skip
      clear mu9
      rintro x16 s18 k19 _ H26 ⟨w24, rfl, hW, hk20, mu25⟩ hM Nx22 hN23
      replace h_model_here := rep_keep hk20 h_model_here
      replace h2 := rep_keep hk20 h2
      replace h12 := rep_keep hk20 h12
      refine ⟨_, rfl, ?_⟩
      refine ⟨mo_tyL mu25, ?_⟩
      obtain ⟨KB27, hM, hKKB27⟩ := hM
      refine ⟨fun v H1 => ∃ r : Int, KB27 r ∧ Wd (L6 :: ms) [] [] H_0 H1 ∧ Keep (L6 :: ms) H26 H1 ∧ rep (L6 :: ms) H1 (D.v (V.int r)) v ∧ MutO (L6 :: ms) [] H_0 H1 L6 (D.lst (s18.map (fun y_ : Int => (D.v (V.int y_))))), ?_, ?_⟩
      · skip
        have hj29 := Keep.refl (ms := (L6 :: ms)) (H := H26)
        refine ⟨_, rfl, ?_⟩
        refine ⟨_, rfl, ?_⟩
        obtain ⟨g30, g31, hM⟩ := hM
        apply rep_ixL (e := (fun y_ : Int => (D.v (V.int y_)))) (xs := r1) h2 g30 g31
        intro u34 h32
        obtain ⟨x33, x33e⟩ : ∃ x_, x_ = r1[Int.toNat x16]'g31 := ⟨_, rfl⟩
        rw [← x33e] at h32
        replace hM := hM x33 x33e
        obtain rfl := of_v h32
        refine ⟨rfl, ?_⟩
        refine ⟨_, rfl, ?_⟩
        refine ite3 hM (fun hM => ?_) (fun hM => ?_)
        · skip
          refine ⟨_, rfl, ?_⟩
          exact ⟨(((2 : Int) * x_half) + (1 : Int)), hM, hW, hj29, rep_v, mu25⟩
        · skip
          refine ⟨_, rfl, ?_⟩
          refine ⟨rep_tyL h2, ?_⟩
          refine ⟨_, rfl, ?_⟩
          refine ⟨_, rfl, ?_⟩
          obtain ⟨g35, g36, hM⟩ := hM
          apply rep_ixL (e := (fun y_ : Int => (D.v (V.int y_)))) (xs := r1) h2 g35 g36
          intro u39 h37
          obtain ⟨x38, x38e⟩ : ∃ x_, x_ = r1[Int.toNat x16]'g36 := ⟨_, rfl⟩
          rw [← x38e] at h37
          replace hM := hM x38 x38e
          obtain rfl := of_v h37
          refine ⟨_, _, rfl, rfl, ?_⟩
          obtain ⟨g40, hM⟩ := hM
          apply rep_indexI (xs := r1) (n := ((0 : Int) - x38)) h2 g40
          exact ⟨((r1.idxOf ((0 : Int) - x38) : Nat) : Int), hM, hW, hj29, rep_v, mu25⟩
      · skip
        clear mu25
        rintro u43 Hj28 ⟨r41, hr, hW, hj29, h42, mu44⟩
        replace hM := hKKB27 r41 hr
        replace h_model_here := rep_keep hj29 h_model_here
        replace h2 := rep_keep hj29 h2
        replace h12 := rep_keep hj29 h12
        replace hk20 := Keep.trans hk20 hj29
        obtain rfl := of_v h42
        obtain ⟨g45, hM⟩ := hM
        apply mo_appU mu44 (by rw [List.length_map]; exact g45)
        intro vs46 hr48
        have mk50 := mo_setL mu44 (repL_snoc (e := (fun y_ : Int => (D.v (V.int y_)))) (xs := s18) (y := r41) hr48 rep_v)
        replace h_model_here := rep_put (o := .lst (vs46 ++ [V.int r41])) mu44.im h_model_here
        replace h2 := rep_put (o := .lst (vs46 ++ [V.int r41])) mu44.im h2
        replace h12 := rep_put (o := .lst (vs46 ++ [V.int r41])) mu44.im h12
        replace hk20 := keep_put (o := .lst (vs46 ++ [V.int r41])) mu44.im hk20
        replace hW := wd_put (o := .lst (vs46 ++ [V.int r41])) hW mu44
        replace mu44 := mk50
        generalize upd Hj28 L6 (.lst (vs46 ++ [V.int r41])) = H51 at *
        replace mu44 : MutO (L6 :: ms) [] H_0 H51 L6 (D.lst ((s18 ++ [r41]).map (fun y_ : Int => (D.v (V.int y_))))) := mu44
        clear mk50
        exact hN23 ((s18 ++ [r41])) _ _ hM ⟨_, rfl, hW, hk20, mu44⟩
    · skip
      clear mu9
      rintro s52 _ H56 hM ⟨w54, rfl, hW, hk53, mu55⟩
      replace h_model_here := rep_keep hk53 h_model_here
      replace h2 := rep_keep hk53 h2
      replace h12 := rep_keep hk53 h12
      have h57 := mo_rep_dr dr_here nm8 mu55
      replace hW := wd_dr dr_here mu55.hp hW
      replace h_model_here := rep_dr dr_here h_model_here
      replace h2 := rep_dr dr_here h2
      replace h12 := rep_dr dr_here h12
      clear mu55
      refine ⟨_, rfl, ?_⟩
      apply rep_iter h2
      intro a58 xs59 _ an60 hp61 hl62
      refine fun L63 nl64 => ?_
      have nm78 := nm_new hW nl64
      refine lc_listG (L := L63) (fun n_ ys_ h_ => Wd (L63 :: ms) [] [] H_0 h_ ∧ Keep (L63 :: ms) H56 h_ ∧ MutO (L63 :: ms) [] H_0 h_ L63 (D.lst (ys_.map (fun y_ : Str => (D.v (V.str y_))))) ∧ ys_.length ≤ n_) (items := r1) (e := (fun y_ : Int => (D.v (V.int y_)))) an60 hp61 hl62 nl64 (fun _ _ _ q_ => q_.2.1) hM ⟨wd_cell hW nl64, keep_cell nl64 Keep.refl, mo_newL (ds := []) hW nl64 repL_nil, Nat.le_refl _⟩ ?_ ?_
      · skip
        rintro x74 u75 n65 ys66 k67 H79 hn ⟨hW, hk68, mu69, ln70⟩ h76 hM Nx73 hN71
        replace h_model_here := rep_keep hk68 (rep_new nl64 h_model_here)
        replace h2 := rep_keep hk68 (rep_new nl64 h2)
        replace h12 := rep_keep hk68 (rep_new nl64 h12)
        replace h57 := rep_keep hk68 (rep_new nl64 h57)
        obtain rfl := of_v h76
        refine ⟨rfl, ?_⟩
        refine tyes_of ?_
        refine ⟨_, rfl, ?_⟩
        refine ⟨_, rfl, ?_⟩
        obtain ⟨y80, hy81, hM⟩ := hM
        apply rep_dgetA (k := (Sum.inl x74 : Key)) (e := (fun y_ : Str => (D.v (V.str y_)))) (m := r11) (y := y80) h12 hy81
        intro u83 h82
        obtain rfl := of_v h82
        refine mo_end mu69 hn (by rw [List.length_map]; exact ln70) fun vs84 hr85 => ?_
        have mk87 := mo_setL mu69 (repL_snoc (e := (fun y_ : Str => (D.v (V.str y_)))) (xs := ys66) (y := y80) hr85 rep_v)
        replace h_model_here := rep_put (o := .lst (vs84 ++ [V.str y80])) mu69.im h_model_here
        replace h2 := rep_put (o := .lst (vs84 ++ [V.str y80])) mu69.im h2
        replace h12 := rep_put (o := .lst (vs84 ++ [V.str y80])) mu69.im h12
        replace h57 := rep_put (o := .lst (vs84 ++ [V.str y80])) mu69.im h57
        replace hk68 := keep_put (o := .lst (vs84 ++ [V.str y80])) mu69.im hk68
        replace hW := wd_put (o := .lst (vs84 ++ [V.str y80])) hW mu69
        replace mu69 := mk87
        generalize upd H79 L63 (.lst (vs84 ++ [V.str y80])) = H88 at *
        replace mu69 : MutO (L63 :: ms) [] H_0 H88 L63 (D.lst ((ys66 ++ [y80]).map (fun y_ : Str => (D.v (V.str y_))))) := mu69
        clear mk87
        exact hN71 y80 _ hM ⟨hW, hk68, mu69, by rw [List.length_append]; exact Nat.add_le_add_right ln70 1⟩
      · skip
        rintro n65 ys89 H90 hM ⟨hW, hk68, mu69, ln70⟩
        replace h_model_here := rep_keep hk68 (rep_new nl64 h_model_here)
        replace h2 := rep_keep hk68 (rep_new nl64 h2)
        replace h12 := rep_keep hk68 (rep_new nl64 h12)
        replace h57 := rep_keep hk68 (rep_new nl64 h57)
        clear hk68 ln70
        have h91 := mo_rep_dr dr_here nm78 mu69
        replace hW := wd_dr dr_here mu69.hp hW
        replace h_model_here := rep_dr dr_here h_model_here
        replace h2 := rep_dr dr_here h2
        replace h12 := rep_dr dr_here h12
        replace h57 := rep_dr dr_here h57
        clear mu69
        refine ⟨_, rfl, ?_⟩
        refine ⟨_, rfl, ?_⟩
        refine ⟨_, _, rfl, rfl, (by show (0 : Int) < (2 : Int); decide), ?_⟩
        refine ⟨rfl, ?_⟩
        refine ⟨ms, _, x_model_here, (decide (V.int (x_when % (2 : Int)) = V.int (1 : Int))), _, rfl, hW.enter0, h_model_here, hM, fun r92 u95 H96 hM e94 h93 => ?_⟩
        replace h_model_here := rep_ext e94 h_model_here
        replace h2 := rep_ext e94 h2
        replace h12 := rep_ext e94 h12
        replace h57 := rep_ext e94 h57
        replace h91 := rep_ext e94 h91
        replace hW := hW.ret0 e94
        obtain rfl := of_v h93
        refine ⟨(by show 1 ≤ sizeLine; decide), ?_⟩
        intro p97 n101
        have e98 := Rx.Ext.new (H := H96) (o := (HO.lst [V.str r92])) n101
        have hp99 : upd H96 p97 (HO.lst [V.str r92]) p97 = some (HO.lst [V.str r92]) := upd_same
        generalize upd H96 p97 (HO.lst [V.str r92]) = H102 at e98 hp99 ⊢
        have h100 : rep ms H102 (D.lst (([r92] : List Str).map (fun y_ : Str => (D.v (V.str y_))))) (.ref p97) := rep_lst_mk hW n101 e98 hp99 (repL_cons rep_v repL_nil)
        replace h_model_here := rep_ext e98 h_model_here
        replace h2 := rep_ext e98 h2
        replace h12 := rep_ext e98 h12
        replace h57 := rep_ext e98 h57
        replace h91 := rep_ext e98 h91
        replace hW := hW.ret0 e98
        obtain ⟨g103, hM⟩ := hM
        apply rep_cat (xs := ys89) (ys := ([r92] : List Str)) (e := (fun y_ : Str => (D.v (V.str y_)))) hW h91 h100 g103
        intro p104 H107 e106 h105
        replace h_model_here := rep_ext e106 h_model_here
        replace h2 := rep_ext e106 h2
        replace h12 := rep_ext e106 h12
        replace h57 := rep_ext e106 h57
        replace h91 := rep_ext e106 h91
        replace h100 := rep_ext e106 h100
        replace hW := hW.ret0 e106
        refine ⟨_, rfl, ?_⟩
        refine ⟨_, rfl, ?_⟩
        refine ⟨_, rfl, ?_⟩
        refine ⟨rep_tyL h2, ?_⟩
        obtain ⟨g108, hM⟩ := hM
        apply rep_indexIC (xs := r1) (n := (0 : Int)) h2 g108
        refine ⟨(by show 1 ≤ sizeLine; decide), ?_⟩
        intro p109 n113
        have e110 := Rx.Ext.new (H := H107) (o := (HO.lst [V.int ((r1.idxOf (0 : Int) : Nat) : Int)])) n113
        have hp111 : upd H107 p109 (HO.lst [V.int ((r1.idxOf (0 : Int) : Nat) : Int)]) p109 = some (HO.lst [V.int ((r1.idxOf (0 : Int) : Nat) : Int)]) := upd_same
        generalize upd H107 p109 (HO.lst [V.int ((r1.idxOf (0 : Int) : Nat) : Int)]) = H114 at e110 hp111 ⊢
        have h112 : rep ms H114 (D.lst (([((r1.idxOf (0 : Int) : Nat) : Int)] : List Int).map (fun y_ : Int => (D.v (V.int y_))))) (.ref p109) := rep_lst_mk hW n113 e110 hp111 (repL_cons rep_v repL_nil)
        replace h_model_here := rep_ext e110 h_model_here
        replace h2 := rep_ext e110 h2
        replace h12 := rep_ext e110 h12
        replace h57 := rep_ext e110 h57
        replace h91 := rep_ext e110 h91
        replace h100 := rep_ext e110 h100
        replace h105 := rep_ext e110 h105
        replace hW := hW.ret0 e110
        obtain ⟨g115, hM⟩ := hM
        apply rep_cat (xs := s52) (ys := ([((r1.idxOf (0 : Int) : Nat) : Int)] : List Int)) (e := (fun y_ : Int => (D.v (V.int y_)))) hW h57 h112 g115
        intro p116 H119 e118 h117
        replace h_model_here := rep_ext e118 h_model_here
        replace h2 := rep_ext e118 h2
        replace h12 := rep_ext e118 h12
        replace h57 := rep_ext e118 h57
        replace h91 := rep_ext e118 h91
        replace h100 := rep_ext e118 h100
        replace h105 := rep_ext e118 h105
        replace h112 := rep_ext e118 h112
        replace hW := hW.ret0 e118
        refine ⟨_, rfl, ?_⟩
        refine ⟨(by show 3 ≤ sizeLine; decide), ?_⟩
        intro p120 n124
        have e121 := Rx.Ext.new (H := H119) (o := (HO.lst [u4, (V.ref p116), (V.ref p104)])) n124
        have hp122 : upd H119 p120 (HO.lst [u4, (V.ref p116), (V.ref p104)]) p120 = some (HO.lst [u4, (V.ref p116), (V.ref p104)]) := upd_same
        generalize upd H119 p120 (HO.lst [u4, (V.ref p116), (V.ref p104)]) = H125 at e121 hp122 ⊢
        have h123 : rep ms H125 (D.lst [(D.lst (r1.map (fun y_ : Int => (D.v (V.int y_))))), (D.lst ((s52 ++ ([((r1.idxOf (0 : Int) : Nat) : Int)] : List Int)).map (fun y_ : Int => (D.v (V.int y_))))), (D.lst ((ys89 ++ ([r92] : List Str)).map (fun y_ : Str => (D.v (V.str y_)))))]) (.ref p120) := rep_lst_mk hW n124 e121 hp122 (repL_cons h2 (repL_cons h117 (repL_cons h105 repL_nil)))
        replace h_model_here := rep_ext e121 h_model_here
        replace h2 := rep_ext e121 h2
        replace h12 := rep_ext e121 h12
        replace h57 := rep_ext e121 h57
        replace h91 := rep_ext e121 h91
        replace h100 := rep_ext e121 h100
        replace h105 := rep_ext e121 h105
        replace h112 := rep_ext e121 h112
        replace h117 := rep_ext e121 h117
        replace hW := hW.ret0 e121
        exact hQ (r1, (s52 ++ ([((r1.idxOf (0 : Int) : Nat) : Int)] : List Int)), (ys89 ++ ([r92] : List Str))) _ _ hM hW.out h123
def M_Word_least (x_self : (Str × Str × Str)) (KM : Int → Prop) : Prop :=
  (x_self.1.length ≤ sizeLine ∧ (x_self.2.2.length ≤ sizeLine ∧ (KM (if ((x_self.1.length : Int) + (x_self.2.2.length : Int)) > (1 : Int) then ((x_self.1.length : Int) + (x_self.2.2.length : Int)) else (1 : Int)))))
def sp_Word_least (A : Ad) : Sp := fun vs H Q _ => ∃ (ms : List Addr) (v_self : V) (x_self : (Str × Str × Str)) (KM : Int → Prop), vs = [v_self] ∧ Wd ms [] [] H H ∧ rep ms H (eWord A x_self) v_self ∧ M_Word_least x_self KM ∧ ∀ (r : Int) (u : V) (H1 : Hp), KM r → Ret [] H H1 → rep ms H1 (D.v (V.int r)) u → Q u H1
set_option maxHeartbeats 16000000 in
theorem ok_Word_least {P : Program} {w : World} {K : PySem.W.Frag} {mg : Str → Option Value} {base : Heap} {A : Ad} (T : Txt w K mg A) : FnOk P w K mg base CX0 1 A.a_Word_least A.d_Word_least ["self"] (sp_Word_least A) := by
  refine T.F_Word_least.ok sc_Word_least (fun vs H Q E h => ?_) (fun cdv A_ outer s_ H_0 vs Q E hr h => ?_)
  · obtain ⟨ms, v_self, x_self, KM, rfl, _⟩ := h
    rfl
  · obtain ⟨ms, v_self, x_self, KM, rfl, hW, h_self, hM, hQ⟩ := h
    unfold M_Word_least at hM
    refine ⟨_, (pss_one (ps_ret (pe_callB (call_max2 rfl) (by rfl) T.z_max (by decide +kernel) (pa_cons pe_int (pa_cons (pe_op op_add (pe_callB call_len_str (by rfl) T.z_len PySem.boot_len (pa_cons (pe_fld (pv 0) rfl) pa_nil)) (pe_callB call_len_str (by rfl) T.z_len PySem.boot_len (pa_cons (pe_fld (pv 0) rfl) pa_nil))) pa_nil))))), ?_⟩
    refine ⟨_, rfl, ?_⟩
    apply rep_fld (j := 0) h_self T.cl_Word T.na_Word__head nd_Word rfl rfl
    intro u2 h1
    obtain rfl := of_v h1
    obtain ⟨g3, hM⟩ := hM
    refine ⟨_, rfl, g3, ?_⟩
    refine ⟨_, rfl, ?_⟩
    apply rep_fld (j := 2) h_self T.cl_Word T.na_Word__tail nd_Word rfl rfl
    intro u5 h4
    obtain rfl := of_v h4
    obtain ⟨g6, hM⟩ := hM
    refine ⟨_, rfl, g6, ?_⟩
    refine ⟨_, _, rfl, rfl, ?_⟩
    refine ⟨_, _, rfl, ?_⟩
    exact hQ (if ((x_self.1.length : Int) + (x_self.2.2.length : Int)) > (1 : Int) then ((x_self.1.length : Int) + (x_self.2.2.length : Int)) else (1 : Int)) _ _ hM hW.out rep_v
def M_Rule_least_size (x_self : (Int × (Str × Str × Str) × Str × Bool)) (KM : Int → Prop) : Prop :=
  (M_Word_least x_self.2.1 fun r4 => (KM (((2 : Int) * r4) + (2 : Int))))
def sp_Rule_least_size (A : Ad) : Sp := fun vs H Q _ => ∃ (ms : List Addr) (v_self : V) (x_self : (Int × (Str × Str × Str) × Str × Bool)) (KM : Int → Prop), vs = [v_self] ∧ Wd ms [] [] H H ∧ rep ms H (eRule A x_self) v_self ∧ M_Rule_least_size x_self KM ∧ ∀ (r : Int) (u : V) (H1 : Hp), KM r → Ret [] H H1 → rep ms H1 (D.v (V.int r)) u → Q u H1
set_option maxHeartbeats 16000000 in
theorem ok_Rule_least_size {P : Program} {w : World} {K : PySem.W.Frag} {mg : Str → Option Value} {base : Heap} {A : Ad} (T : Txt w K mg A) : FnOk P w K mg base CX0 3 A.a_Rule_least_size A.d_Rule_least_size ["self"] (sp_Rule_least_size A) := by
  refine T.F_Rule_least_size.ok sc_Rule_least_size (fun vs H Q E h => ?_) (fun cdv A_ outer s_ H_0 vs Q E hr h => ?_)
  · obtain ⟨ms, v_self, x_self, KM, rfl, _⟩ := h
    rfl
  · obtain ⟨ms, v_self, x_self, KM, rfl, hW, h_self, hM, hQ⟩ := h
    unfold M_Rule_least_size at hM
    refine ⟨_, (pss_one (ps_ret (pe_op op_add (pe_op op_mul pe_int (pe_prop (pe_fld (pv 0) rfl) T.cl_Word T.p_Word_least (ok_Word_least T) (hr.mono (by decide)) T.b_Word_least .nil pass0 rfl)) pe_int))), ?_⟩
    refine ⟨_, rfl, ?_⟩
    apply rep_fld (j := 1) h_self T.cl_Rule T.na_Rule__word nd_Rule rfl rfl
    intro u2 h1
    apply rep_prop h1
    intro _ h3
    refine ⟨ms, _, x_self.2.1, _, rfl, hW.enter0, h3, hM, fun r4 u7 H8 hM e6 h5 => ?_⟩
    replace h_self := rep_ext e6 h_self
    replace h1 := rep_ext e6 h1
    replace hW := hW.ret0 e6
    obtain rfl := of_v h5
    refine ⟨_, _, rfl, rfl, .inl ⟨by decide, by decide⟩, ?_⟩
    refine ⟨_, _, rfl, rfl, ?_⟩
    exact hQ (((2 : Int) * r4) + (2 : Int)) _ _ hM hW.out rep_v
def M_is_size (x_rule : (Int × (Str × Str × Str) × Str × Bool)) (x_value : Int) (KM : Bool → Prop) : Prop :=
  (M_is_integer x_value fun r1 => (if r1 = true then (M_Rule_least_size x_rule fun r7 => (if (decide (r7 ≤ x_value)) = true then (KM (decide (V.int (x_value % (2 : Int)) = V.int (0 : Int)))) else (KM false))) else (KM false)))
def sp_is_size (A : Ad) : Sp := fun vs H Q _ => ∃ (ms : List Addr) (v_rule : V) (x_rule : (Int × (Str × Str × Str) × Str × Bool)) (x_value : Int) (KM : Bool → Prop), vs = [v_rule, V.int x_value] ∧ Wd ms [] [] H H ∧ rep ms H (eRule A x_rule) v_rule ∧ M_is_size x_rule x_value KM ∧ ∀ (r : Bool) (u : V) (H1 : Hp), KM r → Ret [] H H1 → rep ms H1 (D.v (V.bl r)) u → Q u H1
set_option maxHeartbeats 16000000 in
theorem ok_is_size {P : Program} {w : World} {K : PySem.W.Frag} {mg : Str → Option Value} {base : Heap} {A : Ad} (T : Txt w K mg A) : FnOk P w K mg base CX0 5 A.a_is_size A.d_is_size ["rule", "value"] (sp_is_size A) := by
  refine T.F_is_size.ok sc_is_size (fun vs H Q E h => ?_) (fun cdv A_ outer s_ H_0 vs Q E hr h => ?_)
  · obtain ⟨ms, v_rule, x_rule, x_value, KM, rfl, _⟩ := h
    rfl
  · obtain ⟨ms, v_rule, x_rule, x_value, KM, rfl, hW, h_rule, hM, hQ⟩ := h
    unfold M_is_size at hM
    refine ⟨_, (pss_one (ps_ret (pe_and (pe_call (ok_is_integer T) (hr.mono (by decide)) (by rfl) T.g_is_integer T.F_is_integer.kp T.b_is_integer .nil pass0 (pa_cons (pv 1) pa_nil)) (pe_and (pe_cmpR op_ge (pv 1) (pe_prop (pv 0) T.cl_Rule T.p_Rule_least_size (ok_Rule_least_size T) (hr.mono (by decide)) T.b_Rule_least_size .nil pass0 rfl) (nomark _)) (pe_one (pe_cmpR op_eq (pe_op op_mod (pv 1) pe_int) pe_int (nomark _))))))), ?_⟩
    refine ⟨_, rfl, ?_⟩
    refine ⟨ms, x_value, _, rfl, hW.enter0, hM, fun r1 u4 H5 hM e3 h2 => ?_⟩
    replace h_rule := rep_ext e3 h_rule
    replace hW := hW.ret0 e3
    obtain rfl := of_v h2
    refine ⟨_, rfl, ?_⟩
    refine ite3 hM (fun hM => ?_) (fun hM => ?_)
    · skip
      refine ⟨_, rfl, ?_⟩
      refine ⟨_, rfl, ?_⟩
      apply rep_prop h_rule
      intro _ h6
      refine ⟨ms, _, x_rule, _, rfl, hW.enter0, h6, hM, fun r7 u10 H11 hM e9 h8 => ?_⟩
      replace h_rule := rep_ext e9 h_rule
      replace hW := hW.ret0 e9
      obtain rfl := of_v h8
      refine ⟨_, _, rfl, rfl, ?_⟩
      refine ⟨_, rfl, ?_⟩
      refine ite3 hM (fun hM => ?_) (fun hM => ?_)
      · skip
        refine ⟨_, rfl, ?_⟩
        refine ⟨_, _, rfl, rfl, (by show (0 : Int) < (2 : Int); decide), ?_⟩
        refine ⟨rfl, ?_⟩
        exact hQ (decide (V.int (x_value % (2 : Int)) = V.int (0 : Int))) _ _ hM hW.out rep_v
      · skip
        exact hQ false _ _ hM hW.out rep_v
    · skip
      exact hQ false _ _ hM hW.out rep_v
def M_check_size (x_rule : (Int × (Str × Str × Str) × Str × Bool)) (x_size : Int) (KM : Unit → Prop) : Prop :=
  (M_is_size x_rule x_size fun r1 => (if (!r1) = true then False else (KM ())))
def sp_check_size (A : Ad) : Sp := fun vs H Q _ => ∃ (ms : List Addr) (v_rule : V) (x_rule : (Int × (Str × Str × Str) × Str × Bool)) (x_size : Int) (KM : Unit → Prop), vs = [v_rule, V.int x_size] ∧ Wd ms [] [] H H ∧ rep ms H (eRule A x_rule) v_rule ∧ M_check_size x_rule x_size KM ∧ ∀ (r : Unit) (u : V) (H1 : Hp), KM r → Ret [] H H1 → rep ms H1 (D.v V.non) u → Q u H1
set_option maxHeartbeats 16000000 in
theorem ok_check_size {P : Program} {w : World} {K : PySem.W.Frag} {mg : Str → Option Value} {base : Heap} {A : Ad} (T : Txt w K mg A) : FnOk P w K mg base CX0 6 A.a_check_size A.d_check_size ["rule", "size"] (sp_check_size A) := by
  refine T.F_check_size.ok sc_check_size (fun vs H Q E h => ?_) (fun cdv A_ outer s_ H_0 vs Q E hr h => ?_)
  · obtain ⟨ms, v_rule, x_rule, x_size, KM, rfl, _⟩ := h
    rfl
  · obtain ⟨ms, v_rule, x_rule, x_size, KM, rfl, hW, h_rule, hM, hQ⟩ := h
    unfold M_check_size at hM
    refine ⟨_, (pss_one (ps_if (pt_not (pt_val (pe_call (ok_is_size T) (hr.mono (by decide)) (by rfl) T.g_is_size T.F_is_size.kp T.b_is_size .nil pass0 (pa_cons (pv 0) (pa_cons (pv 1) pa_nil))))) (pss_one ps_never) pss_nil)), ?_⟩
    refine ⟨_, rfl, ?_⟩
    refine ⟨_, rfl, ?_⟩
    refine ⟨ms, _, x_rule, x_size, _, rfl, hW.enter0, h_rule, hM, fun r1 u4 H5 hM e3 h2 => ?_⟩
    replace h_rule := rep_ext e3 h_rule
    replace hW := hW.ret0 e3
    obtain rfl := of_v h2
    refine ⟨_, rfl, ?_⟩
    refine ite3 hM (fun hM => ?_) (fun hM => ?_)
    · skip
      exact hM
    · skip
      exact hQ () _ _ hM hW.out rep_v
def M_is_count (x_value : Int) (KM : Bool → Prop) : Prop :=
  (M_is_integer x_value fun r1 => (if r1 = true then (KM (decide ((0 : Int) ≤ x_value))) else (KM false)))
def sp_is_count (A : Ad) : Sp := fun vs H Q _ => ∃ (ms : List Addr) (x_value : Int) (KM : Bool → Prop), vs = [V.int x_value] ∧ Wd ms [] [] H H ∧ M_is_count x_value KM ∧ ∀ (r : Bool) (u : V) (H1 : Hp), KM r → Ret [] H H1 → rep ms H1 (D.v (V.bl r)) u → Q u H1
set_option maxHeartbeats 16000000 in
theorem ok_is_count {P : Program} {w : World} {K : PySem.W.Frag} {mg : Str → Option Value} {base : Heap} {A : Ad} (T : Txt w K mg A) : FnOk P w K mg base CX0 2 A.a_is_count A.d_is_count ["value"] (sp_is_count A) := by
  refine T.F_is_count.ok sc_is_count (fun vs H Q E h => ?_) (fun cdv A_ outer s_ H_0 vs Q E hr h => ?_)
  · obtain ⟨ms, x_value, KM, rfl, _⟩ := h
    rfl
  · obtain ⟨ms, x_value, KM, rfl, hW, hM, hQ⟩ := h
    unfold M_is_count at hM
    refine ⟨_, (pss_one (ps_ret (pe_and (pe_call (ok_is_integer T) (hr.mono (by decide)) (by rfl) T.g_is_integer T.F_is_integer.kp T.b_is_integer .nil pass0 (pa_cons (pv 0) pa_nil)) (pe_one (pe_cmpR op_ge (pv 0) pe_int (nomark _)))))), ?_⟩
    refine ⟨_, rfl, ?_⟩
    refine ⟨ms, x_value, _, rfl, hW.enter0, hM, fun r1 u4 H5 hM e3 h2 => ?_⟩
    replace hW := hW.ret0 e3
    obtain rfl := of_v h2
    refine ⟨_, rfl, ?_⟩
    refine ite3 hM (fun hM => ?_) (fun hM => ?_)
    · skip
      refine ⟨_, rfl, ?_⟩
      refine ⟨_, _, rfl, rfl, ?_⟩
      exact hQ (decide ((0 : Int) ≤ x_value)) _ _ hM hW.out rep_v
    · skip
      exact hQ false _ _ hM hW.out rep_v
def M_check_team (x_team : Int) (x_teams : Int) (KM : Unit → Prop) : Prop :=
  (M_is_count x_team fun r1 => (if (!r1) = true then False else (if (decide (x_teams ≤ x_team)) = true then False else (KM ()))))
def sp_check_team (A : Ad) : Sp := fun vs H Q _ => ∃ (ms : List Addr) (x_team : Int) (x_teams : Int) (KM : Unit → Prop), vs = [V.int x_team, V.int x_teams] ∧ Wd ms [] [] H H ∧ M_check_team x_team x_teams KM ∧ ∀ (r : Unit) (u : V) (H1 : Hp), KM r → Ret [] H H1 → rep ms H1 (D.v V.non) u → Q u H1
set_option maxHeartbeats 16000000 in
theorem ok_check_team {P : Program} {w : World} {K : PySem.W.Frag} {mg : Str → Option Value} {base : Heap} {A : Ad} (T : Txt w K mg A) : FnOk P w K mg base CX0 3 A.a_check_team A.d_check_team ["team", "teams"] (sp_check_team A) := by
  refine T.F_check_team.ok sc_check_team (fun vs H Q E h => ?_) (fun cdv A_ outer s_ H_0 vs Q E hr h => ?_)
  · obtain ⟨ms, x_team, x_teams, KM, rfl, _⟩ := h
    rfl
  · obtain ⟨ms, x_team, x_teams, KM, rfl, hW, hM, hQ⟩ := h
    unfold M_check_team at hM
    refine ⟨_, (pss_one (ps_if (PW.pt (pw_or (pt_not (pt_val (pe_call (ok_is_count T) (hr.mono (by decide)) (by rfl) T.g_is_count T.F_is_count.kp T.b_is_count .nil pass0 (pa_cons (pv 0) pa_nil)))) (pw_or1 (pt_cmpR op_ge (pv 0) (pv 1) (nomark _))))) (pss_one ps_never) pss_nil)), ?_⟩
    refine ⟨_, rfl, ?_⟩
    refine ⟨ms, x_team, _, rfl, hW.enter0, hM, fun r1 u4 H5 hM e3 h2 => ?_⟩
    replace hW := hW.ret0 e3
    obtain rfl := of_v h2
    refine ⟨_, rfl, ?_⟩
    refine ite3 hM (fun hM => ?_) (fun hM => ?_)
    · skip
      refine iteT ?_
      exact hM
    · skip
      refine ⟨_, rfl, ?_⟩
      refine ⟨_, rfl, ?_⟩
      refine ⟨_, _, rfl, rfl, ?_⟩
      refine ⟨_, rfl, ?_⟩
      refine ite3 hM (fun hM => ?_) (fun hM => ?_)
      · skip
        exact hM
      · skip
        exact hQ () _ _ hM hW.out rep_v
def M_check_day (x_day : Int) (x_rounds : Int) (KM : Unit → Prop) : Prop :=
  (M_is_count x_day fun r1 => (if (!r1) = true then False else (if (decide (x_rounds ≤ x_day)) = true then False else (KM ()))))
def sp_check_day (A : Ad) : Sp := fun vs H Q _ => ∃ (ms : List Addr) (x_day : Int) (x_rounds : Int) (KM : Unit → Prop), vs = [V.int x_day, V.int x_rounds] ∧ Wd ms [] [] H H ∧ M_check_day x_day x_rounds KM ∧ ∀ (r : Unit) (u : V) (H1 : Hp), KM r → Ret [] H H1 → rep ms H1 (D.v V.non) u → Q u H1
set_option maxHeartbeats 16000000 in
theorem ok_check_day {P : Program} {w : World} {K : PySem.W.Frag} {mg : Str → Option Value} {base : Heap} {A : Ad} (T : Txt w K mg A) : FnOk P w K mg base CX0 3 A.a_check_day A.d_check_day ["day", "rounds"] (sp_check_day A) := by
  refine T.F_check_day.ok sc_check_day (fun vs H Q E h => ?_) (fun cdv A_ outer s_ H_0 vs Q E hr h => ?_)
  · obtain ⟨ms, x_day, x_rounds, KM, rfl, _⟩ := h
    rfl
  · obtain ⟨ms, x_day, x_rounds, KM, rfl, hW, hM, hQ⟩ := h
    unfold M_check_day at hM
    refine ⟨_, (pss_one (ps_if (PW.pt (pw_or (pt_not (pt_val (pe_call (ok_is_count T) (hr.mono (by decide)) (by rfl) T.g_is_count T.F_is_count.kp T.b_is_count .nil pass0 (pa_cons (pv 0) pa_nil)))) (pw_or1 (pt_cmpR op_ge (pv 0) (pv 1) (nomark _))))) (pss_one ps_never) pss_nil)), ?_⟩
    refine ⟨_, rfl, ?_⟩
    refine ⟨ms, x_day, _, rfl, hW.enter0, hM, fun r1 u4 H5 hM e3 h2 => ?_⟩
    replace hW := hW.ret0 e3
    obtain rfl := of_v h2
    refine ⟨_, rfl, ?_⟩
    refine ite3 hM (fun hM => ?_) (fun hM => ?_)
    · skip
      refine iteT ?_
      exact hM
    · skip
      refine ⟨_, rfl, ?_⟩
      refine ⟨_, rfl, ?_⟩
      refine ⟨_, _, rfl, rfl, ?_⟩
      refine ⟨_, rfl, ?_⟩
      refine ite3 hM (fun hM => ?_) (fun hM => ?_)
      · skip
        exact hM
      · skip
        exact hQ () _ _ hM hW.out rep_v
def M_Rule_step (x_self : (Int × (Str × Str × Str) × Str × Bool)) (KM : Int → Prop) : Prop :=
  (KM x_self.1)
def sp_Rule_step (A : Ad) : Sp := fun vs H Q _ => ∃ (ms : List Addr) (v_self : V) (x_self : (Int × (Str × Str × Str) × Str × Bool)) (KM : Int → Prop), vs = [v_self] ∧ Wd ms [] [] H H ∧ rep ms H (eRule A x_self) v_self ∧ M_Rule_step x_self KM ∧ ∀ (r : Int) (u : V) (H1 : Hp), KM r → Ret [] H H1 → rep ms H1 (D.v (V.int r)) u → Q u H1
set_option maxHeartbeats 16000000 in
theorem ok_Rule_step {P : Program} {w : World} {K : PySem.W.Frag} {mg : Str → Option Value} {base : Heap} {A : Ad} (T : Txt w K mg A) : FnOk P w K mg base CX0 1 A.a_Rule_step A.d_Rule_step ["self"] (sp_Rule_step A) := by
  refine T.F_Rule_step.ok sc_Rule_step (fun vs H Q E h => ?_) (fun cdv A_ outer s_ H_0 vs Q E hr h => ?_)
  · obtain ⟨ms, v_self, x_self, KM, rfl, _⟩ := h
    rfl
  · obtain ⟨ms, v_self, x_self, KM, rfl, hW, h_self, hM, hQ⟩ := h
    unfold M_Rule_step at hM
    refine ⟨_, (pss_one (ps_ret (pe_fld (pv 0) rfl))), ?_⟩
    refine ⟨_, rfl, ?_⟩
    apply rep_fld (j := 0) h_self T.cl_Rule T.na_Rule__step nd_Rule rfl rfl
    intro u2 h1
    obtain rfl := of_v h1
    exact hQ x_self.1 _ _ hM hW.out rep_v
def M_seatP (x_rule : (Int × (Str × Str × Str) × Str × Bool)) (x_size : Int) (x_team : Int) (x_day : Int) (KM : Int → Prop) : Prop :=
  (M_Rule_step x_rule fun r2 => (CMulW r2 x_day ∧ (0 < (x_size - (1 : Int)) ∧ (∃ KB9 : Int → Prop, (if (decide (((x_team - (r2 * x_day)) % (x_size - (1 : Int))) < (x_size / (2 : Int)))) = true then (KB9 ((x_team - (r2 * x_day)) % (x_size - (1 : Int)))) else (KB9 (((x_team - (r2 * x_day)) % (x_size - (1 : Int))) - (x_size - (1 : Int))))) ∧ ∀ r12 : Int, KB9 r12 → (KM r12)))))
def sp_seatP (A : Ad) : Sp := fun vs H Q _ => ∃ (ms : List Addr) (v_rule : V) (x_rule : (Int × (Str × Str × Str) × Str × Bool)) (x_size : Int) (x_team : Int) (x_day : Int) (KM : Int → Prop), vs = [v_rule, V.int x_size, V.int x_team, V.int x_day] ∧ Wd ms [] [] H H ∧ rep ms H (eRule A x_rule) v_rule ∧ M_seatP x_rule x_size x_team x_day KM ∧ ∀ (r : Int) (u : V) (H1 : Hp), KM r → Ret [] H H1 → rep ms H1 (D.v (V.int r)) u → Q u H1
set_option maxHeartbeats 16000000 in
theorem ok_seatP {P : Program} {w : World} {K : PySem.W.Frag} {mg : Str → Option Value} {base : Heap} {A : Ad} (T : Txt w K mg A) : FnOk P w K mg base CX0 3 A.a_seatP A.d_seatP ["rule", "size", "team", "day"] (sp_seatP A) := by
  refine T.F_seatP.ok sc_seatP (fun vs H Q E h => ?_) (fun cdv A_ outer s_ H_0 vs Q E hr h => ?_)
  · obtain ⟨ms, v_rule, x_rule, x_size, x_team, x_day, KM, rfl, _⟩ := h
    rfl
  · obtain ⟨ms, v_rule, x_rule, x_size, x_team, x_day, KM, rfl, hW, h_rule, hM, hQ⟩ := h
    unfold M_seatP at hM
    refine ⟨_, (pss_cons (ps_set (i := 4) sc_seatP.nd rfl (by first | exact Or.inl rfl | exact Or.inr rfl) (pe_op op_mod (pe_op op_sub (pv 2) (pe_op op_mulW (pe_prop (pv 0) T.cl_Rule T.p_Rule_step (ok_Rule_step T) (hr.mono (by decide)) T.b_Rule_step .nil pass0 rfl) (pv 3))) (pe_op op_sub (pv 1) pe_int))) (pss_one (ps_ret (pe_up (pe_ifExp (pt_cmpR op_lt (pv 4) (pe_op op_fdivW (pv 1) pe_int) (nomark _)) (pv 4) (pe_op op_sub (pv 4) (pe_op op_sub (pv 1) pe_int))))))), ?_⟩
    refine ⟨_, rfl, ?_⟩
    refine ⟨_, rfl, ?_⟩
    apply rep_prop h_rule
    intro _ h1
    refine ⟨ms, _, x_rule, _, rfl, hW.enter0, h1, hM, fun r2 u5 H6 hM e4 h3 => ?_⟩
    replace h_rule := rep_ext e4 h_rule
    replace hW := hW.ret0 e4
    obtain rfl := of_v h3
    refine ⟨_, rfl, ?_⟩
    obtain ⟨g7, hM⟩ := hM
    refine ⟨_, _, rfl, rfl, g7, ?_⟩
    refine ⟨_, _, rfl, rfl, ?_⟩
    refine ⟨_, rfl, ?_⟩
    refine ⟨_, _, rfl, rfl, ?_⟩
    obtain ⟨g8, hM⟩ := hM
    refine ⟨_, _, rfl, rfl, g8, ?_⟩
    obtain ⟨KB9, hM, hKKB9⟩ := hM
    refine ⟨fun v H1 => ∃ r : Int, KB9 r ∧ Wd ms [] [] H_0 H1 ∧ Keep ms H6 H1 ∧ rep ms H1 (D.v (V.int r)) v, ?_, ?_⟩
    · skip
      have hj11 := Keep.refl (ms := ms) (H := H6)
      refine ⟨_, rfl, ?_⟩
      refine ⟨_, rfl, ?_⟩
      refine ⟨_, _, rfl, rfl, ⟨by decide, by decide⟩, ?_⟩
      refine ⟨_, _, rfl, rfl, ?_⟩
      refine ⟨_, rfl, ?_⟩
      refine ite3 hM (fun hM => ?_) (fun hM => ?_)
      · skip
        refine ⟨_, rfl, ?_⟩
        exact ⟨((x_team - (r2 * x_day)) % (x_size - (1 : Int))), hM, hW, hj11, rep_v⟩
      · skip
        refine ⟨_, rfl, ?_⟩
        refine ⟨_, rfl, ?_⟩
        refine ⟨_, _, rfl, rfl, ?_⟩
        refine ⟨_, _, rfl, rfl, ?_⟩
        exact ⟨(((x_team - (r2 * x_day)) % (x_size - (1 : Int))) - (x_size - (1 : Int))), hM, hW, hj11, rep_v⟩
    · skip
      rintro u14 Hj10 ⟨r12, hr, hW, hj11, h13⟩
      replace hM := hKKB9 r12 hr
      replace h_rule := rep_keep hj11 h_rule
      obtain rfl := of_v h13
      exact hQ r12 _ _ hM hW.out rep_v
def M_seat (x_rule : (Int × (Str × Str × Str) × Str × Bool)) (x_size : Int) (x_team : Int) (x_day : Int) (KM : Int → Prop) : Prop :=
  (M_check_size x_rule x_size fun r1 => (M_check_team x_team (x_size - (1 : Int)) fun r6 => (M_check_day x_day (x_size - (1 : Int)) fun r11 => (M_seatP x_rule x_size x_team x_day fun r16 => (KM r16)))))
def sp_seat (A : Ad) : Sp := fun vs H Q _ => ∃ (ms : List Addr) (v_rule : V) (x_rule : (Int × (Str × Str × Str) × Str × Bool)) (x_size : Int) (x_team : Int) (x_day : Int) (KM : Int → Prop), vs = [v_rule, V.int x_size, V.int x_team, V.int x_day] ∧ Wd ms [] [] H H ∧ rep ms H (eRule A x_rule) v_rule ∧ M_seat x_rule x_size x_team x_day KM ∧ ∀ (r : Int) (u : V) (H1 : Hp), KM r → Ret [] H H1 → rep ms H1 (D.v (V.int r)) u → Q u H1
set_option maxHeartbeats 16000000 in
theorem ok_seat {P : Program} {w : World} {K : PySem.W.Frag} {mg : Str → Option Value} {base : Heap} {A : Ad} (T : Txt w K mg A) : FnOk P w K mg base CX0 7 A.a_seat A.d_seat ["rule", "size", "team", "day"] (sp_seat A) := by
  refine T.F_seat.ok sc_seat (fun vs H Q E h => ?_) (fun cdv A_ outer s_ H_0 vs Q E hr h => ?_)
  · obtain ⟨ms, v_rule, x_rule, x_size, x_team, x_day, KM, rfl, _⟩ := h
    rfl
  · obtain ⟨ms, v_rule, x_rule, x_size, x_team, x_day, KM, rfl, hW, h_rule, hM, hQ⟩ := h
    unfold M_seat at hM
    refine ⟨_, (pss_cons (ps_expr (pe_call (ok_check_size T) (hr.mono (by decide)) (by rfl) T.g_check_size T.F_check_size.kp T.b_check_size .nil pass0 (pa_cons (pv 0) (pa_cons (pv 1) pa_nil)))) (pss_cons (ps_expr (pe_call (ok_check_team T) (hr.mono (by decide)) (by rfl) T.g_check_team T.F_check_team.kp T.b_check_team .nil pass0 (pa_cons (pv 2) (pa_cons (pe_op op_sub (pv 1) pe_int) pa_nil)))) (pss_cons (ps_expr (pe_call (ok_check_day T) (hr.mono (by decide)) (by rfl) T.g_check_day T.F_check_day.kp T.b_check_day .nil pass0 (pa_cons (pv 3) (pa_cons (pe_op op_sub (pv 1) pe_int) pa_nil)))) (pss_one (ps_ret (pe_call (ok_seatP T) (hr.mono (by decide)) (by rfl) T.g_seatP T.F_seatP.kp T.b_seatP .nil pass0 (pa_cons (pv 0) (pa_cons (pv 1) (pa_cons (pv 2) (pa_cons (pv 3) pa_nil)))))))))), ?_⟩
    refine ⟨_, rfl, ?_⟩
    refine ⟨_, rfl, ?_⟩
    refine ⟨ms, _, x_rule, x_size, _, rfl, hW.enter0, h_rule, hM, fun r1 u4 H5 hM e3 h2 => ?_⟩
    replace h_rule := rep_ext e3 h_rule
    replace hW := hW.ret0 e3
    obtain rfl := of_v h2
    refine ⟨_, rfl, ?_⟩
    refine ⟨_, rfl, ?_⟩
    refine ⟨_, _, rfl, rfl, ?_⟩
    refine ⟨ms, x_team, (x_size - (1 : Int)), _, rfl, hW.enter0, hM, fun r6 u9 H10 hM e8 h7 => ?_⟩
    replace h_rule := rep_ext e8 h_rule
    replace hW := hW.ret0 e8
    obtain rfl := of_v h7
    refine ⟨_, rfl, ?_⟩
    refine ⟨_, rfl, ?_⟩
    refine ⟨_, _, rfl, rfl, ?_⟩
    refine ⟨ms, x_day, (x_size - (1 : Int)), _, rfl, hW.enter0, hM, fun r11 u14 H15 hM e13 h12 => ?_⟩
    replace h_rule := rep_ext e13 h_rule
    replace hW := hW.ret0 e13
    obtain rfl := of_v h12
    refine ⟨_, rfl, ?_⟩
    refine ⟨_, rfl, ?_⟩
    refine ⟨_, rfl, ?_⟩
    refine ⟨_, rfl, ?_⟩
    refine ⟨ms, _, x_rule, x_size, x_team, x_day, _, rfl, hW.enter0, h_rule, hM, fun r16 u19 H20 hM e18 h17 => ?_⟩
    replace h_rule := rep_ext e18 h_rule
    replace hW := hW.ret0 e18
    obtain rfl := of_v h17
    exact hQ r16 _ _ hM hW.out rep_v
def M_check (x_rule : (Int × (Str × Str × Str) × Str × Bool)) (x_size : Int) (x_team : Int) (x_day : Int) (KM : Unit → Prop) : Prop :=
  (M_check_size x_rule x_size fun r1 => (M_check_team x_team x_size fun r6 => (M_check_day x_day (x_size - (1 : Int)) fun r11 => (KM ()))))
def sp_check (A : Ad) : Sp := fun vs H Q _ => ∃ (ms : List Addr) (v_rule : V) (x_rule : (Int × (Str × Str × Str) × Str × Bool)) (x_size : Int) (x_team : Int) (x_day : Int) (KM : Unit → Prop), vs = [v_rule, V.int x_size, V.int x_team, V.int x_day] ∧ Wd ms [] [] H H ∧ rep ms H (eRule A x_rule) v_rule ∧ M_check x_rule x_size x_team x_day KM ∧ ∀ (r : Unit) (u : V) (H1 : Hp), KM r → Ret [] H H1 → rep ms H1 (D.v V.non) u → Q u H1
set_option maxHeartbeats 16000000 in
theorem ok_check {P : Program} {w : World} {K : PySem.W.Frag} {mg : Str → Option Value} {base : Heap} {A : Ad} (T : Txt w K mg A) : FnOk P w K mg base CX0 7 A.a_check A.d_check ["rule", "size", "team", "day"] (sp_check A) := by
  refine T.F_check.ok sc_check (fun vs H Q E h => ?_) (fun cdv A_ outer s_ H_0 vs Q E hr h => ?_)
  · obtain ⟨ms, v_rule, x_rule, x_size, x_team, x_day, KM, rfl, _⟩ := h
    rfl
  · obtain ⟨ms, v_rule, x_rule, x_size, x_team, x_day, KM, rfl, hW, h_rule, hM, hQ⟩ := h
    unfold M_check at hM
    refine ⟨_, (pss_cons (ps_expr (pe_call (ok_check_size T) (hr.mono (by decide)) (by rfl) T.g_check_size T.F_check_size.kp T.b_check_size .nil pass0 (pa_cons (pv 0) (pa_cons (pv 1) pa_nil)))) (pss_cons (ps_expr (pe_call (ok_check_team T) (hr.mono (by decide)) (by rfl) T.g_check_team T.F_check_team.kp T.b_check_team .nil pass0 (pa_cons (pv 2) (pa_cons (pv 1) pa_nil)))) (pss_one (ps_expr (pe_call (ok_check_day T) (hr.mono (by decide)) (by rfl) T.g_check_day T.F_check_day.kp T.b_check_day .nil pass0 (pa_cons (pv 3) (pa_cons (pe_op op_sub (pv 1) pe_int) pa_nil))))))), ?_⟩
    refine ⟨_, rfl, ?_⟩
    refine ⟨_, rfl, ?_⟩
    refine ⟨ms, _, x_rule, x_size, _, rfl, hW.enter0, h_rule, hM, fun r1 u4 H5 hM e3 h2 => ?_⟩
    replace h_rule := rep_ext e3 h_rule
    replace hW := hW.ret0 e3
    obtain rfl := of_v h2
    refine ⟨_, rfl, ?_⟩
    refine ⟨_, rfl, ?_⟩
    refine ⟨ms, x_team, x_size, _, rfl, hW.enter0, hM, fun r6 u9 H10 hM e8 h7 => ?_⟩
    replace h_rule := rep_ext e8 h_rule
    replace hW := hW.ret0 e8
    obtain rfl := of_v h7
    refine ⟨_, rfl, ?_⟩
    refine ⟨_, rfl, ?_⟩
    refine ⟨_, _, rfl, rfl, ?_⟩
    refine ⟨ms, x_day, (x_size - (1 : Int)), _, rfl, hW.enter0, hM, fun r11 u14 H15 hM e13 h12 => ?_⟩
    replace h_rule := rep_ext e13 h_rule
    replace hW := hW.ret0 e13
    obtain rfl := of_v h12
    exact hQ () _ _ hM hW.out rep_v
def M_opponent (x_rule : (Int × (Str × Str × Str) × Str × Bool)) (x_size : Int) (x_team : Int) (x_day : Int) (KM : Int → Prop) : Prop :=
  (M_check x_rule x_size x_team x_day fun r1 => (if (decide (V.int x_team = V.int (x_size - (1 : Int)))) = true then (M_Rule_step x_rule fun r7 => (CMulW r7 x_day ∧ (0 < (x_size - (1 : Int)) ∧ (KM ((r7 * x_day) % (x_size - (1 : Int))))))) else (M_Rule_step x_rule fun r15 => (CMulW ((2 : Int) * r15) x_day ∧ (0 < (x_size - (1 : Int)) ∧ (∃ KB22 : Int → Prop, (if (decide (V.int (((((2 : Int) * r15) * x_day) - x_team) % (x_size - (1 : Int))) = V.int x_team)) = true then (KB22 (x_size - (1 : Int))) else (KB22 (((((2 : Int) * r15) * x_day) - x_team) % (x_size - (1 : Int))))) ∧ ∀ r25 : Int, KB22 r25 → (KM r25)))))))
def sp_opponent (A : Ad) : Sp := fun vs H Q _ => ∃ (ms : List Addr) (v_rule : V) (x_rule : (Int × (Str × Str × Str) × Str × Bool)) (x_size : Int) (x_team : Int) (x_day : Int) (KM : Int → Prop), vs = [v_rule, V.int x_size, V.int x_team, V.int x_day] ∧ Wd ms [] [] H H ∧ rep ms H (eRule A x_rule) v_rule ∧ M_opponent x_rule x_size x_team x_day KM ∧ ∀ (r : Int) (u : V) (H1 : Hp), KM r → Ret [] H H1 → rep ms H1 (D.v (V.int r)) u → Q u H1
set_option maxHeartbeats 16000000 in
theorem ok_opponent {P : Program} {w : World} {K : PySem.W.Frag} {mg : Str → Option Value} {base : Heap} {A : Ad} (T : Txt w K mg A) : FnOk P w K mg base CX0 8 A.a_opponent A.d_opponent ["rule", "size", "team", "day"] (sp_opponent A) := by
  refine T.F_opponent.ok sc_opponent (fun vs H Q E h => ?_) (fun cdv A_ outer s_ H_0 vs Q E hr h => ?_)
  · obtain ⟨ms, v_rule, x_rule, x_size, x_team, x_day, KM, rfl, _⟩ := h
    rfl
  · obtain ⟨ms, v_rule, x_rule, x_size, x_team, x_day, KM, rfl, hW, h_rule, hM, hQ⟩ := h
    unfold M_opponent at hM
    refine ⟨_, (pss_cons (ps_expr (pe_call (ok_check T) (hr.mono (by decide)) (by rfl) T.g_check T.F_check.kp T.b_check .nil pass0 (pa_cons (pv 0) (pa_cons (pv 1) (pa_cons (pv 2) (pa_cons (pv 3) pa_nil)))))) (pss_cons (ps_if (pt_cmpR op_eq (pv 2) (pe_op op_sub (pv 1) pe_int) (nomark _)) (pss_one (ps_ret (pe_op op_mod (pe_op op_mulW (pe_prop (pv 0) T.cl_Rule T.p_Rule_step (ok_Rule_step T) (hr.mono (by decide)) T.b_Rule_step .nil pass0 rfl) (pv 3)) (pe_op op_sub (pv 1) pe_int)))) pss_nil) (pss_cons (ps_set (i := 4) sc_opponent.nd rfl (by first | exact Or.inl rfl | exact Or.inr rfl) (pe_op op_mod (pe_op op_sub (pe_op op_mulW (pe_op op_mul pe_int (pe_prop (pv 0) T.cl_Rule T.p_Rule_step (ok_Rule_step T) (hr.mono (by decide)) T.b_Rule_step .nil pass0 rfl)) (pv 3)) (pv 2)) (pe_op op_sub (pv 1) pe_int))) (pss_one (ps_ret (pe_up (pe_ifExp (pt_cmpR op_eq (pv 4) (pv 2) (nomark _)) (pe_op op_sub (pv 1) pe_int) (pv 4)))))))), ?_⟩
    refine ⟨_, rfl, ?_⟩
    refine ⟨_, rfl, ?_⟩
    refine ⟨_, rfl, ?_⟩
    refine ⟨_, rfl, ?_⟩
    refine ⟨ms, _, x_rule, x_size, x_team, x_day, _, rfl, hW.enter0, h_rule, hM, fun r1 u4 H5 hM e3 h2 => ?_⟩
    replace h_rule := rep_ext e3 h_rule
    replace hW := hW.ret0 e3
    obtain rfl := of_v h2
    refine ⟨_, rfl, ?_⟩
    refine ⟨_, rfl, ?_⟩
    refine ⟨_, _, rfl, rfl, ?_⟩
    refine ⟨rfl, ?_⟩
    refine ⟨_, rfl, ?_⟩
    refine ite3 hM (fun hM => ?_) (fun hM => ?_)
    · skip
      refine ⟨_, rfl, ?_⟩
      apply rep_prop h_rule
      intro _ h6
      refine ⟨ms, _, x_rule, _, rfl, hW.enter0, h6, hM, fun r7 u10 H11 hM e9 h8 => ?_⟩
      replace h_rule := rep_ext e9 h_rule
      replace hW := hW.ret0 e9
      obtain rfl := of_v h8
      refine ⟨_, rfl, ?_⟩
      obtain ⟨g12, hM⟩ := hM
      refine ⟨_, _, rfl, rfl, g12, ?_⟩
      refine ⟨_, rfl, ?_⟩
      refine ⟨_, _, rfl, rfl, ?_⟩
      obtain ⟨g13, hM⟩ := hM
      refine ⟨_, _, rfl, rfl, g13, ?_⟩
      exact hQ ((r7 * x_day) % (x_size - (1 : Int))) _ _ hM hW.out rep_v
    · skip
      refine ⟨_, rfl, ?_⟩
      apply rep_prop h_rule
      intro _ h14
      refine ⟨ms, _, x_rule, _, rfl, hW.enter0, h14, hM, fun r15 u18 H19 hM e17 h16 => ?_⟩
      replace h_rule := rep_ext e17 h_rule
      replace hW := hW.ret0 e17
      obtain rfl := of_v h16
      refine ⟨_, _, rfl, rfl, .inl ⟨by decide, by decide⟩, ?_⟩
      refine ⟨_, rfl, ?_⟩
      obtain ⟨g20, hM⟩ := hM
      refine ⟨_, _, rfl, rfl, g20, ?_⟩
      refine ⟨_, rfl, ?_⟩
      refine ⟨_, _, rfl, rfl, ?_⟩
      refine ⟨_, rfl, ?_⟩
      refine ⟨_, _, rfl, rfl, ?_⟩
      obtain ⟨g21, hM⟩ := hM
      refine ⟨_, _, rfl, rfl, g21, ?_⟩
      obtain ⟨KB22, hM, hKKB22⟩ := hM
      refine ⟨fun v H1 => ∃ r : Int, KB22 r ∧ Wd ms [] [] H_0 H1 ∧ Keep ms H19 H1 ∧ rep ms H1 (D.v (V.int r)) v, ?_, ?_⟩
      · skip
        have hj24 := Keep.refl (ms := ms) (H := H19)
        refine ⟨_, rfl, ?_⟩
        refine ⟨_, rfl, ?_⟩
        refine ⟨rfl, ?_⟩
        refine ⟨_, rfl, ?_⟩
        refine ite3 hM (fun hM => ?_) (fun hM => ?_)
        · skip
          refine ⟨_, rfl, ?_⟩
          refine ⟨_, _, rfl, rfl, ?_⟩
          exact ⟨(x_size - (1 : Int)), hM, hW, hj24, rep_v⟩
        · skip
          refine ⟨_, rfl, ?_⟩
          exact ⟨(((((2 : Int) * r15) * x_day) - x_team) % (x_size - (1 : Int))), hM, hW, hj24, rep_v⟩
      · skip
        rintro u27 Hj23 ⟨r25, hr, hW, hj24, h26⟩
        replace hM := hKKB22 r25 hr
        replace h_rule := rep_keep hj24 h_rule
        obtain rfl := of_v h26
        exact hQ r25 _ _ hM hW.out rep_v
def M_Rule_stander (x_self : (Int × (Str × Str × Str) × Str × Bool)) (KM : Str → Prop) : Prop :=
  (KM x_self.2.2.1)
def sp_Rule_stander (A : Ad) : Sp := fun vs H Q _ => ∃ (ms : List Addr) (v_self : V) (x_self : (Int × (Str × Str × Str) × Str × Bool)) (KM : Str → Prop), vs = [v_self] ∧ Wd ms [] [] H H ∧ rep ms H (eRule A x_self) v_self ∧ M_Rule_stander x_self KM ∧ ∀ (r : Str) (u : V) (H1 : Hp), KM r → Ret [] H H1 → rep ms H1 (D.v (V.str r)) u → Q u H1
set_option maxHeartbeats 16000000 in
theorem ok_Rule_stander {P : Program} {w : World} {K : PySem.W.Frag} {mg : Str → Option Value} {base : Heap} {A : Ad} (T : Txt w K mg A) : FnOk P w K mg base CX0 1 A.a_Rule_stander A.d_Rule_stander ["self"] (sp_Rule_stander A) := by
  refine T.F_Rule_stander.ok sc_Rule_stander (fun vs H Q E h => ?_) (fun cdv A_ outer s_ H_0 vs Q E hr h => ?_)
  · obtain ⟨ms, v_self, x_self, KM, rfl, _⟩ := h
    rfl
  · obtain ⟨ms, v_self, x_self, KM, rfl, hW, h_self, hM, hQ⟩ := h
    unfold M_Rule_stander at hM
    refine ⟨_, (pss_one (ps_ret (pe_fld (pv 0) rfl))), ?_⟩
    refine ⟨_, rfl, ?_⟩
    apply rep_fld (j := 2) h_self T.cl_Rule T.na_Rule__stander nd_Rule rfl rfl
    intro u2 h1
    obtain rfl := of_v h1
    exact hQ x_self.2.2.1 _ _ hM hW.out rep_v
def M_stander_mark (x_rule : (Int × (Str × Str × Str) × Str × Bool)) (x_day : Int) (KM : Str → Prop) : Prop :=
  (M_Rule_stander x_rule fun r2 => (∃ c7 : Str, wd_STANDER_MARKS.lookup r2 = some c7 ∧ (c7.length ≤ sizeLine ∧ ∃ c10, atI c7.cps.toList (x_day % (2 : Int)) = some c10 ∧ (KM (Str.mk #[c10])))))
def sp_stander_mark (A : Ad) : Sp := fun vs H Q _ => ∃ (ms : List Addr) (v_rule : V) (x_rule : (Int × (Str × Str × Str) × Str × Bool)) (x_day : Int) (KM : Str → Prop), vs = [v_rule, V.int x_day] ∧ Wd ms [] [] H H ∧ rep ms H (eRule A x_rule) v_rule ∧ M_stander_mark x_rule x_day KM ∧ ∀ (r : Str) (u : V) (H1 : Hp), KM r → Ret [] H H1 → rep ms H1 (D.v (V.str r)) u → Q u H1
set_option maxHeartbeats 16000000 in
theorem ok_stander_mark {P : Program} {w : World} {K : PySem.W.Frag} {mg : Str → Option Value} {base : Heap} {A : Ad} (T : Txt w K mg A) : FnOk P w K mg base CX0 3 A.a_stander_mark A.d_stander_mark ["rule", "day"] (sp_stander_mark A) := by
  refine T.F_stander_mark.ok sc_stander_mark (fun vs H Q E h => ?_) (fun cdv A_ outer s_ H_0 vs Q E hr h => ?_)
  · obtain ⟨ms, v_rule, x_rule, x_day, KM, rfl, _⟩ := h
    rfl
  · obtain ⟨ms, v_rule, x_rule, x_day, KM, rfl, hW, h_rule, hM, hQ⟩ := h
    unfold M_stander_mark at hM
    refine ⟨_, (pss_one (ps_ret (pe_ix ix_str (pe_ix (ix_kdictW (K := K) (w := w) rfl rfl) (pe_glob (v := .ref A.wd_STANDER_MARKS) (by rfl) T.g_STANDER_MARKS rfl) (pe_prop (pv 0) T.cl_Rule T.p_Rule_stander (ok_Rule_stander T) (hr.mono (by decide)) T.b_Rule_stander .nil pass0 rfl) (fun _ _ => rfl)) (pe_op op_mod (pv 1) pe_int) (fun _ _ => rfl)))), ?_⟩
    refine ⟨_, rfl, ?_⟩
    apply rep_prop h_rule
    intro _ h1
    refine ⟨ms, _, x_rule, _, rfl, hW.enter0, h1, hM, fun r2 u5 H6 hM e4 h3 => ?_⟩
    replace h_rule := rep_ext e4 h_rule
    replace hW := hW.ret0 e4
    obtain rfl := of_v h3
    obtain ⟨c7, h8, hM⟩ := hM
    apply rep_ixD T.kd_STANDER_MARKS h8
    refine ⟨_, rfl, ?_⟩
    refine ⟨_, _, rfl, rfl, (by show (0 : Int) < (2 : Int); decide), ?_⟩
    obtain ⟨g9, hM⟩ := hM
    obtain ⟨c10, c10h, hM⟩ := hM
    refine ⟨_, _, _, rfl, rfl, g9, c10h, ?_⟩
    exact hQ (Str.mk #[c10]) _ _ hM hW.out rep_v
def M_contrary_marks (x_marks : Str) (KM : Str → Prop) : Prop :=
  ((Rx.signs x_marks).length < 100000 ∧ mapC (fun (x12 : Str) (k5 : Str → Prop) => (∃ c18 : Str, wd_CONTRARIES.lookup x12 = some c18 ∧ (k5 c18))) (Rx.signs x_marks) [] fun ys25 => ((ys25.map (·.length)).sum + ys25.length * ("" : Str).length ≤ 16777216 ∧ (KM (Txt.join ("" : Str) ys25))))
def sp_contrary_marks (A : Ad) : Sp := fun vs H Q _ => ∃ (ms : List Addr) (x_marks : Str) (KM : Str → Prop), vs = [V.str x_marks] ∧ Wd ms [] [] H H ∧ M_contrary_marks x_marks KM ∧ ∀ (r : Str) (u : V) (H1 : Hp), KM r → Ret [] H H1 → rep ms H1 (D.v (V.str r)) u → Q u H1
set_option maxHeartbeats 16000000 in
theorem ok_contrary_marks {P : Program} {w : World} {K : PySem.W.Frag} {mg : Str → Option Value} {base : Heap} {A : Ad} (T : Txt w K mg A) : FnOk P w K mg base CX0 1 A.a_contrary_marks A.d_contrary_marks ["marks"] (sp_contrary_marks A) := by
  refine T.F_contrary_marks.ok sc_contrary_marks (fun vs H Q E h => ?_) (fun cdv A_ outer s_ H_0 vs Q E hr h => ?_)
  · obtain ⟨ms, x_marks, KM, rfl, _⟩ := h
    rfl
  · obtain ⟨ms, x_marks, KM, rfl, hW, hM, hQ⟩ := h
    unfold M_contrary_marks at hM
    refine ⟨_, (pss_one (ps_ret (pe_join pe_str (pe_lc (own := [("mark", 1)]) (g := gName 1) rfl sc_contrary_marks.nd (pi_str (pv 0)) (blkOk_by (N := ["marks", "mark"]) (sc := defScope s_contrary_marks) (by decide +kernel)) (fun _ _ _ _ _ => pg_name (i := 1) sc_contrary_marks.nd rfl (by first | exact Or.inl rfl | exact Or.inr rfl)) (fun _ _ _ _ _ => pts_nil) (fun _ _ _ _ _ => (pe_ix (ix_kdictW (K := K) (w := w) rfl rfl) (pe_glob (v := .ref A.wd_CONTRARIES) (by rfl) T.g_CONTRARIES rfl) (pv 1) (fun _ _ => rfl))))))), ?_⟩
    refine ⟨⟨_, rfl⟩, ?_⟩
    refine ⟨_, rfl, ?_⟩
    refine ⟨_, rfl, ?_⟩
    refine fun L1 nl2 => ?_
    have nm16 := nm_new hW nl2
    refine lc_strG (L := L1) (fun n_ ys_ h_ => Wd (L1 :: ms) [] [] H_0 h_ ∧ Keep (L1 :: ms) H_0 h_ ∧ MutO (L1 :: ms) [] H_0 h_ L1 (D.lst (ys_.map (fun y_ : Str => (D.v (V.str y_))))) ∧ ys_.length ≤ n_) hM ⟨wd_cell hW nl2, keep_cell nl2 Keep.refl, mo_newL (ds := []) hW nl2 repL_nil, Nat.le_refl _⟩ ?_ ?_
    · skip
      rintro x12  n3 ys4 k5 H17 hn ⟨hW, hk6, mu7, ln8⟩ hM Nx11 hN9
      refine ⟨rfl, ?_⟩
      refine tyes_of ?_
      refine ⟨_, rfl, ?_⟩
      obtain ⟨c18, h19, hM⟩ := hM
      apply rep_ixD T.kd_CONTRARIES h19
      refine mo_end mu7 hn (by rw [List.length_map]; exact ln8) fun vs20 hr21 => ?_
      have mk23 := mo_setL mu7 (repL_snoc (e := (fun y_ : Str => (D.v (V.str y_)))) (xs := ys4) (y := c18) hr21 rep_v)
      replace hk6 := keep_put (o := .lst (vs20 ++ [V.str c18])) mu7.im hk6
      replace hW := wd_put (o := .lst (vs20 ++ [V.str c18])) hW mu7
      replace mu7 := mk23
      generalize upd H17 L1 (.lst (vs20 ++ [V.str c18])) = H24 at *
      replace mu7 : MutO (L1 :: ms) [] H_0 H24 L1 (D.lst ((ys4 ++ [c18]).map (fun y_ : Str => (D.v (V.str y_))))) := mu7
      clear mk23
      exact hN9 c18 _ hM ⟨hW, hk6, mu7, by rw [List.length_append]; exact Nat.add_le_add_right ln8 1⟩
    · skip
      rintro n3 ys25 H26 hM ⟨hW, hk6, mu7, ln8⟩
      clear hk6 ln8
      have h27 := mo_rep_dr dr_here nm16 mu7
      replace hW := wd_dr dr_here mu7.hp hW
      clear mu7
      obtain ⟨g28, hM⟩ := hM
      apply rep_join (a := ("" : Str)) (ys := ys25) h27 g28
      exact hQ (Txt.join ("" : Str) ys25) _ _ hM hW.out rep_v
def M_Rule_word (x_self : (Int × (Str × Str × Str) × Str × Bool)) (KM : (Str × Str × Str) → Prop) : Prop :=
  (KM x_self.2.1)
def sp_Rule_word (A : Ad) : Sp := fun vs H Q _ => ∃ (ms : List Addr) (v_self : V) (x_self : (Int × (Str × Str × Str) × Str × Bool)) (KM : (Str × Str × Str) → Prop), vs = [v_self] ∧ Wd ms [] [] H H ∧ rep ms H (eRule A x_self) v_self ∧ M_Rule_word x_self KM ∧ ∀ (r : (Str × Str × Str)) (u : V) (H1 : Hp), KM r → Ret [] H H1 → rep ms H1 (eWord A r) u → Q u H1
set_option maxHeartbeats 16000000 in
theorem ok_Rule_word {P : Program} {w : World} {K : PySem.W.Frag} {mg : Str → Option Value} {base : Heap} {A : Ad} (T : Txt w K mg A) : FnOk P w K mg base CX0 1 A.a_Rule_word A.d_Rule_word ["self"] (sp_Rule_word A) := by
  refine T.F_Rule_word.ok sc_Rule_word (fun vs H Q E h => ?_) (fun cdv A_ outer s_ H_0 vs Q E hr h => ?_)
  · obtain ⟨ms, v_self, x_self, KM, rfl, _⟩ := h
    rfl
  · obtain ⟨ms, v_self, x_self, KM, rfl, hW, h_self, hM, hQ⟩ := h
    unfold M_Rule_word at hM
    refine ⟨_, (pss_one (ps_ret (pe_fld (pv 0) rfl))), ?_⟩
    refine ⟨_, rfl, ?_⟩
    apply rep_fld (j := 1) h_self T.cl_Rule T.na_Rule__word nd_Rule rfl rfl
    intro u2 h1
    exact hQ x_self.2.1 _ _ hM hW.out h1
def M_check_places (x_word : (Str × Str × Str)) (x_places : Int) (KM : Unit → Prop) : Prop :=
  (M_is_integer x_places fun r1 => (if (!r1) = true then False else (M_Word_least x_word fun r7 => (if (decide (x_places < r7)) = true then False else (KM ())))))
def sp_check_places (A : Ad) : Sp := fun vs H Q _ => ∃ (ms : List Addr) (v_word : V) (x_word : (Str × Str × Str)) (x_places : Int) (KM : Unit → Prop), vs = [v_word, V.int x_places] ∧ Wd ms [] [] H H ∧ rep ms H (eWord A x_word) v_word ∧ M_check_places x_word x_places KM ∧ ∀ (r : Unit) (u : V) (H1 : Hp), KM r → Ret [] H H1 → rep ms H1 (D.v V.non) u → Q u H1
set_option maxHeartbeats 16000000 in
theorem ok_check_places {P : Program} {w : World} {K : PySem.W.Frag} {mg : Str → Option Value} {base : Heap} {A : Ad} (T : Txt w K mg A) : FnOk P w K mg base CX0 3 A.a_check_places A.d_check_places ["word", "places"] (sp_check_places A) := by
  refine T.F_check_places.ok sc_check_places (fun vs H Q E h => ?_) (fun cdv A_ outer s_ H_0 vs Q E hr h => ?_)
  · obtain ⟨ms, v_word, x_word, x_places, KM, rfl, _⟩ := h
    rfl
  · obtain ⟨ms, v_word, x_word, x_places, KM, rfl, hW, h_word, hM, hQ⟩ := h
    unfold M_check_places at hM
    refine ⟨_, (pss_one (ps_if (PW.pt (pw_or (pt_not (pt_val (pe_call (ok_is_integer T) (hr.mono (by decide)) (by rfl) T.g_is_integer T.F_is_integer.kp T.b_is_integer .nil pass0 (pa_cons (pv 1) pa_nil)))) (pw_or1 (pt_cmpR op_lt (pv 1) (pe_prop (pv 0) T.cl_Word T.p_Word_least (ok_Word_least T) (hr.mono (by decide)) T.b_Word_least .nil pass0 rfl) (nomark _))))) (pss_one ps_never) pss_nil)), ?_⟩
    refine ⟨_, rfl, ?_⟩
    refine ⟨ms, x_places, _, rfl, hW.enter0, hM, fun r1 u4 H5 hM e3 h2 => ?_⟩
    replace h_word := rep_ext e3 h_word
    replace hW := hW.ret0 e3
    obtain rfl := of_v h2
    refine ⟨_, rfl, ?_⟩
    refine ite3 hM (fun hM => ?_) (fun hM => ?_)
    · skip
      refine iteT ?_
      exact hM
    · skip
      refine ⟨_, rfl, ?_⟩
      refine ⟨_, rfl, ?_⟩
      apply rep_prop h_word
      intro _ h6
      refine ⟨ms, _, x_word, _, rfl, hW.enter0, h6, hM, fun r7 u10 H11 hM e9 h8 => ?_⟩
      replace h_word := rep_ext e9 h_word
      replace hW := hW.ret0 e9
      obtain rfl := of_v h8
      refine ⟨_, _, rfl, rfl, ?_⟩
      refine ⟨_, rfl, ?_⟩
      refine ite3 hM (fun hM => ?_) (fun hM => ?_)
      · skip
        exact hM
      · skip
        exact hQ () _ _ hM hW.out rep_v
def M_Word_mark (x_self : (Str × Str × Str)) (x_places : Int) (x_place : Int) (KM : Str → Prop) : Prop :=
  (M_check_places x_self x_places fun r1 => (M_is_integer x_place fun r6 => (if (!r6) = true then False else (if (decide (x_place < (1 : Int))) = true then False else (if (decide (x_places < x_place)) = true then False else (x_self.1.length ≤ sizeLine ∧ (if (decide (x_place ≤ (x_self.1.length : Int))) = true then (x_self.1.length ≤ sizeLine ∧ ∃ c17, atI x_self.1.cps.toList (x_place - (1 : Int)) = some c17 ∧ (KM (Str.mk #[c17]))) else (x_self.2.2.length ≤ sizeLine ∧ (if (decide ((x_places - (x_self.2.2.length : Int)) < x_place)) = true then (x_self.2.2.length ≤ sizeLine ∧ ∃ c24, atI x_self.2.2.cps.toList ((x_place - (x_places - (x_self.2.2.length : Int))) - (1 : Int)) = some c24 ∧ (KM (Str.mk #[c24]))) else (x_self.1.length ≤ sizeLine ∧ (x_self.2.1.length ≤ sizeLine ∧ (0 < (x_self.2.1.length : Int) ∧ (x_self.2.1.length ≤ sizeLine ∧ ∃ c35, atI x_self.2.1.cps.toList (((x_place - (x_self.1.length : Int)) - (1 : Int)) % (x_self.2.1.length : Int)) = some c35 ∧ (KM (Str.mk #[c35])))))))))))))))
def sp_Word_mark (A : Ad) : Sp := fun vs H Q _ => ∃ (ms : List Addr) (v_self : V) (x_self : (Str × Str × Str)) (x_places : Int) (x_place : Int) (KM : Str → Prop), vs = [v_self, V.int x_places, V.int x_place] ∧ Wd ms [] [] H H ∧ rep ms H (eWord A x_self) v_self ∧ M_Word_mark x_self x_places x_place KM ∧ ∀ (r : Str) (u : V) (H1 : Hp), KM r → Ret [] H H1 → rep ms H1 (D.v (V.str r)) u → Q u H1
set_option maxHeartbeats 16000000 in
theorem ok_Word_mark {P : Program} {w : World} {K : PySem.W.Frag} {mg : Str → Option Value} {base : Heap} {A : Ad} (T : Txt w K mg A) : FnOk P w K mg base CX0 4 A.a_Word_mark A.d_Word_mark ["self", "places", "place"] (sp_Word_mark A) := by
  refine T.F_Word_mark.ok sc_Word_mark (fun vs H Q E h => ?_) (fun cdv A_ outer s_ H_0 vs Q E hr h => ?_)
  · obtain ⟨ms, v_self, x_self, x_places, x_place, KM, rfl, _⟩ := h
    rfl
  · obtain ⟨ms, v_self, x_self, x_places, x_place, KM, rfl, hW, h_self, hM, hQ⟩ := h
    unfold M_Word_mark at hM
    refine ⟨_, (pss_cons (ps_expr (pe_call (ok_check_places T) (hr.mono (by decide)) (by rfl) T.g_check_places T.F_check_places.kp T.b_check_places .nil pass0 (pa_cons (pv 0) (pa_cons (pv 1) pa_nil)))) (pss_cons (ps_if (PW.pt (pw_or (pt_not (pt_val (pe_call (ok_is_integer T) (hr.mono (by decide)) (by rfl) T.g_is_integer T.F_is_integer.kp T.b_is_integer .nil pass0 (pa_cons (pv 2) pa_nil)))) (pw_or (pt_cmpR op_lt (pv 2) pe_int (nomark _)) (pw_or1 (pt_cmpR op_gt (pv 2) (pv 1) (nomark _)))))) (pss_one ps_never) pss_nil) (pss_cons (ps_if (pt_cmpR op_le (pv 2) (pe_callB call_len_str (by rfl) T.z_len PySem.boot_len (pa_cons (pe_fld (pv 0) rfl) pa_nil)) (nomark _)) (pss_one (ps_ret (pe_ix ix_str (pe_fld (pv 0) rfl) (pe_op op_sub (pv 2) pe_int) (fun _ _ => rfl)))) pss_nil) (pss_cons (ps_set (i := 3) sc_Word_mark.nd rfl (by first | exact Or.inl rfl | exact Or.inr rfl) (pe_op op_sub (pv 1) (pe_callB call_len_str (by rfl) T.z_len PySem.boot_len (pa_cons (pe_fld (pv 0) rfl) pa_nil)))) (pss_cons (ps_if (pt_cmpR op_gt (pv 2) (pv 3) (nomark _)) (pss_one (ps_ret (pe_ix ix_str (pe_fld (pv 0) rfl) (pe_op op_sub (pe_op op_sub (pv 2) (pv 3)) pe_int) (fun _ _ => rfl)))) pss_nil) (pss_one (ps_ret (pe_ix ix_str (pe_fld (pv 0) rfl) (pe_op op_mod (pe_op op_sub (pe_op op_sub (pv 2) (pe_callB call_len_str (by rfl) T.z_len PySem.boot_len (pa_cons (pe_fld (pv 0) rfl) pa_nil))) pe_int) (pe_callB call_len_str (by rfl) T.z_len PySem.boot_len (pa_cons (pe_fld (pv 0) rfl) pa_nil))) (fun _ _ => rfl))))))))), ?_⟩
    refine ⟨_, rfl, ?_⟩
    refine ⟨_, rfl, ?_⟩
    refine ⟨ms, _, x_self, x_places, _, rfl, hW.enter0, h_self, hM, fun r1 u4 H5 hM e3 h2 => ?_⟩
    replace h_self := rep_ext e3 h_self
    replace hW := hW.ret0 e3
    obtain rfl := of_v h2
    refine ⟨_, rfl, ?_⟩
    refine ⟨ms, x_place, _, rfl, hW.enter0, hM, fun r6 u9 H10 hM e8 h7 => ?_⟩
    replace h_self := rep_ext e8 h_self
    replace hW := hW.ret0 e8
    obtain rfl := of_v h7
    refine ⟨_, rfl, ?_⟩
    refine ite3 hM (fun hM => ?_) (fun hM => ?_)
    · skip
      refine iteT ?_
      exact hM
    · skip
      refine ⟨_, rfl, ?_⟩
      refine ⟨_, _, rfl, rfl, ?_⟩
      refine ⟨_, rfl, ?_⟩
      refine ite3 hM (fun hM => ?_) (fun hM => ?_)
      · skip
        refine iteT ?_
        exact hM
      · skip
        refine ⟨_, rfl, ?_⟩
        refine ⟨_, rfl, ?_⟩
        refine ⟨_, _, rfl, rfl, ?_⟩
        refine ⟨_, rfl, ?_⟩
        refine ite3 hM (fun hM => ?_) (fun hM => ?_)
        · skip
          exact hM
        · skip
          refine ⟨_, rfl, ?_⟩
          refine ⟨_, rfl, ?_⟩
          apply rep_fld (j := 0) h_self T.cl_Word T.na_Word__head nd_Word rfl rfl
          intro u12 h11
          obtain rfl := of_v h11
          obtain ⟨g13, hM⟩ := hM
          refine ⟨_, rfl, g13, ?_⟩
          refine ⟨_, _, rfl, rfl, ?_⟩
          refine ⟨_, rfl, ?_⟩
          refine ite3 hM (fun hM => ?_) (fun hM => ?_)
          · skip
            refine ⟨_, rfl, ?_⟩
            apply rep_fld (j := 0) h_self T.cl_Word T.na_Word__head nd_Word rfl rfl
            intro u15 h14
            obtain rfl := of_v h14
            refine ⟨_, rfl, ?_⟩
            refine ⟨_, _, rfl, rfl, ?_⟩
            obtain ⟨g16, hM⟩ := hM
            obtain ⟨c17, c17h, hM⟩ := hM
            refine ⟨_, _, _, rfl, rfl, g16, c17h, ?_⟩
            exact hQ (Str.mk #[c17]) _ _ hM hW.out rep_v
          · skip
            refine ⟨_, rfl, ?_⟩
            refine ⟨_, rfl, ?_⟩
            apply rep_fld (j := 2) h_self T.cl_Word T.na_Word__tail nd_Word rfl rfl
            intro u19 h18
            obtain rfl := of_v h18
            obtain ⟨g20, hM⟩ := hM
            refine ⟨_, rfl, g20, ?_⟩
            refine ⟨_, _, rfl, rfl, ?_⟩
            refine ⟨_, rfl, ?_⟩
            refine ⟨_, rfl, ?_⟩
            refine ⟨_, _, rfl, rfl, ?_⟩
            refine ⟨_, rfl, ?_⟩
            refine ite3 hM (fun hM => ?_) (fun hM => ?_)
            · skip
              refine ⟨_, rfl, ?_⟩
              apply rep_fld (j := 2) h_self T.cl_Word T.na_Word__tail nd_Word rfl rfl
              intro u22 h21
              obtain rfl := of_v h21
              refine ⟨_, rfl, ?_⟩
              refine ⟨_, rfl, ?_⟩
              refine ⟨_, _, rfl, rfl, ?_⟩
              refine ⟨_, _, rfl, rfl, ?_⟩
              obtain ⟨g23, hM⟩ := hM
              obtain ⟨c24, c24h, hM⟩ := hM
              refine ⟨_, _, _, rfl, rfl, g23, c24h, ?_⟩
              exact hQ (Str.mk #[c24]) _ _ hM hW.out rep_v
            · skip
              refine ⟨_, rfl, ?_⟩
              apply rep_fld (j := 1) h_self T.cl_Word T.na_Word__middle nd_Word rfl rfl
              intro u26 h25
              obtain rfl := of_v h25
              refine ⟨_, rfl, ?_⟩
              refine ⟨_, rfl, ?_⟩
              apply rep_fld (j := 0) h_self T.cl_Word T.na_Word__head nd_Word rfl rfl
              intro u28 h27
              obtain rfl := of_v h27
              obtain ⟨g29, hM⟩ := hM
              refine ⟨_, rfl, g29, ?_⟩
              refine ⟨_, _, rfl, rfl, ?_⟩
              refine ⟨_, _, rfl, rfl, ?_⟩
              refine ⟨_, rfl, ?_⟩
              apply rep_fld (j := 1) h_self T.cl_Word T.na_Word__middle nd_Word rfl rfl
              intro u31 h30
              obtain rfl := of_v h30
              obtain ⟨g32, hM⟩ := hM
              refine ⟨_, rfl, g32, ?_⟩
              obtain ⟨g33, hM⟩ := hM
              refine ⟨_, _, rfl, rfl, g33, ?_⟩
              obtain ⟨g34, hM⟩ := hM
              obtain ⟨c35, c35h, hM⟩ := hM
              refine ⟨_, _, _, rfl, rfl, g34, c35h, ?_⟩
              exact hQ (Str.mk #[c35]) _ _ hM hW.out rep_v
def M_Rule_turned (x_self : (Int × (Str × Str × Str) × Str × Bool)) (KM : Bool → Prop) : Prop :=
  (KM x_self.2.2.2)
def sp_Rule_turned (A : Ad) : Sp := fun vs H Q _ => ∃ (ms : List Addr) (v_self : V) (x_self : (Int × (Str × Str × Str) × Str × Bool)) (KM : Bool → Prop), vs = [v_self] ∧ Wd ms [] [] H H ∧ rep ms H (eRule A x_self) v_self ∧ M_Rule_turned x_self KM ∧ ∀ (r : Bool) (u : V) (H1 : Hp), KM r → Ret [] H H1 → rep ms H1 (D.v (V.bl r)) u → Q u H1
set_option maxHeartbeats 16000000 in
theorem ok_Rule_turned {P : Program} {w : World} {K : PySem.W.Frag} {mg : Str → Option Value} {base : Heap} {A : Ad} (T : Txt w K mg A) : FnOk P w K mg base CX0 1 A.a_Rule_turned A.d_Rule_turned ["self"] (sp_Rule_turned A) := by
  refine T.F_Rule_turned.ok sc_Rule_turned (fun vs H Q E h => ?_) (fun cdv A_ outer s_ H_0 vs Q E hr h => ?_)
  · obtain ⟨ms, v_self, x_self, KM, rfl, _⟩ := h
    rfl
  · obtain ⟨ms, v_self, x_self, KM, rfl, hW, h_self, hM, hQ⟩ := h
    unfold M_Rule_turned at hM
    refine ⟨_, (pss_one (ps_ret (pe_fld (pv 0) rfl))), ?_⟩
    refine ⟨_, rfl, ?_⟩
    apply rep_fld (j := 3) h_self T.cl_Rule T.na_Rule__turned nd_Rule rfl rfl
    intro u2 h1
    obtain rfl := of_v h1
    exact hQ x_self.2.2.2 _ _ hM hW.out rep_v
def M_turned_if (x_rule : (Int × (Str × Str × Str) × Str × Bool)) (x_day : Int) (x_marks : Str) (KM : Str → Prop) : Prop :=
  (∃ KB1 : Str → Prop, (M_Rule_turned x_rule fun r5 => (if r5 = true then (if (decide (V.int (x_day % (2 : Int)) = V.int (1 : Int))) = true then (M_contrary_marks x_marks fun r10 => (KB1 r10)) else (KB1 x_marks)) else (KB1 x_marks))) ∧ ∀ r15 : Str, KB1 r15 → (KM r15))
def sp_turned_if (A : Ad) : Sp := fun vs H Q _ => ∃ (ms : List Addr) (v_rule : V) (x_rule : (Int × (Str × Str × Str) × Str × Bool)) (x_day : Int) (x_marks : Str) (KM : Str → Prop), vs = [v_rule, V.int x_day, V.str x_marks] ∧ Wd ms [] [] H H ∧ rep ms H (eRule A x_rule) v_rule ∧ M_turned_if x_rule x_day x_marks KM ∧ ∀ (r : Str) (u : V) (H1 : Hp), KM r → Ret [] H H1 → rep ms H1 (D.v (V.str r)) u → Q u H1
set_option maxHeartbeats 16000000 in
theorem ok_turned_if {P : Program} {w : World} {K : PySem.W.Frag} {mg : Str → Option Value} {base : Heap} {A : Ad} (T : Txt w K mg A) : FnOk P w K mg base CX0 3 A.a_turned_if A.d_turned_if ["rule", "day", "marks"] (sp_turned_if A) := by
  refine T.F_turned_if.ok sc_turned_if (fun vs H Q E h => ?_) (fun cdv A_ outer s_ H_0 vs Q E hr h => ?_)
  · obtain ⟨ms, v_rule, x_rule, x_day, x_marks, KM, rfl, _⟩ := h
    rfl
  · obtain ⟨ms, v_rule, x_rule, x_day, x_marks, KM, rfl, hW, h_rule, hM, hQ⟩ := h
    unfold M_turned_if at hM
    refine ⟨_, (pss_one (ps_ret (pe_up (pe_ifExp (PW.pt (pw_and (pt_val (pe_prop (pv 0) T.cl_Rule T.p_Rule_turned (ok_Rule_turned T) (hr.mono (by decide)) T.b_Rule_turned .nil pass0 rfl)) (pw_and1 (pt_cmpR op_eq (pe_op op_mod (pv 1) pe_int) pe_int (nomark _))))) (pe_call (ok_contrary_marks T) (hr.mono (by decide)) (by rfl) T.g_contrary_marks T.F_contrary_marks.kp T.b_contrary_marks .nil pass0 (pa_cons (pv 2) pa_nil)) (pv 2))))), ?_⟩
    obtain ⟨KB1, hM, hKKB1⟩ := hM
    refine ⟨fun v H1 => ∃ r : Str, KB1 r ∧ Wd ms [] [] H_0 H1 ∧ Keep ms H_0 H1 ∧ rep ms H1 (D.v (V.str r)) v, ?_, ?_⟩
    · skip
      have hj3 := Keep.refl (ms := ms) (H := H_0)
      refine ⟨_, rfl, ?_⟩
      apply rep_prop h_rule
      intro _ h4
      refine ⟨ms, _, x_rule, _, rfl, hW.enter0, h4, hM, fun r5 u8 H9 hM e7 h6 => ?_⟩
      replace h_rule := rep_ext e7 h_rule
      replace hj3 := keep_ext e7 hj3
      replace hW := hW.ret0 e7
      obtain rfl := of_v h6
      refine ⟨_, rfl, ?_⟩
      refine ite3 hM (fun hM => ?_) (fun hM => ?_)
      · skip
        refine ⟨_, rfl, ?_⟩
        refine ⟨_, _, rfl, rfl, (by show (0 : Int) < (2 : Int); decide), ?_⟩
        refine ⟨rfl, ?_⟩
        refine ⟨_, rfl, ?_⟩
        refine ite3 hM (fun hM => ?_) (fun hM => ?_)
        · skip
          refine ⟨_, rfl, ?_⟩
          refine ⟨ms, x_marks, _, rfl, hW.enter0, hM, fun r10 u13 H14 hM e12 h11 => ?_⟩
          replace h_rule := rep_ext e12 h_rule
          replace hj3 := keep_ext e12 hj3
          replace hW := hW.ret0 e12
          obtain rfl := of_v h11
          exact ⟨r10, hM, hW, hj3, rep_v⟩
        · skip
          refine ⟨_, rfl, ?_⟩
          exact ⟨x_marks, hM, hW, hj3, rep_v⟩
      · skip
        refine iteF ?_
        refine ⟨_, rfl, ?_⟩
        exact ⟨x_marks, hM, hW, hj3, rep_v⟩
    · skip
      rintro u17 Hj2 ⟨r15, hr, hW, hj3, h16⟩
      replace hM := hKKB1 r15 hr
      replace h_rule := rep_keep hj3 h_rule
      obtain rfl := of_v h16
      exact hQ r15 _ _ hM hW.out rep_v
def M_mark_at (x_rule : (Int × (Str × Str × Str) × Str × Bool)) (x_size : Int) (x_at : Int) (x_day : Int) (KM : Str → Prop) : Prop :=
  (if (decide (V.int x_at = V.int (0 : Int))) = true then (M_stander_mark x_rule x_day fun r1 => (M_contrary_marks r1 fun r6 => (KM r6))) else (M_Rule_word x_rule fun r12 => (M_Word_mark r12 ((x_size / (2 : Int)) - (1 : Int)) (if x_at < 0 then -x_at else x_at) fun r17 => (M_turned_if x_rule x_day r17 fun r22 => (∃ KB27 : Str → Prop, (if (decide ((0 : Int) < x_at)) = true then (KB27 r22) else (M_contrary_marks r22 fun r30 => (KB27 r30))) ∧ ∀ r35 : Str, KB27 r35 → (KM r35))))))
def sp_mark_at (A : Ad) : Sp := fun vs H Q _ => ∃ (ms : List Addr) (v_rule : V) (x_rule : (Int × (Str × Str × Str) × Str × Bool)) (x_size : Int) (x_at : Int) (x_day : Int) (KM : Str → Prop), vs = [v_rule, V.int x_size, V.int x_at, V.int x_day] ∧ Wd ms [] [] H H ∧ rep ms H (eRule A x_rule) v_rule ∧ M_mark_at x_rule x_size x_at x_day KM ∧ ∀ (r : Str) (u : V) (H1 : Hp), KM r → Ret [] H H1 → rep ms H1 (D.v (V.str r)) u → Q u H1
set_option maxHeartbeats 16000000 in
theorem ok_mark_at {P : Program} {w : World} {K : PySem.W.Frag} {mg : Str → Option Value} {base : Heap} {A : Ad} (T : Txt w K mg A) : FnOk P w K mg base CX0 5 A.a_mark_at A.d_mark_at ["rule", "size", "at", "day"] (sp_mark_at A) := by
  refine T.F_mark_at.ok sc_mark_at (fun vs H Q E h => ?_) (fun cdv A_ outer s_ H_0 vs Q E hr h => ?_)
  · obtain ⟨ms, v_rule, x_rule, x_size, x_at, x_day, KM, rfl, _⟩ := h
    rfl
  · obtain ⟨ms, v_rule, x_rule, x_size, x_at, x_day, KM, rfl, hW, h_rule, hM, hQ⟩ := h
    unfold M_mark_at at hM
    refine ⟨_, (pss_cons (ps_if (pt_cmpR op_eq (pv 2) pe_int (nomark _)) (pss_one (ps_ret (pe_call (ok_contrary_marks T) (hr.mono (by decide)) (by rfl) T.g_contrary_marks T.F_contrary_marks.kp T.b_contrary_marks .nil pass0 (pa_cons (pe_call (ok_stander_mark T) (hr.mono (by decide)) (by rfl) T.g_stander_mark T.F_stander_mark.kp T.b_stander_mark .nil pass0 (pa_cons (pv 0) (pa_cons (pv 3) pa_nil))) pa_nil)))) pss_nil) (pss_cons (ps_set (i := 4) sc_mark_at.nd rfl (by first | exact Or.inl rfl | exact Or.inr rfl) (pe_call (ok_turned_if T) (hr.mono (by decide)) (by rfl) T.g_turned_if T.F_turned_if.kp T.b_turned_if .nil pass0 (pa_cons (pv 0) (pa_cons (pv 3) (pa_cons (pe_meth (pe_prop (pv 0) T.cl_Rule T.p_Rule_word (ok_Rule_word T) (hr.mono (by decide)) T.b_Rule_word .nil pass0 rfl) T.cl_Word T.m_Word_mark (ok_Word_mark T) (hr.mono (by decide)) T.b_Word_mark .nil pass0 (pa_cons (pe_op op_sub (pe_op op_fdivW (pv 1) pe_int) pe_int) (pa_cons (pe_callB call_abs (by rfl) T.z_abs (by decide +kernel) (pa_cons (pv 2) pa_nil)) pa_nil))) pa_nil))))) (pss_one (ps_ret (pe_up (pe_ifExp (pt_cmpR op_gt (pv 2) pe_int (nomark _)) (pv 4) (pe_call (ok_contrary_marks T) (hr.mono (by decide)) (by rfl) T.g_contrary_marks T.F_contrary_marks.kp T.b_contrary_marks .nil pass0 (pa_cons (pv 4) pa_nil)))))))), ?_⟩
    refine ⟨_, rfl, ?_⟩
    refine ⟨rfl, ?_⟩
    refine ⟨_, rfl, ?_⟩
    refine ite3 hM (fun hM => ?_) (fun hM => ?_)
    · skip
      refine ⟨_, rfl, ?_⟩
      refine ⟨_, rfl, ?_⟩
      refine ⟨ms, _, x_rule, x_day, _, rfl, hW.enter0, h_rule, hM, fun r1 u4 H5 hM e3 h2 => ?_⟩
      replace h_rule := rep_ext e3 h_rule
      replace hW := hW.ret0 e3
      obtain rfl := of_v h2
      refine ⟨ms, r1, _, rfl, hW.enter0, hM, fun r6 u9 H10 hM e8 h7 => ?_⟩
      replace h_rule := rep_ext e8 h_rule
      replace hW := hW.ret0 e8
      obtain rfl := of_v h7
      exact hQ r6 _ _ hM hW.out rep_v
    · skip
      refine ⟨_, rfl, ?_⟩
      refine ⟨_, rfl, ?_⟩
      refine ⟨_, rfl, ?_⟩
      apply rep_prop h_rule
      intro _ h11
      refine ⟨ms, _, x_rule, _, rfl, hW.enter0, h11, hM, fun r12 u15 H16 hM e14 h13 => ?_⟩
      replace h_rule := rep_ext e14 h_rule
      replace hW := hW.ret0 e14
      apply rep_meth (m := "mark") h13 (by decide +kernel)
      refine ⟨_, rfl, ?_⟩
      refine ⟨_, _, rfl, rfl, ⟨by decide, by decide⟩, ?_⟩
      refine ⟨_, _, rfl, rfl, ?_⟩
      refine ⟨_, rfl, ?_⟩
      refine ⟨_, rfl, ?_⟩
      refine ⟨ms, _, r12, ((x_size / (2 : Int)) - (1 : Int)), (if x_at < 0 then -x_at else x_at), _, rfl, hW.enter0, h13, hM, fun r17 u20 H21 hM e19 h18 => ?_⟩
      replace h_rule := rep_ext e19 h_rule
      replace h13 := rep_ext e19 h13
      replace hW := hW.ret0 e19
      obtain rfl := of_v h18
      refine ⟨ms, _, x_rule, x_day, r17, _, rfl, hW.enter0, h_rule, hM, fun r22 u25 H26 hM e24 h23 => ?_⟩
      replace h_rule := rep_ext e24 h_rule
      replace h13 := rep_ext e24 h13
      replace hW := hW.ret0 e24
      obtain rfl := of_v h23
      obtain ⟨KB27, hM, hKKB27⟩ := hM
      refine ⟨fun v H1 => ∃ r : Str, KB27 r ∧ Wd ms [] [] H_0 H1 ∧ Keep ms H26 H1 ∧ rep ms H1 (D.v (V.str r)) v, ?_, ?_⟩
      · skip
        have hj29 := Keep.refl (ms := ms) (H := H26)
        refine ⟨_, rfl, ?_⟩
        refine ⟨_, _, rfl, rfl, ?_⟩
        refine ⟨_, rfl, ?_⟩
        refine ite3 hM (fun hM => ?_) (fun hM => ?_)
        · skip
          refine ⟨_, rfl, ?_⟩
          exact ⟨r22, hM, hW, hj29, rep_v⟩
        · skip
          refine ⟨_, rfl, ?_⟩
          refine ⟨ms, r22, _, rfl, hW.enter0, hM, fun r30 u33 H34 hM e32 h31 => ?_⟩
          replace h_rule := rep_ext e32 h_rule
          replace h13 := rep_ext e32 h13
          replace hj29 := keep_ext e32 hj29
          replace hW := hW.ret0 e32
          obtain rfl := of_v h31
          exact ⟨r30, hM, hW, hj29, rep_v⟩
      · skip
        rintro u37 Hj28 ⟨r35, hr, hW, hj29, h36⟩
        replace hM := hKKB27 r35 hr
        replace h_rule := rep_keep hj29 h_rule
        replace h13 := rep_keep hj29 h13
        obtain rfl := of_v h36
        exact hQ r35 _ _ hM hW.out rep_v
def M_mark_of (x_rule : (Int × (Str × Str × Str) × Str × Bool)) (x_size : Int) (x_team : Int) (x_day : Int) (KM : Str → Prop) : Prop :=
  (M_check x_rule x_size x_team x_day fun r1 => (if (decide (V.int x_team = V.int (x_size - (1 : Int)))) = true then (M_stander_mark x_rule x_day fun r6 => (KM r6)) else (M_seatP x_rule x_size x_team x_day fun r11 => (M_mark_at x_rule x_size r11 x_day fun r16 => (KM r16)))))
def sp_mark_of (A : Ad) : Sp := fun vs H Q _ => ∃ (ms : List Addr) (v_rule : V) (x_rule : (Int × (Str × Str × Str) × Str × Bool)) (x_size : Int) (x_team : Int) (x_day : Int) (KM : Str → Prop), vs = [v_rule, V.int x_size, V.int x_team, V.int x_day] ∧ Wd ms [] [] H H ∧ rep ms H (eRule A x_rule) v_rule ∧ M_mark_of x_rule x_size x_team x_day KM ∧ ∀ (r : Str) (u : V) (H1 : Hp), KM r → Ret [] H H1 → rep ms H1 (D.v (V.str r)) u → Q u H1
set_option maxHeartbeats 16000000 in
theorem ok_mark_of {P : Program} {w : World} {K : PySem.W.Frag} {mg : Str → Option Value} {base : Heap} {A : Ad} (T : Txt w K mg A) : FnOk P w K mg base CX0 8 A.a_mark_of A.d_mark_of ["rule", "size", "team", "day"] (sp_mark_of A) := by
  refine T.F_mark_of.ok sc_mark_of (fun vs H Q E h => ?_) (fun cdv A_ outer s_ H_0 vs Q E hr h => ?_)
  · obtain ⟨ms, v_rule, x_rule, x_size, x_team, x_day, KM, rfl, _⟩ := h
    rfl
  · obtain ⟨ms, v_rule, x_rule, x_size, x_team, x_day, KM, rfl, hW, h_rule, hM, hQ⟩ := h
    unfold M_mark_of at hM
    refine ⟨_, (pss_cons (ps_expr (pe_call (ok_check T) (hr.mono (by decide)) (by rfl) T.g_check T.F_check.kp T.b_check .nil pass0 (pa_cons (pv 0) (pa_cons (pv 1) (pa_cons (pv 2) (pa_cons (pv 3) pa_nil)))))) (pss_cons (ps_if (pt_cmpR op_eq (pv 2) (pe_op op_sub (pv 1) pe_int) (nomark _)) (pss_one (ps_ret (pe_call (ok_stander_mark T) (hr.mono (by decide)) (by rfl) T.g_stander_mark T.F_stander_mark.kp T.b_stander_mark .nil pass0 (pa_cons (pv 0) (pa_cons (pv 3) pa_nil))))) pss_nil) (pss_one (ps_ret (pe_call (ok_mark_at T) (hr.mono (by decide)) (by rfl) T.g_mark_at T.F_mark_at.kp T.b_mark_at .nil pass0 (pa_cons (pv 0) (pa_cons (pv 1) (pa_cons (pe_call (ok_seatP T) (hr.mono (by decide)) (by rfl) T.g_seatP T.F_seatP.kp T.b_seatP .nil pass0 (pa_cons (pv 0) (pa_cons (pv 1) (pa_cons (pv 2) (pa_cons (pv 3) pa_nil))))) (pa_cons (pv 3) pa_nil))))))))), ?_⟩
    refine ⟨_, rfl, ?_⟩
    refine ⟨_, rfl, ?_⟩
    refine ⟨_, rfl, ?_⟩
    refine ⟨_, rfl, ?_⟩
    refine ⟨ms, _, x_rule, x_size, x_team, x_day, _, rfl, hW.enter0, h_rule, hM, fun r1 u4 H5 hM e3 h2 => ?_⟩
    replace h_rule := rep_ext e3 h_rule
    replace hW := hW.ret0 e3
    obtain rfl := of_v h2
    refine ⟨_, rfl, ?_⟩
    refine ⟨_, rfl, ?_⟩
    refine ⟨_, _, rfl, rfl, ?_⟩
    refine ⟨rfl, ?_⟩
    refine ⟨_, rfl, ?_⟩
    refine ite3 hM (fun hM => ?_) (fun hM => ?_)
    · skip
      refine ⟨_, rfl, ?_⟩
      refine ⟨_, rfl, ?_⟩
      refine ⟨ms, _, x_rule, x_day, _, rfl, hW.enter0, h_rule, hM, fun r6 u9 H10 hM e8 h7 => ?_⟩
      replace h_rule := rep_ext e8 h_rule
      replace hW := hW.ret0 e8
      obtain rfl := of_v h7
      exact hQ r6 _ _ hM hW.out rep_v
    · skip
      refine ⟨_, rfl, ?_⟩
      refine ⟨_, rfl, ?_⟩
      refine ⟨_, rfl, ?_⟩
      refine ⟨_, rfl, ?_⟩
      refine ⟨_, rfl, ?_⟩
      refine ⟨_, rfl, ?_⟩
      refine ⟨ms, _, x_rule, x_size, x_team, x_day, _, rfl, hW.enter0, h_rule, hM, fun r11 u14 H15 hM e13 h12 => ?_⟩
      replace h_rule := rep_ext e13 h_rule
      replace hW := hW.ret0 e13
      obtain rfl := of_v h12
      refine ⟨_, rfl, ?_⟩
      refine ⟨ms, _, x_rule, x_size, r11, x_day, _, rfl, hW.enter0, h_rule, hM, fun r16 u19 H20 hM e18 h17 => ?_⟩
      replace h_rule := rep_ext e18 h_rule
      replace hW := hW.ret0 e18
      obtain rfl := of_v h17
      exact hQ r16 _ _ hM hW.out rep_v
def M_told (x_made : (Int × (Str × Str × Str) × Str × Bool)) (x_many : Int) (x_when : Int) (KM : (List D) → Prop) : Prop :=
  ((rangeI (0 : Int) (x_many - (1 : Int))).length < 100000 ∧ mapC (fun (x12 : Int) (k5 : Int → Prop) => (M_seat x_made x_many x12 x_when fun r18 => (k5 r18))) (rangeI (0 : Int) (x_many - (1 : Int))) [] fun ys28 => ((rangeI (0 : Int) x_many).length < 100000 ∧ mapC (fun (x47 : Int) (k40 : Int → Prop) => (M_opponent x_made x_many x47 x_when fun r55 => (k40 r55))) (rangeI (0 : Int) x_many) [] fun ys65 => (([ys28] : List (List Int)).length < 16777216 ∧ ((rangeI (0 : Int) x_many).length < 100000 ∧ mapC (fun (x88 : Int) (k81 : Str → Prop) => (M_mark_of x_made x_many x88 x_when fun r94 => (k81 r94))) (rangeI (0 : Int) x_many) [] fun ys104 => (((([ys28] : List (List Int)) ++ [ys65]).map (fun y_ : (List Int) => (D.lst (y_.map (fun y_ : Int => (D.v (V.int y_))))))).length + (([ys104] : List (List Str)).map (fun y_ : (List Str) => (D.lst (y_.map (fun y_ : Str => (D.v (V.str y_))))))).length ≤ sizeLine ∧ (KM (((([ys28] : List (List Int)) ++ [ys65]).map (fun y_ : (List Int) => (D.lst (y_.map (fun y_ : Int => (D.v (V.int y_))))))) ++ (([ys104] : List (List Str)).map (fun y_ : (List Str) => (D.lst (y_.map (fun y_ : Str => (D.v (V.str y_))))))))))))))
def sp_told (A : Ad) : Sp := fun vs H Q _ => ∃ (ms : List Addr) (v_made : V) (x_made : (Int × (Str × Str × Str) × Str × Bool)) (x_many : Int) (x_when : Int) (KM : (List D) → Prop), vs = [v_made, V.int x_many, V.int x_when] ∧ Wd ms [] [] H H ∧ rep ms H (eRule A x_made) v_made ∧ M_told x_made x_many x_when KM ∧ ∀ (r : (List D)) (u : V) (H1 : Hp), KM r → Ret [] H H1 → rep ms H1 (D.lst (r.map (fun y_ : D => y_))) u → Q u H1
set_option maxHeartbeats 16000000 in
theorem ok_told {P : Program} {w : World} {K : PySem.W.Frag} {mg : Str → Option Value} {base : Heap} {A : Ad} (T : Txt w K mg A) : FnOk P w K mg base CX0 9 A.a_told A.d_told ["_law_made", "_law_many", "_law_when"] (sp_told A) := by
  refine T.F_told.ok sc_told (fun vs H Q E h => ?_) (fun cdv A_ outer s_ H_0 vs Q E hr h => ?_)
  · obtain ⟨ms, v_made, x_made, x_many, x_when, KM, rfl, _⟩ := h
    rfl
  · obtain ⟨ms, v_made, x_made, x_many, x_when, KM, rfl, hW, h_made, hM, hQ⟩ := h
    unfold M_told at hM
    refine ⟨_, (pss_cons (ps_set (i := 3) sc_told.nd rfl (by first | exact Or.inl rfl | exact Or.inr rfl) (pe_lst (pa_cons (pe_lc (own := [("_law_who", 4)]) (g := gName 4) rfl sc_told.nd (pi_rangeW1 (by rfl) T.z_range (pa_cons (pe_op op_sub (pv 1) pe_int) pa_nil)) (blkOk_by (N := ["_law_made", "_law_many", "_law_when", "_law_found", "_law_who"]) (sc := defScope s_told) (by decide +kernel)) (fun _ _ _ _ _ => pg_name (i := 4) sc_told.nd rfl (by first | exact Or.inl rfl | exact Or.inr rfl)) (fun _ _ _ _ _ => pts_nil) (fun _ _ _ _ _ => (pe_call (ok_seat T) (hr.mono (by decide)) (by rfl) T.g_seat T.F_seat.kp T.b_seat .nil pass0 (pa_cons (pv 0) (pa_cons (pv 1) (pa_cons (pv 4) (pa_cons (pv 2) pa_nil))))))) pa_nil))) (pss_cons (ps_expr (pe_bmK (K := K) rfl PySem.F.plainAttrs_list PySem.F.slot_list_append PySem.F.type_list_append mt_append (pv 3) (pa_cons (pe_lc (own := [("_law_who", 4)]) (g := gName 4) rfl sc_told.nd (pi_rangeW1 (by rfl) T.z_range (pa_cons (pv 1) pa_nil)) (blkOk_by (N := ["_law_made", "_law_many", "_law_when", "_law_found", "_law_who"]) (sc := defScope s_told) (by decide +kernel)) (fun _ _ _ _ _ => pg_name (i := 4) sc_told.nd rfl (by first | exact Or.inl rfl | exact Or.inr rfl)) (fun _ _ _ _ _ => pts_nil) (fun _ _ _ _ _ => (pe_call (ok_opponent T) (hr.mono (by decide)) (by rfl) T.g_opponent T.F_opponent.kp T.b_opponent .nil pass0 (pa_cons (pv 0) (pa_cons (pv 1) (pa_cons (pv 4) (pa_cons (pv 2) pa_nil))))))) pa_nil))) (pss_one (ps_ret (pe_op op_cat (pv 3) (pe_lst (pa_cons (pe_lc (own := [("_law_who", 4)]) (g := gName 4) rfl sc_told.nd (pi_rangeW1 (by rfl) T.z_range (pa_cons (pv 1) pa_nil)) (blkOk_by (N := ["_law_made", "_law_many", "_law_when", "_law_found", "_law_who"]) (sc := defScope s_told) (by decide +kernel)) (fun _ _ _ _ _ => pg_name (i := 4) sc_told.nd rfl (by first | exact Or.inl rfl | exact Or.inr rfl)) (fun _ _ _ _ _ => pts_nil) (fun _ _ _ _ _ => (pe_call (ok_mark_of T) (hr.mono (by decide)) (by rfl) T.g_mark_of T.F_mark_of.kp T.b_mark_of .nil pass0 (pa_cons (pv 0) (pa_cons (pv 1) (pa_cons (pv 4) (pa_cons (pv 2) pa_nil))))))) pa_nil))))))), ?_⟩
    refine ⟨_, rfl, ?_⟩
    refine ⟨_, _, rfl, rfl, ?_⟩
    refine ⟨_, rfl, ?_⟩
    refine fun L1 nl2 => ?_
    have nm16 := nm_new hW nl2
    refine lc_rangeG (L := L1) (fun n_ ys_ h_ => Wd (L1 :: ms) [] [] H_0 h_ ∧ Keep (L1 :: ms) H_0 h_ ∧ MutO (L1 :: ms) [] H_0 h_ L1 (D.lst (ys_.map (fun y_ : Int => (D.v (V.int y_))))) ∧ ys_.length ≤ n_) (lo := (0 : Int)) (hi := (x_many - (1 : Int))) (N := Int.toNat (x_many - (1 : Int))) (by simp) hM ⟨wd_cell hW nl2, keep_cell nl2 Keep.refl, mo_newL (ds := []) hW nl2 repL_nil, Nat.le_refl _⟩ ?_ ?_
    · skip
      rintro x12  n3 ys4 k5 H17 hn ⟨hW, hk6, mu7, ln8⟩ hM Nx11 hN9
      replace h_made := rep_keep hk6 (rep_new nl2 h_made)
      refine ⟨rfl, ?_⟩
      refine tyes_of ?_
      refine ⟨_, rfl, ?_⟩
      refine ⟨_, rfl, ?_⟩
      refine ⟨_, rfl, ?_⟩
      refine ⟨_, rfl, ?_⟩
      refine ⟨(L1 :: ms), _, x_made, x_many, x12, x_when, _, rfl, hW.enter0, h_made, hM, fun r18 u21 H22 hM e20 h19 => ?_⟩
      replace h_made := rep_ext e20 h_made
      replace hk6 := keep_ext e20 hk6
      replace mu7 := mo_ext e20 mu7
      replace hW := hW.ret0 e20
      obtain rfl := of_v h19
      refine mo_end mu7 hn (by rw [List.length_map]; exact ln8) fun vs23 hr24 => ?_
      have mk26 := mo_setL mu7 (repL_snoc (e := (fun y_ : Int => (D.v (V.int y_)))) (xs := ys4) (y := r18) hr24 rep_v)
      replace h_made := rep_put (o := .lst (vs23 ++ [V.int r18])) mu7.im h_made
      replace hk6 := keep_put (o := .lst (vs23 ++ [V.int r18])) mu7.im hk6
      replace hW := wd_put (o := .lst (vs23 ++ [V.int r18])) hW mu7
      replace mu7 := mk26
      generalize upd H22 L1 (.lst (vs23 ++ [V.int r18])) = H27 at *
      replace mu7 : MutO (L1 :: ms) [] H_0 H27 L1 (D.lst ((ys4 ++ [r18]).map (fun y_ : Int => (D.v (V.int y_))))) := mu7
      clear mk26
      exact hN9 r18 _ hM ⟨hW, hk6, mu7, by rw [List.length_append]; exact Nat.add_le_add_right ln8 1⟩
    · skip
      rintro n3 ys28 H29 hM ⟨hW, hk6, mu7, ln8⟩
      replace h_made := rep_keep hk6 (rep_new nl2 h_made)
      clear hk6 ln8
      have h30 := mo_rep_dr dr_here nm16 mu7
      replace hW := wd_dr dr_here mu7.hp hW
      replace h_made := rep_dr dr_here h_made
      clear mu7
      refine ⟨(by show 1 ≤ sizeLine; decide), ?_⟩
      intro L31 nl32
      have nm33 := nm_new hW nl32
      have mu34 := mo_newL (ds := ([ys28] : List (List Int)).map (fun y_ : (List Int) => (D.lst (y_.map (fun y_ : Int => (D.v (V.int y_))))))) (vs := [(V.ref L1)]) hW nl32 (repL_cons h30 repL_nil)
      replace h_made := rep_cell (o := .lst [(V.ref L1)]) nl32 h_made
      replace h30 := rep_cell (o := .lst [(V.ref L1)]) nl32 h30
      replace hW := wd_cell (o := .lst [(V.ref L1)]) hW nl32
      generalize upd H29 L31 (.lst [(V.ref L1)]) = H35 at *
      replace mu34 : MutO (L31 :: ms) [] H_0 H35 L31 (D.lst (([ys28] : List (List Int)).map (fun y_ : (List Int) => (D.lst (y_.map (fun y_ : Int => (D.v (V.int y_)))))))) := mu34
      refine ⟨_, rfl, ?_⟩
      refine ⟨mo_tyL mu34, ?_⟩
      refine ⟨_, rfl, ?_⟩
      refine ⟨_, rfl, ?_⟩
      refine fun L36 nl37 => ?_
      have nm51 := nm_new hW nl37
      have ne52 := mo_ne nl37 mu34
      refine lc_rangeG (L := L36) (fun n_ ys_ h_ => Wd (L36 :: (L31 :: ms)) [] [] H_0 h_ ∧ Keep (L36 :: (L31 :: ms)) H35 h_ ∧ MutO (L36 :: (L31 :: ms)) [] H_0 h_ L36 (D.lst (ys_.map (fun y_ : Int => (D.v (V.int y_))))) ∧ ys_.length ≤ n_ ∧ MutO (L36 :: (L31 :: ms)) [] H_0 h_ L31 (D.lst (([ys28] : List (List Int)).map (fun y_ : (List Int) => (D.lst (y_.map (fun y_ : Int => (D.v (V.int y_))))))))) (lo := (0 : Int)) (hi := x_many) (N := Int.toNat x_many) (by simp) hM ⟨wd_cell hW nl37, keep_cell nl37 Keep.refl, mo_newL (ds := []) hW nl37 repL_nil, Nat.le_refl _, mo_cell nl37 mu34⟩ ?_ ?_
      · skip
        clear mu34
        rintro x47  n38 ys39 k40 H53 hn ⟨hW, hk41, mu42, ln43, mu54⟩ hM Nx46 hN44
        replace h_made := rep_keep hk41 (rep_new nl37 h_made)
        replace h30 := rep_keep hk41 (rep_new nl37 h30)
        refine ⟨rfl, ?_⟩
        refine tyes_of ?_
        refine ⟨_, rfl, ?_⟩
        refine ⟨_, rfl, ?_⟩
        refine ⟨_, rfl, ?_⟩
        refine ⟨_, rfl, ?_⟩
        refine ⟨(L36 :: (L31 :: ms)), _, x_made, x_many, x47, x_when, _, rfl, hW.enter0, h_made, hM, fun r55 u58 H59 hM e57 h56 => ?_⟩
        replace h_made := rep_ext e57 h_made
        replace h30 := rep_ext e57 h30
        replace hk41 := keep_ext e57 hk41
        replace mu54 := mo_ext e57 mu54
        replace mu42 := mo_ext e57 mu42
        replace hW := hW.ret0 e57
        obtain rfl := of_v h56
        refine mo_end mu42 hn (by rw [List.length_map]; exact ln43) fun vs60 hr61 => ?_
        have mk63 := mo_setL mu42 (repL_snoc (e := (fun y_ : Int => (D.v (V.int y_)))) (xs := ys39) (y := r55) hr61 rep_v)
        replace mu54 := mo_put (o := .lst (vs60 ++ [V.int r55])) mu42.im ne52 mu54
        replace h_made := rep_put (o := .lst (vs60 ++ [V.int r55])) mu42.im h_made
        replace h30 := rep_put (o := .lst (vs60 ++ [V.int r55])) mu42.im h30
        replace hk41 := keep_put (o := .lst (vs60 ++ [V.int r55])) mu42.im hk41
        replace hW := wd_put (o := .lst (vs60 ++ [V.int r55])) hW mu42
        replace mu42 := mk63
        generalize upd H59 L36 (.lst (vs60 ++ [V.int r55])) = H64 at *
        replace mu42 : MutO (L36 :: (L31 :: ms)) [] H_0 H64 L36 (D.lst ((ys39 ++ [r55]).map (fun y_ : Int => (D.v (V.int y_))))) := mu42
        clear mk63
        exact hN44 r55 _ hM ⟨hW, hk41, mu42, by rw [List.length_append]; exact Nat.add_le_add_right ln43 1, mu54⟩
      · skip
        clear mu34
        rintro n38 ys65 H66 hM ⟨hW, hk41, mu42, ln43, mu67⟩
        replace h_made := rep_keep hk41 (rep_new nl37 h_made)
        replace h30 := rep_keep hk41 (rep_new nl37 h30)
        clear hk41 ln43
        have h68 := mo_rep_dr dr_here nm51 mu42
        replace hW := wd_dr dr_here mu42.hp hW
        replace h_made := rep_dr dr_here h_made
        replace h30 := rep_dr dr_here h30
        replace mu67 := mo_dr dr_here ne52 mu67
        clear mu42
        obtain ⟨g69, hM⟩ := hM
        apply mo_appU mu67 (by rw [List.length_map]; exact g69)
        intro vs70 hr72
        have mk74 := mo_setL mu67 (repL_snoc (e := (fun y_ : (List Int) => (D.lst (y_.map (fun y_ : Int => (D.v (V.int y_))))))) (xs := ([ys28] : List (List Int))) (y := ys65) hr72 h68)
        replace h_made := rep_put (o := .lst (vs70 ++ [(V.ref L36)])) mu67.im h_made
        replace h30 := rep_put (o := .lst (vs70 ++ [(V.ref L36)])) mu67.im h30
        replace h68 := rep_put (o := .lst (vs70 ++ [(V.ref L36)])) mu67.im h68
        replace hW := wd_put (o := .lst (vs70 ++ [(V.ref L36)])) hW mu67
        replace mu67 := mk74
        generalize upd H66 L31 (.lst (vs70 ++ [(V.ref L36)])) = H75 at *
        replace mu67 : MutO (L31 :: ms) [] H_0 H75 L31 (D.lst ((([ys28] : List (List Int)) ++ [ys65]).map (fun y_ : (List Int) => (D.lst (y_.map (fun y_ : Int => (D.v (V.int y_)))))))) := mu67
        clear mk74
        have h76 := mo_rep_dr dr_here nm33 mu67
        replace hW := wd_dr dr_here mu67.hp hW
        replace h_made := rep_dr dr_here h_made
        replace h30 := rep_dr dr_here h30
        replace h68 := rep_dr dr_here h68
        clear mu67
        refine ⟨_, rfl, ?_⟩
        refine ⟨_, rfl, ?_⟩
        refine ⟨_, rfl, ?_⟩
        refine fun L77 nl78 => ?_
        have nm92 := nm_new hW nl78
        refine lc_rangeG (L := L77) (fun n_ ys_ h_ => Wd (L77 :: ms) [] [] H_0 h_ ∧ Keep (L77 :: ms) H75 h_ ∧ MutO (L77 :: ms) [] H_0 h_ L77 (D.lst (ys_.map (fun y_ : Str => (D.v (V.str y_))))) ∧ ys_.length ≤ n_) (lo := (0 : Int)) (hi := x_many) (N := Int.toNat x_many) (by simp) hM ⟨wd_cell hW nl78, keep_cell nl78 Keep.refl, mo_newL (ds := []) hW nl78 repL_nil, Nat.le_refl _⟩ ?_ ?_
        · skip
          rintro x88  n79 ys80 k81 H93 hn ⟨hW, hk82, mu83, ln84⟩ hM Nx87 hN85
          replace h_made := rep_keep hk82 (rep_new nl78 h_made)
          replace h30 := rep_keep hk82 (rep_new nl78 h30)
          replace h68 := rep_keep hk82 (rep_new nl78 h68)
          replace h76 := rep_keep hk82 (rep_new nl78 h76)
          refine ⟨rfl, ?_⟩
          refine tyes_of ?_
          refine ⟨_, rfl, ?_⟩
          refine ⟨_, rfl, ?_⟩
          refine ⟨_, rfl, ?_⟩
          refine ⟨_, rfl, ?_⟩
          refine ⟨(L77 :: ms), _, x_made, x_many, x88, x_when, _, rfl, hW.enter0, h_made, hM, fun r94 u97 H98 hM e96 h95 => ?_⟩
          replace h_made := rep_ext e96 h_made
          replace h30 := rep_ext e96 h30
          replace h68 := rep_ext e96 h68
          replace h76 := rep_ext e96 h76
          replace hk82 := keep_ext e96 hk82
          replace mu83 := mo_ext e96 mu83
          replace hW := hW.ret0 e96
          obtain rfl := of_v h95
          refine mo_end mu83 hn (by rw [List.length_map]; exact ln84) fun vs99 hr100 => ?_
          have mk102 := mo_setL mu83 (repL_snoc (e := (fun y_ : Str => (D.v (V.str y_)))) (xs := ys80) (y := r94) hr100 rep_v)
          replace h_made := rep_put (o := .lst (vs99 ++ [V.str r94])) mu83.im h_made
          replace h30 := rep_put (o := .lst (vs99 ++ [V.str r94])) mu83.im h30
          replace h68 := rep_put (o := .lst (vs99 ++ [V.str r94])) mu83.im h68
          replace h76 := rep_put (o := .lst (vs99 ++ [V.str r94])) mu83.im h76
          replace hk82 := keep_put (o := .lst (vs99 ++ [V.str r94])) mu83.im hk82
          replace hW := wd_put (o := .lst (vs99 ++ [V.str r94])) hW mu83
          replace mu83 := mk102
          generalize upd H98 L77 (.lst (vs99 ++ [V.str r94])) = H103 at *
          replace mu83 : MutO (L77 :: ms) [] H_0 H103 L77 (D.lst ((ys80 ++ [r94]).map (fun y_ : Str => (D.v (V.str y_))))) := mu83
          clear mk102
          exact hN85 r94 _ hM ⟨hW, hk82, mu83, by rw [List.length_append]; exact Nat.add_le_add_right ln84 1⟩
        · skip
          rintro n79 ys104 H105 hM ⟨hW, hk82, mu83, ln84⟩
          replace h_made := rep_keep hk82 (rep_new nl78 h_made)
          replace h30 := rep_keep hk82 (rep_new nl78 h30)
          replace h68 := rep_keep hk82 (rep_new nl78 h68)
          replace h76 := rep_keep hk82 (rep_new nl78 h76)
          clear hk82 ln84
          have h106 := mo_rep_dr dr_here nm92 mu83
          replace hW := wd_dr dr_here mu83.hp hW
          replace h_made := rep_dr dr_here h_made
          replace h30 := rep_dr dr_here h30
          replace h68 := rep_dr dr_here h68
          replace h76 := rep_dr dr_here h76
          clear mu83
          refine ⟨(by show 1 ≤ sizeLine; decide), ?_⟩
          intro p107 n111
          have e108 := Rx.Ext.new (H := H105) (o := (HO.lst [(V.ref L77)])) n111
          have hp109 : upd H105 p107 (HO.lst [(V.ref L77)]) p107 = some (HO.lst [(V.ref L77)]) := upd_same
          generalize upd H105 p107 (HO.lst [(V.ref L77)]) = H112 at e108 hp109 ⊢
          have h110 : rep ms H112 (D.lst (([ys104] : List (List Str)).map (fun y_ : (List Str) => (D.lst (y_.map (fun y_ : Str => (D.v (V.str y_)))))))) (.ref p107) := rep_lst_mk hW n111 e108 hp109 (repL_cons h106 repL_nil)
          replace h_made := rep_ext e108 h_made
          replace h30 := rep_ext e108 h30
          replace h68 := rep_ext e108 h68
          replace h76 := rep_ext e108 h76
          replace h106 := rep_ext e108 h106
          replace hW := hW.ret0 e108
          have h113 := rep_dynL (e := (fun y_ : (List Int) => (D.lst (y_.map (fun y_ : Int => (D.v (V.int y_))))))) (xs := (([ys28] : List (List Int)) ++ [ys65])) h76
          have h114 := rep_dynL (e := (fun y_ : (List Str) => (D.lst (y_.map (fun y_ : Str => (D.v (V.str y_))))))) (xs := ([ys104] : List (List Str))) h110
          obtain ⟨g115, hM⟩ := hM
          apply rep_cat (xs := ((([ys28] : List (List Int)) ++ [ys65]).map (fun y_ : (List Int) => (D.lst (y_.map (fun y_ : Int => (D.v (V.int y_)))))))) (ys := (([ys104] : List (List Str)).map (fun y_ : (List Str) => (D.lst (y_.map (fun y_ : Str => (D.v (V.str y_)))))))) (e := (fun y_ : D => y_)) hW h113 h114 g115
          intro p116 H119 e118 h117
          replace h_made := rep_ext e118 h_made
          replace h30 := rep_ext e118 h30
          replace h68 := rep_ext e118 h68
          replace h76 := rep_ext e118 h76
          replace h106 := rep_ext e118 h106
          replace h110 := rep_ext e118 h110
          replace h113 := rep_ext e118 h113
          replace h114 := rep_ext e118 h114
          replace hW := hW.ret0 e118
          exact hQ (((([ys28] : List (List Int)) ++ [ys65]).map (fun y_ : (List Int) => (D.lst (y_.map (fun y_ : Int => (D.v (V.int y_))))))) ++ (([ys104] : List (List Str)).map (fun y_ : (List Str) => (D.lst (y_.map (fun y_ : Str => (D.v (V.str y_)))))))) _ _ hM hW.out h117
def M_by_name (x_made : (Int × (Str × Str × Str) × Str × Bool)) (x_many : Int) (x_who : Int) (x_when : Int) (KM : (List D) → Prop) : Prop :=
  (M_seat x_made x_many x_who x_when fun r1 => (M_opponent x_made x_many x_who x_when fun r6 => (M_mark_of x_made x_many x_who x_when fun r17 => ((([r1, r6] : List Int).map (fun y_ : Int => (D.v (V.int y_)))).length + (([r17] : List Str).map (fun y_ : Str => (D.v (V.str y_)))).length ≤ sizeLine ∧ (KM ((([r1, r6] : List Int).map (fun y_ : Int => (D.v (V.int y_)))) ++ (([r17] : List Str).map (fun y_ : Str => (D.v (V.str y_))))))))))
def sp_by_name (A : Ad) : Sp := fun vs H Q _ => ∃ (ms : List Addr) (v_made : V) (x_made : (Int × (Str × Str × Str) × Str × Bool)) (x_many : Int) (x_who : Int) (x_when : Int) (KM : (List D) → Prop), vs = [v_made, V.int x_many, V.int x_who, V.int x_when] ∧ Wd ms [] [] H H ∧ rep ms H (eRule A x_made) v_made ∧ M_by_name x_made x_many x_who x_when KM ∧ ∀ (r : (List D)) (u : V) (H1 : Hp), KM r → Ret [] H H1 → rep ms H1 (D.lst (r.map (fun y_ : D => y_))) u → Q u H1
set_option maxHeartbeats 16000000 in
theorem ok_by_name {P : Program} {w : World} {K : PySem.W.Frag} {mg : Str → Option Value} {base : Heap} {A : Ad} (T : Txt w K mg A) : FnOk P w K mg base CX0 9 A.a_by_name A.d_by_name ["_law_made", "_law_many", "_law_who", "_law_when"] (sp_by_name A) := by
  refine T.F_by_name.ok sc_by_name (fun vs H Q E h => ?_) (fun cdv A_ outer s_ H_0 vs Q E hr h => ?_)
  · obtain ⟨ms, v_made, x_made, x_many, x_who, x_when, KM, rfl, _⟩ := h
    rfl
  · obtain ⟨ms, v_made, x_made, x_many, x_who, x_when, KM, rfl, hW, h_made, hM, hQ⟩ := h
    unfold M_by_name at hM
    refine ⟨_, (pss_cons (ps_set (i := 4) sc_by_name.nd rfl (by first | exact Or.inl rfl | exact Or.inr rfl) (pe_lst (pa_cons (pe_callKw (ok_seat T) (hr.mono (by decide)) (by rfl) T.g_seat T.F_seat.kp T.k_seat_day_team_size_rule pass0 (pk_cons (pv 3) (pk_cons (pv 2) (pk_cons (pv 1) (pk_cons (pv 0) pk_nil))))) (pa_cons (pe_callKw (ok_opponent T) (hr.mono (by decide)) (by rfl) T.g_opponent T.F_opponent.kp T.k_opponent_team_day_rule_size pass0 (pk_cons (pv 2) (pk_cons (pv 3) (pk_cons (pv 0) (pk_cons (pv 1) pk_nil))))) pa_nil)))) (pss_one (ps_ret (pe_op op_cat (pv 4) (pe_lst (pa_cons (pe_callKw (ok_mark_of T) (hr.mono (by decide)) (by rfl) T.g_mark_of T.F_mark_of.kp T.k_mark_of_size_rule_day_team pass0 (pk_cons (pv 1) (pk_cons (pv 0) (pk_cons (pv 3) (pk_cons (pv 2) pk_nil))))) pa_nil)))))), ?_⟩
    refine ⟨_, rfl, ?_⟩
    refine ⟨_, rfl, ?_⟩
    refine ⟨_, rfl, ?_⟩
    refine ⟨_, rfl, ?_⟩
    refine ⟨rfl, ?_⟩
    refine ⟨ms, _, x_made, x_many, x_who, x_when, _, rfl, hW.enter0, h_made, hM, fun r1 u4 H5 hM e3 h2 => ?_⟩
    replace h_made := rep_ext e3 h_made
    replace hW := hW.ret0 e3
    obtain rfl := of_v h2
    refine ⟨_, rfl, ?_⟩
    refine ⟨_, rfl, ?_⟩
    refine ⟨_, rfl, ?_⟩
    refine ⟨_, rfl, ?_⟩
    refine ⟨rfl, ?_⟩
    refine ⟨ms, _, x_made, x_many, x_who, x_when, _, rfl, hW.enter0, h_made, hM, fun r6 u9 H10 hM e8 h7 => ?_⟩
    replace h_made := rep_ext e8 h_made
    replace hW := hW.ret0 e8
    obtain rfl := of_v h7
    refine ⟨(by show 2 ≤ sizeLine; decide), ?_⟩
    intro p11 n15
    have e12 := Rx.Ext.new (H := H10) (o := (HO.lst [V.int r1, V.int r6])) n15
    have hp13 : upd H10 p11 (HO.lst [V.int r1, V.int r6]) p11 = some (HO.lst [V.int r1, V.int r6]) := upd_same
    generalize upd H10 p11 (HO.lst [V.int r1, V.int r6]) = H16 at e12 hp13 ⊢
    have h14 : rep ms H16 (D.lst (([r1, r6] : List Int).map (fun y_ : Int => (D.v (V.int y_))))) (.ref p11) := rep_lst_mk hW n15 e12 hp13 (repL_cons rep_v (repL_cons rep_v repL_nil))
    replace h_made := rep_ext e12 h_made
    replace hW := hW.ret0 e12
    refine ⟨_, rfl, ?_⟩
    refine ⟨_, rfl, ?_⟩
    refine ⟨_, rfl, ?_⟩
    refine ⟨_, rfl, ?_⟩
    refine ⟨_, rfl, ?_⟩
    refine ⟨rfl, ?_⟩
    refine ⟨ms, _, x_made, x_many, x_who, x_when, _, rfl, hW.enter0, h_made, hM, fun r17 u20 H21 hM e19 h18 => ?_⟩
    replace h_made := rep_ext e19 h_made
    replace h14 := rep_ext e19 h14
    replace hW := hW.ret0 e19
    obtain rfl := of_v h18
    refine ⟨(by show 1 ≤ sizeLine; decide), ?_⟩
    intro p22 n26
    have e23 := Rx.Ext.new (H := H21) (o := (HO.lst [V.str r17])) n26
    have hp24 : upd H21 p22 (HO.lst [V.str r17]) p22 = some (HO.lst [V.str r17]) := upd_same
    generalize upd H21 p22 (HO.lst [V.str r17]) = H27 at e23 hp24 ⊢
    have h25 : rep ms H27 (D.lst (([r17] : List Str).map (fun y_ : Str => (D.v (V.str y_))))) (.ref p22) := rep_lst_mk hW n26 e23 hp24 (repL_cons rep_v repL_nil)
    replace h_made := rep_ext e23 h_made
    replace h14 := rep_ext e23 h14
    replace hW := hW.ret0 e23
    have h28 := rep_dynL (e := (fun y_ : Int => (D.v (V.int y_)))) (xs := ([r1, r6] : List Int)) h14
    have h29 := rep_dynL (e := (fun y_ : Str => (D.v (V.str y_)))) (xs := ([r17] : List Str)) h25
    obtain ⟨g30, hM⟩ := hM
    apply rep_cat (xs := (([r1, r6] : List Int).map (fun y_ : Int => (D.v (V.int y_))))) (ys := (([r17] : List Str).map (fun y_ : Str => (D.v (V.str y_))))) (e := (fun y_ : D => y_)) hW h28 h29 g30
    intro p31 H34 e33 h32
    replace h_made := rep_ext e33 h_made
    replace h14 := rep_ext e33 h14
    replace h25 := rep_ext e33 h25
    replace h28 := rep_ext e33 h28
    replace h29 := rep_ext e33 h29
    replace hW := hW.ret0 e33
    exact hQ ((([r1, r6] : List Int).map (fun y_ : Int => (D.v (V.int y_)))) ++ (([r17] : List Str).map (fun y_ : Str => (D.v (V.str y_))))) _ _ hM hW.out h32
def M_right (KM : Bool → Prop) : Prop :=
  (M_model  fun r1 => (M_model  fun r6 => (([r1, r6] : List (Int × (Str × Str × Str) × Str × Bool)).length < 100000 ∧ mapC (fun (x38 : (Int × (Str × Str × Str) × Str × Bool)) (k31 : Int → Prop) => (M_least x38 fun r46 => (M_draw (6 : Int) fun r51 => (k31 (r46 + r51))))) ([r1, r6] : List (Int × (Str × Str × Str) × Str × Bool)) [] fun ys61 => (([r1, r6] : List (Int × (Str × Str × Str) × Str × Bool)).length < 100000 ∧ mapC (fun (x81 : (Int × (Str × Str × Str) × Str × Bool)) (k74 : (Int × (Str × Str × Str) × Str × Bool) → Prop) => (M_rule x81 fun r89 => (k74 r89))) ([r1, r6] : List (Int × (Str × Str × Str) × Str × Bool)) [] fun ys99 => (forC (fun (x108 : Int) (s110 : (List (List Int))) (k111 : ((List (List Int))) → Prop) => (M_draw (((2 : Int) * x108) + (1 : Int)) fun r120 => (M_draw (((2 : Int) * x108) + (1 : Int)) fun r125 => (s110.length < 16777216 ∧ (k111 ((s110 ++ [([(0 : Int), (1 : Int), ((((2 : Int) * x108) + (1 : Int)) - (1 : Int)), r120, r125] : List Int)]))))))) ys61 (([] : List (List Int))) fun s143 => (forC (fun (x150 : Int) (s152 : Unit) (k153 : Unit → Prop) => (forC (fun (x166 : Int) (s168 : Unit) (k169 : Unit → Prop) => (forC (fun (x181 : Int) (s183 : Unit) (k184 : Unit → Prop) => (0 ≤ x181 ∧ ∃ g196 : Int.toNat x181 < ys61.length, ∀ x198, x198 = ys61[Int.toNat x181]'g196 → (0 ≤ x181 ∧ ∃ g201 : Int.toNat x181 < s143.length, ∀ x203, x203 = s143[Int.toNat x181]'g201 → (0 ≤ x166 ∧ ∃ g206 : Int.toNat x166 < x203.length, ∀ x208, x208 = x203[Int.toNat x166]'g206 → (0 ≤ x181 ∧ ∃ g211 : Int.toNat x181 < ([r1, r6] : List (Int × (Str × Str × Str) × Str × Bool)).length, ∀ x213, x213 = ([r1, r6] : List (Int × (Str × Str × Str) × Str × Bool))[Int.toNat x181]'g211 → (0 ≤ x181 ∧ ∃ g216 : Int.toNat x181 < ys61.length, ∀ x218, x218 = ys61[Int.toNat x181]'g216 → (M_due x213 x218 x208 fun r220 => (0 ≤ x181 ∧ ∃ g226 : Int.toNat x181 < ys99.length, ∀ x228, x228 = ys99[Int.toNat x181]'g226 → (M_told x228 (((2 : Int) * x198) + (2 : Int)) x208 fun r230 => ((plainD (D.lst (r230.map (fun y_ : D => y_))) = true ∧ (pyOf (D.lst (r230.map (fun y_ : D => y_)))).showable = true ∧ (pyOf (D.lst (r230.map (fun y_ : D => y_)))).hasDict = false ∧ (pyOf (D.lst (r230.map (fun y_ : D => y_)))).depth ≤ 60 ∧ (pyOf (D.lst (r230.map (fun y_ : D => y_)))).shown.length ≤ sizeLine) ∧ ((plainD (D.lst [(D.lst (r220.1.map (fun y_ : Int => (D.v (V.int y_))))), (D.lst (r220.2.1.map (fun y_ : Int => (D.v (V.int y_))))), (D.lst (r220.2.2.map (fun y_ : Str => (D.v (V.str y_)))))]) = true ∧ (pyOf (D.lst [(D.lst (r220.1.map (fun y_ : Int => (D.v (V.int y_))))), (D.lst (r220.2.1.map (fun y_ : Int => (D.v (V.int y_))))), (D.lst (r220.2.2.map (fun y_ : Str => (D.v (V.str y_)))))])).showable = true ∧ (pyOf (D.lst [(D.lst (r220.1.map (fun y_ : Int => (D.v (V.int y_))))), (D.lst (r220.2.1.map (fun y_ : Int => (D.v (V.int y_))))), (D.lst (r220.2.2.map (fun y_ : Str => (D.v (V.str y_)))))])).hasDict = false ∧ (pyOf (D.lst [(D.lst (r220.1.map (fun y_ : Int => (D.v (V.int y_))))), (D.lst (r220.2.1.map (fun y_ : Int => (D.v (V.int y_))))), (D.lst (r220.2.2.map (fun y_ : Str => (D.v (V.str y_)))))])).depth ≤ 60 ∧ (pyOf (D.lst [(D.lst (r220.1.map (fun y_ : Int => (D.v (V.int y_))))), (D.lst (r220.2.1.map (fun y_ : Int => (D.v (V.int y_))))), (D.lst (r220.2.2.map (fun y_ : Str => (D.v (V.str y_)))))])).shown.length ≤ sizeLine) ∧ (if (!(decide (V.str (pyOf (D.lst (r230.map (fun y_ : D => y_)))).shown = V.str (pyOf (D.lst [(D.lst (r220.1.map (fun y_ : Int => (D.v (V.int y_))))), (D.lst (r220.2.1.map (fun y_ : Int => (D.v (V.int y_))))), (D.lst (r220.2.2.map (fun y_ : Str => (D.v (V.str y_)))))])).shown))) = true then (KM false) else (M_draw ((((2 : Int) * x198) + (2 : Int)) - (1 : Int)) fun r237 => (0 ≤ x181 ∧ ∃ g243 : Int.toNat x181 < ys99.length, ∀ x245, x245 = ys99[Int.toNat x181]'g243 → (M_by_name x245 (((2 : Int) * x198) + (2 : Int)) r237 x208 fun r247 => (0 ≤ r237 ∧ ∃ g255 : Int.toNat r237 < r220.1.length, ∀ x257, x257 = r220.1[Int.toNat r237]'g255 → (0 ≤ r237 ∧ ∃ g262 : Int.toNat r237 < r220.2.1.length, ∀ x264, x264 = r220.2.1[Int.toNat r237]'g262 → (0 ≤ r237 ∧ ∃ g269 : Int.toNat r237 < r220.2.2.length, ∀ x271, x271 = r220.2.2[Int.toNat r237]'g269 → (((plainD (D.lst (r247.map (fun y_ : D => y_))) = true ∧ plainD (D.lst (([(D.v (V.int x257)), (D.v (V.int x264)), (D.v (V.str x271))] : List D).map (fun y_ : D => y_))) = true ∧ SeqAt.shaped (pyOf (D.lst (r247.map (fun y_ : D => y_)))) = true ∧ SeqAt.shaped (pyOf (D.lst (([(D.v (V.int x257)), (D.v (V.int x264)), (D.v (V.str x271))] : List D).map (fun y_ : D => y_)))) = true)) ∧ (if (!(PyData.eqv (pyOf (D.lst (r247.map (fun y_ : D => y_)))) (pyOf (D.lst (([(D.v (V.int x257)), (D.v (V.int x264)), (D.v (V.str x271))] : List D).map (fun y_ : D => y_)))))) = true then (KM false) else (k184 ()))))))))))))))))))))) (rangeI (0 : Int) (2 : Int)) () fun s280 => (k169 ()))) (rangeI (0 : Int) (5 : Int)) () fun s288 => (k153 ()))) (rangeI (0 : Int) (2 : Int)) () fun s297 => (KM true)))))))
def sp_right (A : Ad) : Sp := fun vs H Q _ => ∃ (ms : List Addr) (ap : Addr) (KM : Bool → Prop), vs = [.ref ap] ∧ Wd ms [ap] [] H H ∧ M_right  KM ∧ ∀ (r : Bool) (u : V) (H1 : Hp), KM r → Ret [ap] H H1 → rep ms H1 (D.v (V.bl r)) u → Q u H1
set_option maxHeartbeats 16000000 in
theorem ok_right {P : Program} {w : World} {K : PySem.W.Frag} {mg : Str → Option Value} {base : Heap} {A : Ad} (T : Txt w K mg A) : FnG P w K mg base 10 A.a_right A.d_right ["_law_pot_here"] (sp_right A) := by
  refine okG T.F_right sc_right (fun vs H Q E h => ?_) (fun cdv A_ outer s_ H_0 vs Q E gu hr h => ?_)
  · obtain ⟨ms, ap, KM, rfl, _⟩ := h
    rfl
  · obtain ⟨ms, ap, KM, rfl, hW, hM, hQ⟩ := h
    unfold M_right at hM
    refine ⟨_, (pss_cons (ps_par (i := 1) (j := 2) (by rfl) sc_right.nd rfl rfl (by decide) rfl rfl (pa_cons (pe_lst (pa_cons (pe_call (ok_model T) (hr.mono (by decide)) (by rfl) T.g_model T.F_model.kp T.b_model .nil pass0 (pa_cons (pv 0) pa_nil)) (pa_cons (pe_call (ok_model T) (hr.mono (by decide)) (by rfl) T.g_model T.F_model.kp T.b_model .nil pass0 (pa_cons (pv 0) pa_nil)) pa_nil))) (pa_cons (pe_lst pa_nil) pa_nil)) (by rfl)) (pss_cons (ps_setLc (i := 3) (own := [("_law_model_here", 14)]) (g := gName 14) rfl sc_right.nd rfl rfl (sw_true rfl rfl rfl (by decide +kernel)) (pi_list (pv 1)) (blkOk_by (N := ["_law_pot_here", "_law_models", "_law_days", "_law_halves", "_law_makes", "_law_half", "_law_ring", "_law_turn", "_law_at", "_law_k", "_law_many", "_law_when", "_law_due_here", "_law_who", "_law_model_here"]) (sc := defScope s_right) (by decide +kernel)) (fun _ _ _ _ _ => pg_name (i := 14) sc_right.nd rfl (by first | exact Or.inl rfl | exact Or.inr rfl)) (fun _ _ _ _ _ => pts_nil) (fun _ _ _ _ _ => (pe_op op_add (pe_call (ok_least T) (hr.mono (by decide)) (by rfl) T.g_least T.F_least.kp T.b_least .nil pass0 (pa_cons (pv 14) pa_nil)) (pe_call (ok_draw T) (hr.mono (by decide)) (by rfl) T.g_draw T.F_draw.kp T.b_draw .nil pass0 (pa_cons (pv 0) (pa_cons pe_int pa_nil)))))) (pss_cons (ps_setLc (i := 4) (own := [("_law_model_here", 14)]) (g := gName 14) rfl sc_right.nd rfl rfl (sw_true rfl rfl rfl (by decide +kernel)) (pi_list (pv 1)) (blkOk_by (N := ["_law_pot_here", "_law_models", "_law_days", "_law_halves", "_law_makes", "_law_half", "_law_ring", "_law_turn", "_law_at", "_law_k", "_law_many", "_law_when", "_law_due_here", "_law_who", "_law_model_here"]) (sc := defScope s_right) (by decide +kernel)) (fun _ _ _ _ _ => pg_name (i := 14) sc_right.nd rfl (by first | exact Or.inl rfl | exact Or.inr rfl)) (fun _ _ _ _ _ => pts_nil) (fun _ _ _ _ _ => (pe_call (ok_rule T) (hr.mono (by decide)) (by rfl) T.g_rule T.F_rule.kp T.b_rule .nil pass0 (pa_cons (pv 14) pa_nil)))) (pss_cons (ps_for PassesOwn.never rfl (pi_list (pv 3)) (pg_name (i := 5) sc_right.nd rfl (by first | exact Or.inl rfl | exact Or.inr rfl)) (pss_cons (ps_set (i := 6) sc_right.nd rfl (by first | exact Or.inl rfl | exact Or.inr rfl) (pe_op op_add (pe_op op_mul pe_int (pv 5)) pe_int)) (pss_one (ps_expr (pe_bmK (K := K) rfl PySem.F.plainAttrs_list PySem.F.slot_list_append PySem.F.type_list_append mt_append (pv 2) (pa_cons (pe_lst (pa_cons pe_int (pa_cons pe_int (pa_cons (pe_op op_sub (pv 6) pe_int) (pa_cons (pe_call (ok_draw T) (hr.mono (by decide)) (by rfl) T.g_draw T.F_draw.kp T.b_draw .nil pass0 (pa_cons (pv 0) (pa_cons (pv 6) pa_nil))) (pa_cons (pe_call (ok_draw T) (hr.mono (by decide)) (by rfl) T.g_draw T.F_draw.kp T.b_draw .nil pass0 (pa_cons (pv 0) (pa_cons (pv 6) pa_nil))) pa_nil)))))) pa_nil)))))) (pss_cons (ps_for PassesOwn.never rfl (pi_rangeW1 (by rfl) T.z_range (pa_cons pe_int pa_nil)) (pg_name (i := 7) sc_right.nd rfl (by first | exact Or.inl rfl | exact Or.inr rfl)) (pss_one (ps_for PassesOwn.never rfl (pi_rangeW1 (by rfl) T.z_range (pa_cons pe_int pa_nil)) (pg_name (i := 8) sc_right.nd rfl (by first | exact Or.inl rfl | exact Or.inr rfl)) (pss_one (ps_for PassesOwn.never rfl (pi_rangeW1 (by rfl) T.z_range (pa_cons pe_int pa_nil)) (pg_name (i := 9) sc_right.nd rfl (by first | exact Or.inl rfl | exact Or.inr rfl)) (pss_cons (ps_par (i := 10) (j := 11) (by rfl) sc_right.nd rfl rfl (by decide) rfl rfl (pa_cons (pe_op op_add (pe_op op_mul pe_int (pe_ix (ix_listK (K := K) rfl) (pv 3) (pv 9) (fun _ _ => rfl))) pe_int) (pa_cons (pe_ix (ix_listK (K := K) rfl) (pe_ix (ix_listK (K := K) rfl) (pv 2) (pv 9) (fun _ _ => rfl)) (pv 8) (fun _ _ => rfl)) pa_nil)) (by rfl)) (pss_cons (ps_set (i := 12) sc_right.nd rfl (by first | exact Or.inl rfl | exact Or.inr rfl) (pe_call (ok_due T) (hr.mono (by decide)) (by rfl) T.g_due T.F_due.kp T.b_due .nil pass0 (pa_cons (pe_ix (ix_listK (K := K) rfl) (pv 1) (pv 9) (fun _ _ => rfl)) (pa_cons (pe_ix (ix_listK (K := K) rfl) (pv 3) (pv 9) (fun _ _ => rfl)) (pa_cons (pv 11) pa_nil))))) (pss_cons (ps_if (pt_cmpR op_ne (pe_callB (call_reprAK (K := K) rfl gu hr) (by rfl) T.z_repr (by decide +kernel) (pa_cons (pe_call (ok_told T) (hr.mono (by decide)) (by rfl) T.g_told T.F_told.kp T.b_told .nil pass0 (pa_cons (pe_ix (ix_listK (K := K) rfl) (pv 4) (pv 9) (fun _ _ => rfl)) (pa_cons (pv 10) (pa_cons (pv 11) pa_nil)))) pa_nil)) (pe_callB (call_reprAK (K := K) rfl gu hr) (by rfl) T.z_repr (by decide +kernel) (pa_cons (pv 12) pa_nil)) (nomark _)) (pss_one (ps_ret pe_bl)) pss_nil) (pss_cons (ps_set (i := 13) sc_right.nd rfl (by first | exact Or.inl rfl | exact Or.inr rfl) (pe_call (ok_draw T) (hr.mono (by decide)) (by rfl) T.g_draw T.F_draw.kp T.b_draw .nil pass0 (pa_cons (pv 0) (pa_cons (pe_op op_sub (pv 10) pe_int) pa_nil)))) (pss_one (ps_if (pt_cmpR (op_neDK (K := K) rfl hr.units) (pe_call (ok_by_name T) (hr.mono (by decide)) (by rfl) T.g_by_name T.F_by_name.kp T.b_by_name .nil pass0 (pa_cons (pe_ix (ix_listK (K := K) rfl) (pv 4) (pv 9) (fun _ _ => rfl)) (pa_cons (pv 10) (pa_cons (pv 13) (pa_cons (pv 11) pa_nil))))) (pe_lst (pa_cons (pe_ix (ix_listK (K := K) rfl) (pe_ix (ix_listK (K := K) rfl) (pv 12) pe_int (fun _ _ => rfl)) (pv 13) (fun _ _ => rfl)) (pa_cons (pe_ix (ix_listK (K := K) rfl) (pe_ix (ix_listK (K := K) rfl) (pv 12) pe_int (fun _ _ => rfl)) (pv 13) (fun _ _ => rfl)) (pa_cons (pe_ix (ix_listK (K := K) rfl) (pe_ix (ix_listK (K := K) rfl) (pv 12) pe_int (fun _ _ => rfl)) (pv 13) (fun _ _ => rfl)) pa_nil)))) (nomark _)) (pss_one (ps_ret pe_bl)) pss_nil))))))))))) (pss_one (ps_ret pe_bl))))))), ?_⟩
    refine ⟨_, rfl, ?_⟩
    refine ⟨ms, ap, _, rfl, hW.enterP, hM, fun r1 u4 H5 hM e3 h2 => ?_⟩
    replace hW := hW.retP e3
    refine ⟨_, rfl, ?_⟩
    refine ⟨ms, ap, _, rfl, hW.enterP, hM, fun r6 u9 H10 hM e8 h7 => ?_⟩
    replace h2 := rep_ret hW e8 h2
    replace hW := hW.retP e8
    refine ⟨(by show 2 ≤ sizeLine; decide), ?_⟩
    intro p11 n15
    have e12 := Rx.Ext.new (H := H10) (o := (HO.lst [u4, u9])) n15
    have hp13 : upd H10 p11 (HO.lst [u4, u9]) p11 = some (HO.lst [u4, u9]) := upd_same
    generalize upd H10 p11 (HO.lst [u4, u9]) = H16 at e12 hp13 ⊢
    have h14 : rep ms H16 (D.lst (([r1, r6] : List (Int × (Str × Str × Str) × Str × Bool)).map (fun y_ : (Int × (Str × Str × Str) × Str × Bool) => (D.dct [(Sum.inr ("stride" : Str) : Key), (Sum.inr ("parts" : Str) : Key), (Sum.inr ("stand" : Str) : Key), (Sum.inr ("flips" : Str) : Key)] [(D.v (V.int y_.1)), (D.tup [(D.v (V.str y_.2.1.1)), (D.v (V.str y_.2.1.2.1)), (D.v (V.str y_.2.1.2.2))]), (D.v (V.str y_.2.2.1)), (D.v (V.bl y_.2.2.2))])))) (.ref p11) := rep_lst_mk hW n15 e12 hp13 (repL_cons h2 (repL_cons h7 repL_nil))
    replace h2 := rep_ext e12 h2
    replace h7 := rep_ext e12 h7
    replace hW := hW.ret0 e12
    refine ⟨(by show 0 ≤ sizeLine; decide), ?_⟩
    intro L17 nl18
    have nm19 := nm_new hW nl18
    have mu20 := mo_newL (ds := ([] : List (List Int)).map (fun y_ : (List Int) => (D.lst (y_.map (fun y_ : Int => (D.v (V.int y_))))))) (vs := []) hW nl18 repL_nil
    replace h2 := rep_cell (o := .lst []) nl18 h2
    replace h7 := rep_cell (o := .lst []) nl18 h7
    replace h14 := rep_cell (o := .lst []) nl18 h14
    replace hW := wd_cell (o := .lst []) hW nl18
    generalize upd H16 L17 (.lst []) = H21 at *
    replace mu20 : MutO (L17 :: ms) [ap] H_0 H21 L17 (D.lst (([] : List (List Int)).map (fun y_ : (List Int) => (D.lst (y_.map (fun y_ : Int => (D.v (V.int y_)))))))) := mu20
    refine ⟨_, _, rfl, ?_⟩
    refine ⟨_, rfl, ?_⟩
    apply rep_iter h14
    intro a22 xs23 _ an24 hp25 hl26
    refine fun L27 nl28 => ?_
    have nm42 := nm_new hW nl28
    have ne43 := mo_ne nl28 mu20
    refine lc_listG (L := L27) (fun n_ ys_ h_ => Wd (L27 :: (L17 :: ms)) [ap] [] H_0 h_ ∧ Keep (L27 :: (L17 :: ms)) H21 h_ ∧ MutO (L27 :: (L17 :: ms)) [ap] H_0 h_ L27 (D.lst (ys_.map (fun y_ : Int => (D.v (V.int y_))))) ∧ ys_.length ≤ n_ ∧ MutO (L27 :: (L17 :: ms)) [ap] H_0 h_ L17 (D.lst (([] : List (List Int)).map (fun y_ : (List Int) => (D.lst (y_.map (fun y_ : Int => (D.v (V.int y_))))))))) (items := ([r1, r6] : List (Int × (Str × Str × Str) × Str × Bool))) (e := (fun y_ : (Int × (Str × Str × Str) × Str × Bool) => (D.dct [(Sum.inr ("stride" : Str) : Key), (Sum.inr ("parts" : Str) : Key), (Sum.inr ("stand" : Str) : Key), (Sum.inr ("flips" : Str) : Key)] [(D.v (V.int y_.1)), (D.tup [(D.v (V.str y_.2.1.1)), (D.v (V.str y_.2.1.2.1)), (D.v (V.str y_.2.1.2.2))]), (D.v (V.str y_.2.2.1)), (D.v (V.bl y_.2.2.2))]))) an24 hp25 hl26 nl28 (fun _ _ _ q_ => q_.2.1) hM ⟨wd_cell hW nl28, keep_cell nl28 Keep.refl, mo_newL (ds := []) hW nl28 repL_nil, Nat.le_refl _, mo_cell nl28 mu20⟩ ?_ ?_
    · skip
      clear mu20
      rintro x38 u39 n29 ys30 k31 H44 hn ⟨hW, hk32, mu33, ln34, mu45⟩ h40 hM Nx37 hN35
      replace h2 := rep_keep hk32 (rep_new nl28 h2)
      replace h7 := rep_keep hk32 (rep_new nl28 h7)
      replace h14 := rep_keep hk32 (rep_new nl28 h14)
      refine ⟨rfl, ?_⟩
      refine tyes_of ?_
      refine ⟨_, rfl, ?_⟩
      refine ⟨(L27 :: (L17 :: ms)), _, x38, _, rfl, hW.enter0, h40, hM, fun r46 u49 H50 hM e48 h47 => ?_⟩
      replace h2 := rep_ext e48 h2
      replace h7 := rep_ext e48 h7
      replace h14 := rep_ext e48 h14
      replace hk32 := keep_ext e48 hk32
      replace h40 := rep_ext e48 h40
      replace mu45 := mo_ext e48 mu45
      replace mu33 := mo_ext e48 mu33
      replace hW := hW.ret0 e48
      obtain rfl := of_v h47
      refine ⟨_, rfl, ?_⟩
      refine ⟨(L27 :: (L17 :: ms)), ap, (6 : Int), _, rfl, hW.enterP, hM, fun r51 u54 H55 hM e53 h52 => ?_⟩
      replace h2 := rep_ret hW e53 h2
      replace h7 := rep_ret hW e53 h7
      replace h14 := rep_ret hW e53 h14
      replace hk32 := keep_ret hW e53 hk32
      replace h40 := rep_ret hW e53 h40
      replace mu45 := mo_ret hW e53 mu45
      replace mu33 := mo_ret hW e53 mu33
      replace hW := hW.retP e53
      obtain rfl := of_v h52
      refine ⟨_, _, rfl, rfl, ?_⟩
      refine mo_end mu33 hn (by rw [List.length_map]; exact ln34) fun vs56 hr57 => ?_
      have mk59 := mo_setL mu33 (repL_snoc (e := (fun y_ : Int => (D.v (V.int y_)))) (xs := ys30) (y := (r46 + r51)) hr57 rep_v)
      replace mu45 := mo_put (o := .lst (vs56 ++ [V.int (r46 + r51)])) mu33.im ne43 mu45
      replace h2 := rep_put (o := .lst (vs56 ++ [V.int (r46 + r51)])) mu33.im h2
      replace h7 := rep_put (o := .lst (vs56 ++ [V.int (r46 + r51)])) mu33.im h7
      replace h14 := rep_put (o := .lst (vs56 ++ [V.int (r46 + r51)])) mu33.im h14
      replace hk32 := keep_put (o := .lst (vs56 ++ [V.int (r46 + r51)])) mu33.im hk32
      replace h40 := rep_put (o := .lst (vs56 ++ [V.int (r46 + r51)])) mu33.im h40
      replace hW := wd_put (o := .lst (vs56 ++ [V.int (r46 + r51)])) hW mu33
      replace mu33 := mk59
      generalize upd H55 L27 (.lst (vs56 ++ [V.int (r46 + r51)])) = H60 at *
      replace mu33 : MutO (L27 :: (L17 :: ms)) [ap] H_0 H60 L27 (D.lst ((ys30 ++ [(r46 + r51)]).map (fun y_ : Int => (D.v (V.int y_))))) := mu33
      clear mk59
      exact hN35 (r46 + r51) _ hM ⟨hW, hk32, mu33, by rw [List.length_append]; exact Nat.add_le_add_right ln34 1, mu45⟩
    · skip
      clear mu20
      rintro n29 ys61 H62 hM ⟨hW, hk32, mu33, ln34, mu63⟩
      replace h2 := rep_keep hk32 (rep_new nl28 h2)
      replace h7 := rep_keep hk32 (rep_new nl28 h7)
      replace h14 := rep_keep hk32 (rep_new nl28 h14)
      clear hk32 ln34
      have h64 := mo_rep_dr dr_here nm42 mu33
      replace hW := wd_dr dr_here mu33.hp hW
      replace h2 := rep_dr dr_here h2
      replace h7 := rep_dr dr_here h7
      replace h14 := rep_dr dr_here h14
      replace mu63 := mo_dr dr_here ne43 mu63
      clear mu33
      refine ⟨_, rfl, ?_⟩
      apply rep_iter h14
      intro a65 xs66 _ an67 hp68 hl69
      refine fun L70 nl71 => ?_
      have nm85 := nm_new hW nl71
      have ne86 := mo_ne nl71 mu63
      refine lc_listG (L := L70) (fun n_ ys_ h_ => Wd (L70 :: (L17 :: ms)) [ap] [] H_0 h_ ∧ Keep (L70 :: (L17 :: ms)) H62 h_ ∧ MutO (L70 :: (L17 :: ms)) [ap] H_0 h_ L70 (D.lst (ys_.map (fun y_ : (Int × (Str × Str × Str) × Str × Bool) => (eRule A y_)))) ∧ ys_.length ≤ n_ ∧ MutO (L70 :: (L17 :: ms)) [ap] H_0 h_ L17 (D.lst (([] : List (List Int)).map (fun y_ : (List Int) => (D.lst (y_.map (fun y_ : Int => (D.v (V.int y_))))))))) (items := ([r1, r6] : List (Int × (Str × Str × Str) × Str × Bool))) (e := (fun y_ : (Int × (Str × Str × Str) × Str × Bool) => (D.dct [(Sum.inr ("stride" : Str) : Key), (Sum.inr ("parts" : Str) : Key), (Sum.inr ("stand" : Str) : Key), (Sum.inr ("flips" : Str) : Key)] [(D.v (V.int y_.1)), (D.tup [(D.v (V.str y_.2.1.1)), (D.v (V.str y_.2.1.2.1)), (D.v (V.str y_.2.1.2.2))]), (D.v (V.str y_.2.2.1)), (D.v (V.bl y_.2.2.2))]))) an67 hp68 hl69 nl71 (fun _ _ _ q_ => q_.2.1) hM ⟨wd_cell hW nl71, keep_cell nl71 Keep.refl, mo_newL (ds := []) hW nl71 repL_nil, Nat.le_refl _, mo_cell nl71 mu63⟩ ?_ ?_
      · skip
        clear mu63
        rintro x81 u82 n72 ys73 k74 H87 hn ⟨hW, hk75, mu76, ln77, mu88⟩ h83 hM Nx80 hN78
        replace h2 := rep_keep hk75 (rep_new nl71 h2)
        replace h7 := rep_keep hk75 (rep_new nl71 h7)
        replace h14 := rep_keep hk75 (rep_new nl71 h14)
        replace h64 := rep_keep hk75 (rep_new nl71 h64)
        refine ⟨rfl, ?_⟩
        refine tyes_of ?_
        refine ⟨_, rfl, ?_⟩
        refine ⟨(L70 :: (L17 :: ms)), _, x81, _, rfl, hW.enter0, h83, hM, fun r89 u92 H93 hM e91 h90 => ?_⟩
        replace h2 := rep_ext e91 h2
        replace h7 := rep_ext e91 h7
        replace h14 := rep_ext e91 h14
        replace h64 := rep_ext e91 h64
        replace hk75 := keep_ext e91 hk75
        replace h83 := rep_ext e91 h83
        replace mu88 := mo_ext e91 mu88
        replace mu76 := mo_ext e91 mu76
        replace hW := hW.ret0 e91
        refine mo_end mu76 hn (by rw [List.length_map]; exact ln77) fun vs94 hr95 => ?_
        have mk97 := mo_setL mu76 (repL_snoc (e := (fun y_ : (Int × (Str × Str × Str) × Str × Bool) => (eRule A y_))) (xs := ys73) (y := r89) hr95 h90)
        replace mu88 := mo_put (o := .lst (vs94 ++ [u92])) mu76.im ne86 mu88
        replace h2 := rep_put (o := .lst (vs94 ++ [u92])) mu76.im h2
        replace h7 := rep_put (o := .lst (vs94 ++ [u92])) mu76.im h7
        replace h14 := rep_put (o := .lst (vs94 ++ [u92])) mu76.im h14
        replace h64 := rep_put (o := .lst (vs94 ++ [u92])) mu76.im h64
        replace hk75 := keep_put (o := .lst (vs94 ++ [u92])) mu76.im hk75
        replace h83 := rep_put (o := .lst (vs94 ++ [u92])) mu76.im h83
        replace h90 := rep_put (o := .lst (vs94 ++ [u92])) mu76.im h90
        replace hW := wd_put (o := .lst (vs94 ++ [u92])) hW mu76
        replace mu76 := mk97
        generalize upd H93 L70 (.lst (vs94 ++ [u92])) = H98 at *
        replace mu76 : MutO (L70 :: (L17 :: ms)) [ap] H_0 H98 L70 (D.lst ((ys73 ++ [r89]).map (fun y_ : (Int × (Str × Str × Str) × Str × Bool) => (eRule A y_)))) := mu76
        clear mk97
        exact hN78 r89 _ hM ⟨hW, hk75, mu76, by rw [List.length_append]; exact Nat.add_le_add_right ln77 1, mu88⟩
      · skip
        clear mu63
        rintro n72 ys99 H100 hM ⟨hW, hk75, mu76, ln77, mu101⟩
        replace h2 := rep_keep hk75 (rep_new nl71 h2)
        replace h7 := rep_keep hk75 (rep_new nl71 h7)
        replace h14 := rep_keep hk75 (rep_new nl71 h14)
        replace h64 := rep_keep hk75 (rep_new nl71 h64)
        clear hk75 ln77
        have h102 := mo_rep_dr dr_here nm85 mu76
        replace hW := wd_dr dr_here mu76.hp hW
        replace h2 := rep_dr dr_here h2
        replace h7 := rep_dr dr_here h7
        replace h14 := rep_dr dr_here h14
        replace h64 := rep_dr dr_here h64
        replace mu101 := mo_dr dr_here ne86 mu101
        clear mu76
        refine ⟨_, rfl, ?_⟩
        apply rep_iter h64
        intro a103 xs104 _ an105 hp106 hl107
        refine for_listG (S := (List (List Int))) (items := ys61) (e := (fun y_ : Int => (D.v (V.int y_)))) (ms := (L17 :: ms)) (fun (s : (List (List Int))) σ_ h_ => ∃ (w_0 : Option V), ∃ (w_1 : Option V), σ_ = [some (V.ref ap), some (V.ref p11), some (V.ref L17), some (V.ref L27), some (V.ref L70), w_0, w_1, none, none, none, none, none, none, none, none] ∧ Wd (L17 :: ms) [ap] [] H_0 h_ ∧ Keep (L17 :: ms) H100 h_ ∧ MutO (L17 :: ms) [ap] H_0 h_ L17 (D.lst (s.map (fun y_ : (List Int) => (D.lst (y_.map (fun y_ : Int => (D.v (V.int y_))))))))) (([] : List (List Int))) an105 hp106 hl107 (fun _ _ _ z_ => by obtain ⟨_, _, _, _, q_, _⟩ := z_; exact q_) hM ⟨_, _, rfl, hW, Keep.refl, mu101⟩ ?_ ?_
        · skip
          clear mu101
          rintro x108 u109 s110 k111 _ H119 ⟨w116, w117, rfl, hW, hk112, mu118⟩ h113 hM Nx114 hN115
          replace h2 := rep_keep hk112 h2
          replace h7 := rep_keep hk112 h7
          replace h14 := rep_keep hk112 h14
          replace h64 := rep_keep hk112 h64
          replace h102 := rep_keep hk112 h102
          obtain rfl := of_v h113
          refine ⟨_, rfl, ?_⟩
          refine ⟨_, _, rfl, rfl, .inl ⟨by decide, by decide⟩, ?_⟩
          refine ⟨_, _, rfl, rfl, ?_⟩
          refine ⟨_, rfl, ?_⟩
          refine ⟨mo_tyL mu118, ?_⟩
          refine ⟨_, rfl, ?_⟩
          refine ⟨_, _, rfl, rfl, ?_⟩
          refine ⟨_, rfl, ?_⟩
          refine ⟨_, rfl, ?_⟩
          refine ⟨(L17 :: ms), ap, (((2 : Int) * x108) + (1 : Int)), _, rfl, hW.enterP, hM, fun r120 u123 H124 hM e122 h121 => ?_⟩
          replace h2 := rep_ret hW e122 h2
          replace h7 := rep_ret hW e122 h7
          replace h14 := rep_ret hW e122 h14
          replace h64 := rep_ret hW e122 h64
          replace h102 := rep_ret hW e122 h102
          replace hk112 := keep_ret hW e122 hk112
          replace mu118 := mo_ret hW e122 mu118
          replace hW := hW.retP e122
          obtain rfl := of_v h121
          refine ⟨_, rfl, ?_⟩
          refine ⟨_, rfl, ?_⟩
          refine ⟨(L17 :: ms), ap, (((2 : Int) * x108) + (1 : Int)), _, rfl, hW.enterP, hM, fun r125 u128 H129 hM e127 h126 => ?_⟩
          replace h2 := rep_ret hW e127 h2
          replace h7 := rep_ret hW e127 h7
          replace h14 := rep_ret hW e127 h14
          replace h64 := rep_ret hW e127 h64
          replace h102 := rep_ret hW e127 h102
          replace hk112 := keep_ret hW e127 hk112
          replace mu118 := mo_ret hW e127 mu118
          replace hW := hW.retP e127
          obtain rfl := of_v h126
          refine ⟨(by show 5 ≤ sizeLine; decide), ?_⟩
          intro p130 n134
          have e131 := Rx.Ext.new (H := H129) (o := (HO.lst [V.int (0 : Int), V.int (1 : Int), V.int ((((2 : Int) * x108) + (1 : Int)) - (1 : Int)), V.int r120, V.int r125])) n134
          have hp132 : upd H129 p130 (HO.lst [V.int (0 : Int), V.int (1 : Int), V.int ((((2 : Int) * x108) + (1 : Int)) - (1 : Int)), V.int r120, V.int r125]) p130 = some (HO.lst [V.int (0 : Int), V.int (1 : Int), V.int ((((2 : Int) * x108) + (1 : Int)) - (1 : Int)), V.int r120, V.int r125]) := upd_same
          generalize upd H129 p130 (HO.lst [V.int (0 : Int), V.int (1 : Int), V.int ((((2 : Int) * x108) + (1 : Int)) - (1 : Int)), V.int r120, V.int r125]) = H135 at e131 hp132 ⊢
          have h133 : rep (L17 :: ms) H135 (D.lst (([(0 : Int), (1 : Int), ((((2 : Int) * x108) + (1 : Int)) - (1 : Int)), r120, r125] : List Int).map (fun y_ : Int => (D.v (V.int y_))))) (.ref p130) := rep_lst_mk hW n134 e131 hp132 (repL_cons rep_v (repL_cons rep_v (repL_cons rep_v (repL_cons rep_v (repL_cons rep_v repL_nil)))))
          replace h2 := rep_ext e131 h2
          replace h7 := rep_ext e131 h7
          replace h14 := rep_ext e131 h14
          replace h64 := rep_ext e131 h64
          replace h102 := rep_ext e131 h102
          replace hk112 := keep_ext e131 hk112
          replace mu118 := mo_ext e131 mu118
          replace hW := hW.ret0 e131
          obtain ⟨g136, hM⟩ := hM
          apply mo_appU mu118 (by rw [List.length_map]; exact g136)
          intro vs137 hr139
          have mk141 := mo_setL mu118 (repL_snoc (e := (fun y_ : (List Int) => (D.lst (y_.map (fun y_ : Int => (D.v (V.int y_))))))) (xs := s110) (y := ([(0 : Int), (1 : Int), ((((2 : Int) * x108) + (1 : Int)) - (1 : Int)), r120, r125] : List Int)) hr139 h133)
          replace h2 := rep_put (o := .lst (vs137 ++ [(V.ref p130)])) mu118.im h2
          replace h7 := rep_put (o := .lst (vs137 ++ [(V.ref p130)])) mu118.im h7
          replace h14 := rep_put (o := .lst (vs137 ++ [(V.ref p130)])) mu118.im h14
          replace h64 := rep_put (o := .lst (vs137 ++ [(V.ref p130)])) mu118.im h64
          replace h102 := rep_put (o := .lst (vs137 ++ [(V.ref p130)])) mu118.im h102
          replace hk112 := keep_put (o := .lst (vs137 ++ [(V.ref p130)])) mu118.im hk112
          replace h133 := rep_put (o := .lst (vs137 ++ [(V.ref p130)])) mu118.im h133
          replace hW := wd_put (o := .lst (vs137 ++ [(V.ref p130)])) hW mu118
          replace mu118 := mk141
          generalize upd H135 L17 (.lst (vs137 ++ [(V.ref p130)])) = H142 at *
          replace mu118 : MutO (L17 :: ms) [ap] H_0 H142 L17 (D.lst ((s110 ++ [([(0 : Int), (1 : Int), ((((2 : Int) * x108) + (1 : Int)) - (1 : Int)), r120, r125] : List Int)]).map (fun y_ : (List Int) => (D.lst (y_.map (fun y_ : Int => (D.v (V.int y_)))))))) := mu118
          clear mk141
          exact hN115 ((s110 ++ [([(0 : Int), (1 : Int), ((((2 : Int) * x108) + (1 : Int)) - (1 : Int)), r120, r125] : List Int)])) _ _ hM ⟨_, _, rfl, hW, hk112, mu118⟩
        · skip
          clear mu101
          rintro s143 _ H148 hM ⟨w145, w146, rfl, hW, hk144, mu147⟩
          replace h2 := rep_keep hk144 h2
          replace h7 := rep_keep hk144 h7
          replace h14 := rep_keep hk144 h14
          replace h64 := rep_keep hk144 h64
          replace h102 := rep_keep hk144 h102
          have h149 := mo_rep_dr dr_here nm19 mu147
          replace hW := wd_dr dr_here mu147.hp hW
          replace h2 := rep_dr dr_here h2
          replace h7 := rep_dr dr_here h7
          replace h14 := rep_dr dr_here h14
          replace h64 := rep_dr dr_here h64
          replace h102 := rep_dr dr_here h102
          clear mu147
          refine ⟨_, rfl, ?_⟩
          refine for_rangeG (S := Unit) (lo := (0 : Int)) (hi := (2 : Int)) (N := Int.toNat (2 : Int)) (fun (s : Unit) σ_ h_ => ∃ (w_0 : Option V), ∃ (w_1 : Option V), ∃ (w_2 : Option V), ∃ (w_3 : Option V), ∃ (w_4 : Option V), ∃ (w_5 : Option V), ∃ (w_6 : Option V), σ_ = [some (V.ref ap), some (V.ref p11), some (V.ref L17), some (V.ref L27), some (V.ref L70), w145, w146, w_0, w_1, w_2, w_3, w_4, w_5, w_6, none] ∧ Wd ms [ap] [] H_0 h_ ∧ Keep ms H148 h_) () (by simp) hM ⟨_, _, _, _, _, _, _, rfl, hW, Keep.refl⟩ ?_ ?_
          · skip
            rintro x150 s152 k153 _ H165 ⟨w158, w159, w160, w161, w162, w163, w164, rfl, hW, hk154⟩ hM Nx156 hN157
            replace h2 := rep_keep hk154 h2
            replace h7 := rep_keep hk154 h7
            replace h14 := rep_keep hk154 h14
            replace h64 := rep_keep hk154 h64
            replace h102 := rep_keep hk154 h102
            replace h149 := rep_keep hk154 h149
            refine ⟨_, rfl, ?_⟩
            refine for_rangeG (S := Unit) (lo := (0 : Int)) (hi := (5 : Int)) (N := Int.toNat (5 : Int)) (fun (s : Unit) σ_ h_ => ∃ (w_0 : Option V), ∃ (w_1 : Option V), ∃ (w_2 : Option V), ∃ (w_3 : Option V), ∃ (w_4 : Option V), ∃ (w_5 : Option V), σ_ = [some (V.ref ap), some (V.ref p11), some (V.ref L17), some (V.ref L27), some (V.ref L70), w145, w146, some (V.int x150), w_0, w_1, w_2, w_3, w_4, w_5, none] ∧ Wd ms [ap] [] H_0 h_ ∧ Keep ms H165 h_) () (by simp) hM ⟨_, _, _, _, _, _, rfl, hW, Keep.refl⟩ ?_ ?_
            · skip
              rintro x166 s168 k169 _ H180 ⟨w174, w175, w176, w177, w178, w179, rfl, hW, hk170⟩ hM Nx172 hN173
              replace h2 := rep_keep hk170 h2
              replace h7 := rep_keep hk170 h7
              replace h14 := rep_keep hk170 h14
              replace h64 := rep_keep hk170 h64
              replace h102 := rep_keep hk170 h102
              replace h149 := rep_keep hk170 h149
              replace hk154 := Keep.trans hk154 hk170
              refine ⟨_, rfl, ?_⟩
              refine for_rangeG (S := Unit) (lo := (0 : Int)) (hi := (2 : Int)) (N := Int.toNat (2 : Int)) (fun (s : Unit) σ_ h_ => ∃ (w_0 : Option V), ∃ (w_1 : Option V), ∃ (w_2 : Option V), ∃ (w_3 : Option V), ∃ (w_4 : Option V), σ_ = [some (V.ref ap), some (V.ref p11), some (V.ref L17), some (V.ref L27), some (V.ref L70), w145, w146, some (V.int x150), some (V.int x166), w_0, w_1, w_2, w_3, w_4, none] ∧ Wd ms [ap] [] H_0 h_ ∧ Keep ms H180 h_) () (by simp) hM ⟨_, _, _, _, _, rfl, hW, Keep.refl⟩ ?_ ?_
              · skip
                rintro x181 s183 k184 _ H194 ⟨w189, w190, w191, w192, w193, rfl, hW, hk185⟩ hM Nx187 hN188
                replace h2 := rep_keep hk185 h2
                replace h7 := rep_keep hk185 h7
                replace h14 := rep_keep hk185 h14
                replace h64 := rep_keep hk185 h64
                replace h102 := rep_keep hk185 h102
                replace h149 := rep_keep hk185 h149
                replace hk154 := Keep.trans hk154 hk185
                replace hk170 := Keep.trans hk170 hk185
                refine ⟨_, rfl, ?_⟩
                refine ⟨_, rfl, ?_⟩
                obtain ⟨g195, g196, hM⟩ := hM
                apply rep_ixL (e := (fun y_ : Int => (D.v (V.int y_)))) (xs := ys61) h64 g195 g196
                intro u199 h197
                obtain ⟨x198, x198e⟩ : ∃ x_, x_ = ys61[Int.toNat x181]'g196 := ⟨_, rfl⟩
                rw [← x198e] at h197
                replace hM := hM x198 x198e
                obtain rfl := of_v h197
                refine ⟨_, _, rfl, rfl, .inl ⟨by decide, by decide⟩, ?_⟩
                refine ⟨_, _, rfl, rfl, ?_⟩
                refine ⟨_, rfl, ?_⟩
                refine ⟨_, rfl, ?_⟩
                obtain ⟨g200, g201, hM⟩ := hM
                apply rep_ixL (e := (fun y_ : (List Int) => (D.lst (y_.map (fun y_ : Int => (D.v (V.int y_))))))) (xs := s143) h149 g200 g201
                intro u204 h202
                obtain ⟨x203, x203e⟩ : ∃ x_, x_ = s143[Int.toNat x181]'g201 := ⟨_, rfl⟩
                rw [← x203e] at h202
                replace hM := hM x203 x203e
                refine ⟨_, rfl, ?_⟩
                obtain ⟨g205, g206, hM⟩ := hM
                apply rep_ixL (e := (fun y_ : Int => (D.v (V.int y_)))) (xs := x203) h202 g205 g206
                intro u209 h207
                obtain ⟨x208, x208e⟩ : ∃ x_, x_ = x203[Int.toNat x166]'g206 := ⟨_, rfl⟩
                rw [← x208e] at h207
                replace hM := hM x208 x208e
                obtain rfl := of_v h207
                refine ⟨_, _, rfl, ?_⟩
                refine ⟨_, rfl, ?_⟩
                refine ⟨_, rfl, ?_⟩
                obtain ⟨g210, g211, hM⟩ := hM
                apply rep_ixL (e := (fun y_ : (Int × (Str × Str × Str) × Str × Bool) => (D.dct [(Sum.inr ("stride" : Str) : Key), (Sum.inr ("parts" : Str) : Key), (Sum.inr ("stand" : Str) : Key), (Sum.inr ("flips" : Str) : Key)] [(D.v (V.int y_.1)), (D.tup [(D.v (V.str y_.2.1.1)), (D.v (V.str y_.2.1.2.1)), (D.v (V.str y_.2.1.2.2))]), (D.v (V.str y_.2.2.1)), (D.v (V.bl y_.2.2.2))]))) (xs := ([r1, r6] : List (Int × (Str × Str × Str) × Str × Bool))) h14 g210 g211
                intro u214 h212
                obtain ⟨x213, x213e⟩ : ∃ x_, x_ = ([r1, r6] : List (Int × (Str × Str × Str) × Str × Bool))[Int.toNat x181]'g211 := ⟨_, rfl⟩
                rw [← x213e] at h212
                replace hM := hM x213 x213e
                refine ⟨_, rfl, ?_⟩
                refine ⟨_, rfl, ?_⟩
                obtain ⟨g215, g216, hM⟩ := hM
                apply rep_ixL (e := (fun y_ : Int => (D.v (V.int y_)))) (xs := ys61) h64 g215 g216
                intro u219 h217
                obtain ⟨x218, x218e⟩ : ∃ x_, x_ = ys61[Int.toNat x181]'g216 := ⟨_, rfl⟩
                rw [← x218e] at h217
                replace hM := hM x218 x218e
                obtain rfl := of_v h217
                refine ⟨_, rfl, ?_⟩
                refine ⟨ms, _, x213, x218, x208, _, rfl, hW.enter0, h212, hM, fun r220 u223 H224 hM e222 h221 => ?_⟩
                replace h2 := rep_ext e222 h2
                replace h7 := rep_ext e222 h7
                replace h14 := rep_ext e222 h14
                replace h64 := rep_ext e222 h64
                replace h102 := rep_ext e222 h102
                replace h149 := rep_ext e222 h149
                replace hk154 := keep_ext e222 hk154
                replace hk170 := keep_ext e222 hk170
                replace hk185 := keep_ext e222 hk185
                replace h202 := rep_ext e222 h202
                replace h212 := rep_ext e222 h212
                replace hW := hW.ret0 e222
                refine ⟨_, rfl, ?_⟩
                refine ⟨_, rfl, ?_⟩
                obtain ⟨g225, g226, hM⟩ := hM
                apply rep_ixL (e := (fun y_ : (Int × (Str × Str × Str) × Str × Bool) => (eRule A y_))) (xs := ys99) h102 g225 g226
                intro u229 h227
                obtain ⟨x228, x228e⟩ : ∃ x_, x_ = ys99[Int.toNat x181]'g226 := ⟨_, rfl⟩
                rw [← x228e] at h227
                replace hM := hM x228 x228e
                refine ⟨_, rfl, ?_⟩
                refine ⟨_, rfl, ?_⟩
                refine ⟨ms, _, x228, (((2 : Int) * x198) + (2 : Int)), x208, _, rfl, hW.enter0, h227, hM, fun r230 u233 H234 hM e232 h231 => ?_⟩
                replace h2 := rep_ext e232 h2
                replace h7 := rep_ext e232 h7
                replace h14 := rep_ext e232 h14
                replace h64 := rep_ext e232 h64
                replace h102 := rep_ext e232 h102
                replace h149 := rep_ext e232 h149
                replace hk154 := keep_ext e232 hk154
                replace hk170 := keep_ext e232 hk170
                replace hk185 := keep_ext e232 hk185
                replace h202 := rep_ext e232 h202
                replace h212 := rep_ext e232 h212
                replace h221 := rep_ext e232 h221
                replace h227 := rep_ext e232 h227
                replace hW := hW.ret0 e232
                obtain ⟨g235, hM⟩ := hM
                apply rep_repr (d := (D.lst (r230.map (fun y_ : D => y_)))) h231 g235.1 g235.2.1 g235.2.2.1 g235.2.2.2.1 g235.2.2.2.2
                refine ⟨_, rfl, ?_⟩
                obtain ⟨g236, hM⟩ := hM
                apply rep_repr (d := (D.lst [(D.lst (r220.1.map (fun y_ : Int => (D.v (V.int y_))))), (D.lst (r220.2.1.map (fun y_ : Int => (D.v (V.int y_))))), (D.lst (r220.2.2.map (fun y_ : Str => (D.v (V.str y_)))))])) h221 g236.1 g236.2.1 g236.2.2.1 g236.2.2.2.1 g236.2.2.2.2
                refine ⟨rfl, ?_⟩
                refine ⟨_, rfl, ?_⟩
                refine ite3 hM (fun hM => ?_) (fun hM => ?_)
                · skip
                  exact hQ false _ _ hM hW.out rep_v
                · skip
                  refine ⟨_, rfl, ?_⟩
                  refine ⟨_, rfl, ?_⟩
                  refine ⟨_, _, rfl, rfl, ?_⟩
                  refine ⟨ms, ap, ((((2 : Int) * x198) + (2 : Int)) - (1 : Int)), _, rfl, hW.enterP, hM, fun r237 u240 H241 hM e239 h238 => ?_⟩
                  replace h2 := rep_ret hW e239 h2
                  replace h7 := rep_ret hW e239 h7
                  replace h14 := rep_ret hW e239 h14
                  replace h64 := rep_ret hW e239 h64
                  replace h102 := rep_ret hW e239 h102
                  replace h149 := rep_ret hW e239 h149
                  replace hk154 := keep_ret hW e239 hk154
                  replace hk170 := keep_ret hW e239 hk170
                  replace hk185 := keep_ret hW e239 hk185
                  replace h202 := rep_ret hW e239 h202
                  replace h212 := rep_ret hW e239 h212
                  replace h221 := rep_ret hW e239 h221
                  replace h227 := rep_ret hW e239 h227
                  replace h231 := rep_ret hW e239 h231
                  replace hW := hW.retP e239
                  obtain rfl := of_v h238
                  refine ⟨_, rfl, ?_⟩
                  refine ⟨_, rfl, ?_⟩
                  obtain ⟨g242, g243, hM⟩ := hM
                  apply rep_ixL (e := (fun y_ : (Int × (Str × Str × Str) × Str × Bool) => (eRule A y_))) (xs := ys99) h102 g242 g243
                  intro u246 h244
                  obtain ⟨x245, x245e⟩ : ∃ x_, x_ = ys99[Int.toNat x181]'g243 := ⟨_, rfl⟩
                  rw [← x245e] at h244
                  replace hM := hM x245 x245e
                  refine ⟨_, rfl, ?_⟩
                  refine ⟨_, rfl, ?_⟩
                  refine ⟨_, rfl, ?_⟩
                  refine ⟨ms, _, x245, (((2 : Int) * x198) + (2 : Int)), r237, x208, _, rfl, hW.enter0, h244, hM, fun r247 u250 H251 hM e249 h248 => ?_⟩
                  replace h2 := rep_ext e249 h2
                  replace h7 := rep_ext e249 h7
                  replace h14 := rep_ext e249 h14
                  replace h64 := rep_ext e249 h64
                  replace h102 := rep_ext e249 h102
                  replace h149 := rep_ext e249 h149
                  replace hk154 := keep_ext e249 hk154
                  replace hk170 := keep_ext e249 hk170
                  replace hk185 := keep_ext e249 hk185
                  replace h202 := rep_ext e249 h202
                  replace h212 := rep_ext e249 h212
                  replace h221 := rep_ext e249 h221
                  replace h227 := rep_ext e249 h227
                  replace h231 := rep_ext e249 h231
                  replace h244 := rep_ext e249 h244
                  replace hW := hW.ret0 e249
                  refine ⟨_, rfl, ?_⟩
                  apply rep_ixH 0 h221 rfl rfl
                  intro u253 h252
                  refine ⟨_, rfl, ?_⟩
                  obtain ⟨g254, g255, hM⟩ := hM
                  apply rep_ixL (e := (fun y_ : Int => (D.v (V.int y_)))) (xs := r220.1) h252 g254 g255
                  intro u258 h256
                  obtain ⟨x257, x257e⟩ : ∃ x_, x_ = r220.1[Int.toNat r237]'g255 := ⟨_, rfl⟩
                  rw [← x257e] at h256
                  replace hM := hM x257 x257e
                  obtain rfl := of_v h256
                  refine ⟨_, rfl, ?_⟩
                  apply rep_ixH 1 h221 rfl rfl
                  intro u260 h259
                  refine ⟨_, rfl, ?_⟩
                  obtain ⟨g261, g262, hM⟩ := hM
                  apply rep_ixL (e := (fun y_ : Int => (D.v (V.int y_)))) (xs := r220.2.1) h259 g261 g262
                  intro u265 h263
                  obtain ⟨x264, x264e⟩ : ∃ x_, x_ = r220.2.1[Int.toNat r237]'g262 := ⟨_, rfl⟩
                  rw [← x264e] at h263
                  replace hM := hM x264 x264e
                  obtain rfl := of_v h263
                  refine ⟨_, rfl, ?_⟩
                  apply rep_ixH 2 h221 rfl rfl
                  intro u267 h266
                  refine ⟨_, rfl, ?_⟩
                  obtain ⟨g268, g269, hM⟩ := hM
                  apply rep_ixL (e := (fun y_ : Str => (D.v (V.str y_)))) (xs := r220.2.2) h266 g268 g269
                  intro u272 h270
                  obtain ⟨x271, x271e⟩ : ∃ x_, x_ = r220.2.2[Int.toNat r237]'g269 := ⟨_, rfl⟩
                  rw [← x271e] at h270
                  replace hM := hM x271 x271e
                  obtain rfl := of_v h270
                  refine ⟨(by show 3 ≤ sizeLine; decide), ?_⟩
                  intro p273 n277
                  have e274 := Rx.Ext.new (H := H251) (o := (HO.lst [V.int x257, V.int x264, V.str x271])) n277
                  have hp275 : upd H251 p273 (HO.lst [V.int x257, V.int x264, V.str x271]) p273 = some (HO.lst [V.int x257, V.int x264, V.str x271]) := upd_same
                  generalize upd H251 p273 (HO.lst [V.int x257, V.int x264, V.str x271]) = H278 at e274 hp275 ⊢
                  have h276 : rep ms H278 (D.lst (([(D.v (V.int x257)), (D.v (V.int x264)), (D.v (V.str x271))] : List D).map (fun y_ : D => y_))) (.ref p273) := rep_lst_mk hW n277 e274 hp275 (repL_cons rep_v (repL_cons rep_v (repL_cons rep_v repL_nil)))
                  replace h2 := rep_ext e274 h2
                  replace h7 := rep_ext e274 h7
                  replace h14 := rep_ext e274 h14
                  replace h64 := rep_ext e274 h64
                  replace h102 := rep_ext e274 h102
                  replace h149 := rep_ext e274 h149
                  replace hk154 := keep_ext e274 hk154
                  replace hk170 := keep_ext e274 hk170
                  replace hk185 := keep_ext e274 hk185
                  replace h202 := rep_ext e274 h202
                  replace h212 := rep_ext e274 h212
                  replace h221 := rep_ext e274 h221
                  replace h227 := rep_ext e274 h227
                  replace h231 := rep_ext e274 h231
                  replace h244 := rep_ext e274 h244
                  replace h248 := rep_ext e274 h248
                  replace h252 := rep_ext e274 h252
                  replace h259 := rep_ext e274 h259
                  replace h266 := rep_ext e274 h266
                  replace hW := hW.ret0 e274
                  obtain ⟨g279, hM⟩ := hM
                  apply rep_neD (d := (D.lst (r247.map (fun y_ : D => y_)))) (e := (D.lst (([(D.v (V.int x257)), (D.v (V.int x264)), (D.v (V.str x271))] : List D).map (fun y_ : D => y_)))) h248 h276 g279.1 g279.2.1 g279.2.2.1 g279.2.2.2
                  refine ⟨_, rfl, ?_⟩
                  refine ite3 hM (fun hM => ?_) (fun hM => ?_)
                  · skip
                    exact hQ false _ _ hM hW.out rep_v
                  · skip
                    exact hN188 () _ _ hM ⟨_, _, _, _, _, rfl, hW, hk185⟩
              · skip
                rintro s280 _ H287 hM ⟨w282, w283, w284, w285, w286, rfl, hW, hk281⟩
                replace h2 := rep_keep hk281 h2
                replace h7 := rep_keep hk281 h7
                replace h14 := rep_keep hk281 h14
                replace h64 := rep_keep hk281 h64
                replace h102 := rep_keep hk281 h102
                replace h149 := rep_keep hk281 h149
                replace hk154 := Keep.trans hk154 hk281
                replace hk170 := Keep.trans hk170 hk281
                exact hN173 () _ _ hM ⟨_, _, _, _, _, _, rfl, hW, hk170⟩
            · skip
              rintro s288 _ H296 hM ⟨w290, w291, w292, w293, w294, w295, rfl, hW, hk289⟩
              replace h2 := rep_keep hk289 h2
              replace h7 := rep_keep hk289 h7
              replace h14 := rep_keep hk289 h14
              replace h64 := rep_keep hk289 h64
              replace h102 := rep_keep hk289 h102
              replace h149 := rep_keep hk289 h149
              replace hk154 := Keep.trans hk154 hk289
              exact hN157 () _ _ hM ⟨_, _, _, _, _, _, _, rfl, hW, hk154⟩
          · skip
            rintro s297 _ H306 hM ⟨w299, w300, w301, w302, w303, w304, w305, rfl, hW, hk298⟩
            replace h2 := rep_keep hk298 h2
            replace h7 := rep_keep hk298 h7
            replace h14 := rep_keep hk298 h14
            replace h64 := rep_keep hk298 h64
            replace h102 := rep_keep hk298 h102
            replace h149 := rep_keep hk298 h149
            exact hQ true _ _ hM hW.out rep_v
/-! ### the pot of a cell, and the law -/
def sp_pot (K : PySem.W.Frag) : Sp := fun vs H Q _ => ∃ (a : Addr) (ns : List Int) (k : Int), vs = [.ref a, .int k] ∧ SqL K H a (ns.map V.int) ∧ ns.length ≤ 63 ∧ 0 ≤ k ∧ k ≤ 100 ∧
  ∀ (p : Addr) (H1 : Hp) (i j : Int), H p = none → Rx.Ext H H1 → H1 p = some (.lst [.int i, .int j]) → j.natAbs < 4294967296 → Q (.ref p) H1
theorem ok_pot {P : Program} {w : World} {K : PySem.W.Frag} {mg : Str → Option Value} {base : Heap} {A : Ad} (T : Txt w K mg A) : FnOk P w K mg base CX0 1 A.a_pot A.d_pot ["_law_script", "_law_k"] (sp_pot K) := by
  refine T.F_pot.ok sc_pot (fun vs H Q E h => ?_) (fun cdv A_ outer s_ H_0 vs Q E hr h => ?_)
  · obtain ⟨a, ns, k, rfl, _⟩ := h
    rfl
  · obtain ⟨a, ns, k, rfl, hS, hl, k0, k1, hQ⟩ := h
    refine ⟨_, pss_cons (ps_set (i := 2) sc_pot.nd rfl (.inl rfl) (pe_op op_add (pe_op op_mul pe_int (pv 1)) pe_int))
      (pss_cons (ps_if (pt_cmpR op_lt (pv 1) (pe_callB call_len (by rfl) T.z_len PySem.boot_len (pa_cons (pv 0) pa_nil)) (nomark _))
        (pss_one (ps_set (i := 2) sc_pot.nd rfl (.inl rfl) (pe_callB call_abs (by rfl) T.z_abs (by decide +kernel) (pa_cons (pe_ix ix_list (pv 0) (pv 1) (fun _ _ => rfl)) pa_nil)))) pss_nil)
      (pss_one (ps_ret (pe_lst (pa_cons (pe_callB (call_max2 rfl) (by rfl) T.z_max (by decide +kernel) (pa_cons pe_int (pa_cons (pe_op op_sub (pv 2) (pe_op op_pow pe_int pe_int)) pa_nil)))
        (pa_cons (pe_op op_add (pe_op op_mod (pe_callTy call_int1 (by rfl) T.z_int (by decide +kernel) (pa_cons (pe_op op_add (pe_op op_add (pe_op op_mul (pe_op op_mod (pe_callTy call_int1 (by rfl) T.z_int (by decide +kernel) (pa_cons (pv 2) pa_nil)) pe_int) pe_int) (pe_op op_mul pe_int (pv 1))) pe_int) pa_nil)) pe_int) pe_int) pa_nil)))))), ?_⟩
    refine ⟨_, rfl, _, _, rfl, rfl, .inl ⟨by decide, by decide⟩, _, _, rfl, rfl, ?_⟩
    refine ⟨_, rfl, _, rfl, _, ns.length, rfl, .inl ⟨_, hS, by rw [List.length_map]⟩, _, _, rfl, rfl, _, rfl, ?_⟩
    have fin : ∀ (c : Int) (p : Addr), H_0 p = none → Q (.ref p) (upd H_0 p (.lst [.int (if c - 10 ^ Int.toNat 18 > 0 then c - 10 ^ Int.toNat 18 else 0), .int ((c % 2147483549 * 40087 + 60013 * k + 29) % 2147483477 + 1)])) := fun c p np =>
      hQ p _ _ _ np (Rx.Ext.new np) upd_same (by omega)
    refine ite2 (fun c => ?_) (fun c => ?_)
    · have hk : k.toNat < ns.length := by
        have := of_decide_eq_true c
        omega
      refine ⟨_, rfl, _, rfl, a, _, k, .int (ns[k.toNat]), rfl, rfl, hS, at_of (j := k.toNat) (by omega) (by rw [List.getElem?_map, List.getElem?_eq_getElem hk]; rfl), _, rfl, ?_⟩
      refine ⟨_, rfl, _, _, rfl, rfl, ⟨by decide, by decide, by decide⟩, _, _, rfl, rfl, _, _, rfl, _, rfl, .inl ⟨_, rfl, _, _, rfl, rfl, (by show (0 : Int) < 2147483549; decide), _, _, rfl, rfl, .inr ⟨by decide, by decide⟩, _, rfl, _, _, rfl, rfl, .inl ⟨by decide, by decide⟩, _, _, rfl, rfl, _, _, rfl, rfl, .inl ⟨_, rfl, _, _, rfl, rfl, (by show (0 : Int) < 2147483477; decide), _, _, rfl, rfl, (by show 2 ≤ sizeLine; decide), fun p np => fin _ p np⟩⟩⟩
    · refine ⟨_, rfl, _, _, rfl, rfl, ⟨by decide, by decide, by decide⟩, _, _, rfl, rfl, _, _, rfl, _, rfl, .inl ⟨_, rfl, _, _, rfl, rfl, (by show (0 : Int) < 2147483549; decide), _, _, rfl, rfl, .inr ⟨by decide, by decide⟩, _, rfl, _, _, rfl, rfl, .inl ⟨by decide, by decide⟩, _, _, rfl, rfl, _, _, rfl, rfl, .inl ⟨_, rfl, _, _, rfl, rfl, (by show (0 : Int) < 2147483477; decide), _, _, rfl, rfl, (by show 2 ≤ sizeLine; decide), fun p np => fin _ p np⟩⟩⟩

/-! ### words: what the mirrors ask -/
open Wm
structure WV (w : Str × Str × Str) : Prop where
  h4 : (L w.1).length ≤ 4
  m1 : 1 ≤ (L w.2.1).length
  m4 : (L w.2.1).length ≤ 4
  t4 : (L w.2.2).length ≤ 4
  mh : ∀ c ∈ L w.1, c = 104 ∨ c = 97
  mm : ∀ c ∈ L w.2.1, c = 104 ∨ c = 97
  mt : ∀ c ∈ L w.2.2, c = 104 ∨ c = 97
theorem line_of {z : Str} {n : Nat} (h : (L z).length ≤ n) (hn : n ≤ 100000) : z.length ≤ sizeLine := by
  rw [len_L]
  exact Nat.le_trans h (Nat.le_trans hn (by decide))
theorem line4 {z : Str} (h : (L z).length ≤ 4) : z.length ≤ sizeLine := line_of h (by decide)
def lst (w : Str × Str × Str) : Int := if ((L w.1).length : Int) + (L w.2.2).length > 1 then ((L w.1).length : Int) + (L w.2.2).length else 1
theorem lst_ge {w : Str × Str × Str} : ((L w.1).length : Int) + (L w.2.2).length ≤ lst w ∧ 1 ≤ lst w := by
  unfold lst
  split <;> omega
theorem lst_le {w : Str × Str × Str} (hw : WV w) : lst w ≤ 8 := by
  have := hw.h4
  have := hw.t4
  unfold lst
  split <;> omega
theorem wleast_ok {w : Str × Str × Str} (hw : WV w) {k : Int → Prop} (q : k (lst w)) : M_Word_least w k := by
  unfold M_Word_least
  refine ⟨line4 hw.h4, line4 hw.t4, ?_⟩
  rw [len_L, len_L]
  exact q
abbrev rw_ (w : Str × Str × Str) (n : Int) : List Nat := row (L w.1) (L w.2.1) (L w.2.2) n.toNat
theorem rw_len {w : Str × Str × Str} {n : Int} (hn : lst w ≤ n) : (rw_ w n).length = n.toNat := row_len (by
  have := @lst_ge w
  omega)
theorem at_nat' {α : Type} {xs : List α} {i : Int} {c : α} (h0 : 0 ≤ i) (h : xs[i.toNat]? = some c) : atI xs i = some c := by
  rw [show i = ((i.toNat : Nat) : Int) by omega]
  exact atI_nat h
theorem emod_nat {x : Int} {n : Nat} (h : 0 ≤ x) : (x % (n : Int)).toNat = x.toNat % n := by
  have e : x = (x.toNat : Int) := by omega
  have : x % (n : Int) = ((x.toNat % n : Nat) : Int) := by rw [Int.natCast_emod, ← e]
  rw [this]
  rfl
theorem cm3 {i j : Int} {a : Nat} (ha : i.natAbs < 2 ^ a) (h0 : 0 < a) (hj : j.natAbs < 2 ^ 4) (h : a ≤ 1000) : CMulW i j := wide_mul ha hj h0 (by decide) (by omega)
theorem nat_lt_200 {i : Int} (h0 : 0 ≤ i) (h : i ≤ 10 ^ 60 + 1000) : i.natAbs < 2 ^ 201 := by
  have e : (10 : Int) ^ 60 + 1000 < 2 ^ 201 := by decide
  have e2 : ((2 ^ 201 : Nat) : Int) = (2 : Int) ^ 201 := by decide
  omega
theorem draw_ok {n : Int} {k : Int → Prop} (h0 : 0 < n) (h1 : n < 1073741824) (q : ∀ d, 0 ≤ d → d < n → k d) : M_draw n k := ⟨⟨h0, h1⟩, q⟩
theorem str1 (c : Nat) : (Str.mk #[c]).length = 1 := rfl
theorem signs_ok {few many : Int} (h0 : 0 ≤ few) (h1 : few ≤ many) (h4 : many ≤ 4) {k : Str → Prop} (q : ∀ z : Str, few ≤ (L z).length → ((L z).length : Int) ≤ many → (∀ c ∈ L z, c = 104 ∨ c = 97) → k z) : M_signs few many k := by
  unfold M_signs
  refine draw_ok (by omega) (by omega) fun d d0 d1 => ⟨by rw [rangeI_len]; omega, ?_⟩
  refine mapC_any (fun y => ∃ c, y = Str.mk #[c] ∧ (c = 104 ∨ c = 97)) (fun x _ k' hk => ?_) fun ys hl hp => ?_
  · refine draw_ok (by decide) (by decide) fun e e0 e1 => ⟨by decide +kernel, ?_⟩
    have he : e = 0 ∨ e = 1 := by omega
    rcases he with rfl | rfl
    · exact ⟨104, by decide +kernel, hk _ ⟨_, rfl, .inl rfl⟩⟩
    · exact ⟨97, by decide +kernel, hk _ ⟨_, rfl, .inr rfl⟩⟩
  · rw [List.nil_append]
    rw [rangeI_len] at hl
    have hs : ∀ zs : List Str, (∀ y ∈ zs, ∃ c, y = Str.mk #[c] ∧ (c = 104 ∨ c = 97)) → (zs.map (·.length)).sum = zs.length ∧ ((zs.map L).flatten).length = zs.length ∧ ∀ c ∈ (zs.map L).flatten, c = 104 ∨ c = 97 := by
      intro zs
      induction zs with
      | nil => intro _; exact ⟨rfl, rfl, fun c hc => absurd hc (by simp)⟩
      | cons z zs ih =>
        intro h
        obtain ⟨c, rfl, hc⟩ := h z List.mem_cons_self
        obtain ⟨i1, i2, i3⟩ := ih fun y hy => h y (List.mem_cons_of_mem _ hy)
        refine ⟨?_, ?_, fun c' hc' => ?_⟩
        · rw [List.map_cons, List.sum_cons, i1, str1, List.length_cons]
          omega
        · rw [List.map_cons, List.flatten_cons, List.length_append, i2, L_one, List.length_cons, List.length_cons, List.length_nil]
          omega
        · rw [List.map_cons, List.flatten_cons, L_one] at hc'
          rcases List.mem_append.mp hc' with hc' | hc'
          · rw [List.mem_singleton.mp hc']
            exact hc
          · exact i3 c' hc'
    obtain ⟨s1, s2, s3⟩ := hs ys hp
    refine ⟨?_, q _ ?_ ?_ ?_⟩
    · rw [s1, len_L, L_empty]
      show ys.length + ys.length * 0 ≤ _
      omega
    · rw [join_L, s2]
      omega
    · rw [join_L, s2]
      omega
    · rw [join_L]
      exact s3
theorem word_ok {w : Str × Str × Str} (hw : WV w) : M_Word_init w.1 w.2.1 w.2.2 := by
  have one : ∀ {z : Str} {k : Unit → Prop}, (L z).length ≤ 4 → (∀ c ∈ L z, c = 104 ∨ c = 97) → k () → M_check_part z k := fun {z k} h4 hm q => by
    unfold M_check_part M_is_marks
    refine ⟨line4 h4, ?_⟩
    rw [count_h, count_a, marks_all _ hm, len_L]
    show (if (!decide (V.int _ = V.int _)) = true then _ else _)
    rw [if_neg (by simp)]
    refine ⟨line4 h4, ?_⟩
    rw [if_neg (by simp only [decide_eq_true_eq]; omega)]
    exact q
  unfold M_Word_init
  refine one hw.h4 hw.mh (one hw.m4 hw.mm ?_)
  rw [if_neg]
  · exact one hw.t4 hw.mt trivial
  · rw [eqS, L_empty]
    have := hw.m1
    simp
    intro z
    rw [show L w.2.1 = [] from by rw [L, z]] at this
    simp at this
def standers : List Str := ["home", "away", "even", "odd"]
theorem stander_in {s : Str} (h : s ∈ standers) : ∃ c, wd_CONTRARY_STANDERS.lookup s = some c := by
  simp only [standers, List.mem_cons, List.not_mem_nil, or_false] at h
  rcases h with rfl | rfl | rfl | rfl
  · exact ⟨"away", by decide +kernel⟩
  · exact ⟨"home", by decide +kernel⟩
  · exact ⟨"odd", by decide +kernel⟩
  · exact ⟨"even", by decide +kernel⟩
theorem rinit_ok {st : Int} {w : Str × Str × Str} {s : Str} {t : Bool} (h0 : st ≠ 0) (h7 : st.natAbs ≤ 7) (hs : s ∈ standers) {k : Int × (Str × Str × Str) × Str × Bool → Prop} (q : k (st, w, s, t)) : M_Rule_init st w s t k := by
  obtain ⟨c, hc⟩ := stander_in hs
  unfold M_Rule_init M_is_integer
  have a : (if st < 0 then -st else st) ≤ 7 := by split <;> omega
  show if (!(!false)) = true then False else _
  rw [if_neg (show ¬ (!(!false)) = true by decide), if_neg (show ¬ decide (V.int st = V.int 0) = true by simpa using h0), if_neg (show ¬ decide (7 < (if st < 0 then -st else st)) = true by simpa using a)]
  exact ⟨c, hc, q⟩
/-! ### rules: what the mirrors ask -/
abbrev RT := Int × (Str × Str × Str) × Str × Bool
structure RV (x : RT) : Prop where
  s0 : x.1 ≠ 0
  s7 : x.1.natAbs ≤ 7
  w : WV x.2.1
  st : x.2.2.1 ∈ standers
theorem rule_ok {x : RT} (h : RV x) {k : RT → Prop} (q : k x) : M_rule x k := by
  unfold M_rule
  exact ⟨word_ok h.w, rinit_ok h.s0 h.s7 h.st q⟩
theorem pick_ok {xs : List Int} (h0 : 0 < xs.length) (h1 : xs.length < 1073741824) {k : Int → Prop} (q : ∀ x ∈ xs, k x) : M_pick xs k := by
  unfold M_pick
  exact draw_ok (by omega) (by omega) fun d d0 d1 => ⟨d0, by omega, fun x hx => q x (by rw [hx]; exact List.getElem_mem _)⟩
theorem pickS_ok {xs : List Str} (h0 : 0 < xs.length) (h1 : xs.length < 1073741824) {k : Str → Prop} (q : ∀ x ∈ xs, k x) : M_pick_pls xs k := by
  unfold M_pick_pls
  exact draw_ok (by omega) (by omega) fun d d0 d1 => ⟨d0, by omega, fun x hx => q x (by rw [hx]; exact List.getElem_mem _)⟩
theorem model_ok {k : RT → Prop} (q : ∀ x, RV x → k x) : M_model k := by
  unfold M_model
  refine pick_ok (by decide) (by decide) fun a ha => pick_ok (by decide) (by decide) fun b hb => ?_
  have a1 : 1 ≤ a ∧ a ≤ 7 := by
    simp only [List.mem_cons, List.not_mem_nil, or_false] at ha
    omega
  have b1 : b = 1 ∨ b = -1 := by
    simp only [List.mem_cons, List.not_mem_nil, or_false] at hb
    omega
  refine ⟨cm3 (a := 4) (by omega) (by decide) (by omega) (by decide), ?_⟩
  refine signs_ok (by decide) (by decide) (by decide) fun z1 l1 m1 c1 => signs_ok (by decide) (by decide) (by decide) fun z2 l2 m2 c2 => signs_ok (by decide) (by decide) (by decide) fun z3 l3 m3 c3 => ?_
  refine pickS_ok (by decide) (by decide) fun s hs => draw_ok (by decide) (by decide) fun d _ _ => ?_
  have w : WV (z1, z2, z3) := ⟨show (L z1).length ≤ 4 by omega, show 1 ≤ (L z2).length by omega, show (L z2).length ≤ 4 by omega, show (L z3).length ≤ 4 by omega, c1, c2, c3⟩
  refine q (a * b, (z1, z2, z3), s, _) ⟨?_, ?_, w, hs⟩
  · show a * b ≠ 0
    rcases b1 with rfl | rfl <;> omega
  · show (a * b).natAbs ≤ 7
    rcases b1 with rfl | rfl <;> omega
theorem rleast_ok {r : RT} (hw : WV r.2.1) {k : Int → Prop} (q : k (2 * lst r.2.1 + 2)) : M_Rule_least_size r k := by
  unfold M_Rule_least_size
  exact wleast_ok hw q
theorem mleast_ok {r : RT} (hw : WV r.2.1) {k : Int → Prop} (q : k (lst r.2.1)) : M_least r k := by
  unfold M_least
  refine ⟨line4 hw.h4, line4 hw.t4, ?_⟩
  rw [len_L, len_L]
  exact q
theorem issize_ok {r : RT} {n : Int} (hw : WV r.2.1) (h : 2 * lst r.2.1 + 2 ≤ n) (e : n % 2 = 0) {k : Bool → Prop} (q : k true) : M_is_size r n k := by
  unfold M_is_size M_is_integer
  show if (!false) = true then _ else _
  rw [if_pos (show (!false) = true from rfl)]
  refine rleast_ok hw ?_
  rw [if_pos (decide_eq_true h), e]
  exact q
theorem chksize_ok {r : RT} {n : Int} (hw : WV r.2.1) (h : 2 * lst r.2.1 + 2 ≤ n) (e : n % 2 = 0) {k : Unit → Prop} (q : k ()) : M_check_size r n k := by
  unfold M_check_size
  exact issize_ok hw h e q
theorem chkteam_ok {t n : Int} (h0 : 0 ≤ t) (h1 : t < n) {k : Unit → Prop} (q : k ()) : M_check_team t n k := by
  unfold M_check_team M_is_count M_is_integer
  show if (!false) = true then _ else _
  rw [if_pos (show (!false) = true from rfl), decide_eq_true h0]
  show if (!true) = true then False else _
  rw [if_neg (by decide), if_neg (by simp only [decide_eq_true_eq]; omega)]
  exact q
theorem eqI' {a b : Int} : (decide (V.int a = V.int b) = true) = (a = b) := by
  rw [eqI, decide_eq_true_eq]
theorem memL37 {lo hi n : Int} (h1 : lo ≤ n) (h2 : n < hi) : n ∈ rangeI lo hi := by
  unfold rangeI
  rw [List.mem_map]
  exact ⟨(n - lo).toNat, List.mem_range.mpr (by omega), by omega⟩
/-! ### the rounds in which a place is reached -/
def restL (step places ring : Int) : Int := if 0 < step then places % ring else (-places) % ring
/-- the goals: what is divided by the steps -/
def roundsL (step places ring : Int) : List Int :=
  ((rangeI 0 (step.natAbs : Int)).map fun lap => restL step places ring + ring * lap).filterMap fun g => if g % (step.natAbs : Int) = 0 then some (g / (step.natAbs : Int)) else none
theorem absN (x : Int) : (if x < 0 then -x else x) = (x.natAbs : Int) := by split <;> omega
theorem restL_b {step places ring : Int} (r0 : 0 < ring) : 0 ≤ restL step places ring ∧ restL step places ring < ring := by
  unfold restL
  split
  · exact ⟨Int.emod_nonneg _ (by omega), Int.emod_lt_of_pos _ r0⟩
  · exact ⟨Int.emod_nonneg _ (by omega), Int.emod_lt_of_pos _ r0⟩
theorem restL_dvd {step places ring r : Int} (s0 : step ≠ 0) : ring ∣ (step.natAbs : Int) * r - restL step places ring ↔ ring ∣ places - step * r := by
  unfold restL
  by_cases c : 0 < step
  · rw [if_pos c, show ((step.natAbs : Nat) : Int) = step by omega]
    have e : step * r - places % ring = -(places - step * r) + ring * (places / ring) := by
      have := Int.emod_add_mul_ediv places ring
      omega
    rw [e]
    constructor
    · intro h
      have := Int.dvd_sub h (Int.dvd_mul_right ring (places / ring))
      rw [show -(places - step * r) + ring * (places / ring) - ring * (places / ring) = -(places - step * r) by omega] at this
      exact Int.dvd_neg.mp this
    · intro h
      exact Int.dvd_add (Int.dvd_neg.mpr h) (Int.dvd_mul_right _ _)
  · rw [if_neg c, show ((step.natAbs : Nat) : Int) = -step by omega]
    have e : -step * r - (-places) % ring = (places - step * r) + ring * ((-places) / ring) := by
      have := Int.emod_add_mul_ediv (-places) ring
      rw [Int.neg_mul]
      omega
    rw [e]
    constructor
    · intro h
      have := Int.dvd_sub h (Int.dvd_mul_right ring ((-places) / ring))
      rw [show (places - step * r) + ring * ((-places) / ring) - ring * ((-places) / ring) = (places - step * r) by omega] at this
      exact this
    · intro h
      exact Int.dvd_add h (Int.dvd_mul_right _ _)
theorem rounds_mem {step places ring r : Int} (s0 : step ≠ 0) (r0 : 0 < ring) : r ∈ roundsL step places ring ↔ 0 ≤ r ∧ r < ring ∧ ring ∣ places - step * r := by
  have sp : 0 < (step.natAbs : Int) := by omega
  obtain ⟨b0, b1⟩ := @restL_b step places ring r0
  rw [← restL_dvd s0]
  unfold roundsL
  rw [List.mem_filterMap]
  constructor
  · rintro ⟨g, hg, e⟩
    rw [List.mem_map] at hg
    obtain ⟨lap, hl, rfl⟩ := hg
    obtain ⟨l0, l1⟩ := rangeI_mem hl
    split at e
    · rename_i c
      have e' : (restL step places ring + ring * lap) / (step.natAbs : Int) = r := by simpa using e
      have m : (step.natAbs : Int) * r = restL step places ring + ring * lap := by
        have := Int.emod_add_mul_ediv (restL step places ring + ring * lap) (step.natAbs : Int)
        rw [c, e'] at this
        omega
      have n0 : 0 ≤ ring * lap := Int.mul_nonneg (by omega) l0
      have n1 : ring * lap ≤ ring * ((step.natAbs : Int) - 1) := Int.mul_le_mul_of_nonneg_left (by omega) (by omega)
      have n2 : ring * ((step.natAbs : Int) - 1) = (step.natAbs : Int) * ring - ring := by rw [Int.mul_sub, Int.mul_one, Int.mul_comm]
      refine ⟨?_, ?_, ⟨lap, by omega⟩⟩
      · exact Int.not_lt.mp fun z => by
          have := Int.mul_neg_of_pos_of_neg sp z
          omega
      · exact Int.lt_of_mul_lt_mul_left (a := (step.natAbs : Int)) (by omega) (by omega)
    · cases e
  · rintro ⟨h0, h1, ⟨lap, hl⟩⟩
    have m : (step.natAbs : Int) * r = restL step places ring + ring * lap := by omega
    have l0 : 0 ≤ lap := Int.not_lt.mp fun z => by
      have a : ring * lap ≤ ring * (-1) := Int.mul_le_mul_of_nonneg_left (by omega) (by omega)
      have b : 0 ≤ (step.natAbs : Int) * r := Int.mul_nonneg (by omega) h0
      omega
    have l1 : lap < (step.natAbs : Int) := Int.not_le.mp fun z => by
      have a : ring * (step.natAbs : Int) ≤ ring * lap := Int.mul_le_mul_of_nonneg_left z (by omega)
      have b : (step.natAbs : Int) * r < (step.natAbs : Int) * ring := Int.mul_lt_mul_of_pos_left h1 sp
      rw [Int.mul_comm ring] at a
      omega
    refine ⟨(step.natAbs : Int) * r, List.mem_map.mpr ⟨lap, memL37 l0 l1, m.symm⟩, ?_⟩
    rw [if_pos (Int.mul_emod_right _ _), Int.mul_ediv_cancel_left _ (by omega)]
theorem filMap_len {α β : Type} (p : α → Prop) [DecidablePred p] (f : α → β) : ∀ l : List α, (l.filterMap fun a => if p a then some (f a) else none).length = l.countP (fun a => decide (p a))
  | [] => rfl
  | a :: l => by
    rw [List.filterMap_cons, List.countP_cons, ← filMap_len p f l]
    by_cases c : p a
    · rw [if_pos c, if_pos (decide_eq_true c), List.length_cons]
    · rw [if_neg c, if_neg (by simpa using c), Nat.add_zero]
theorem finG : ((List.range 8).all fun t => (List.range t).all fun q => (List.range t).countP (fun lap => decide (q * lap % t = 0)) == Nat.gcd q t) = true := by decide +kernel
theorem rounds_zero {step ring : Int} (s0 : step ≠ 0) (s7 : step.natAbs ≤ 7) (r0 : 0 < ring) : (roundsL step 0 ring).length = Nat.gcd step.natAbs ring.natAbs := by
  unfold roundsL
  rw [filMap_len]
  have e0 : restL step 0 ring = 0 := by
    unfold restL
    split
    · exact Int.zero_emod _
    · rw [Int.neg_zero, Int.zero_emod]
  rw [e0, List.countP_map]
  unfold rangeI
  rw [List.countP_map, show (((step.natAbs : Nat) : Int) - 0).toNat = step.natAbs by omega]
  have tq : (ring % (step.natAbs : Int)).toNat < step.natAbs := by
    have := Int.emod_lt_of_pos ring (show 0 < (step.natAbs : Int) by omega)
    have := Int.emod_nonneg ring (show (step.natAbs : Int) ≠ 0 by omega)
    omega
  have h := eq_of_beq (List.all_eq_true.mp (List.all_eq_true.mp finG step.natAbs (List.mem_range.mpr (by omega))) _ (List.mem_range.mpr tq))
  have hr : ring.natAbs % step.natAbs = (ring % (step.natAbs : Int)).toNat := by
    have : ((ring.natAbs % step.natAbs : Nat) : Int) = ring % (step.natAbs : Int) := by rw [Int.natCast_emod, show ((ring.natAbs : Nat) : Int) = ring by omega]
    omega
  rw [Nat.gcd_rec step.natAbs ring.natAbs, hr, ← h]
  apply List.countP_congr
  intro lap _
  simp only [Function.comp, decide_eq_true_eq]
  have e1 : (0 + ring * (0 + (lap : Int))) % (step.natAbs : Int) = (((ring % (step.natAbs : Int)).toNat * lap % step.natAbs : Nat) : Int) := by
    rw [Int.zero_add, Int.zero_add, Int.mul_emod, Int.natCast_emod, Int.natCast_mul, Int.mul_emod ((ring % (step.natAbs : Int)).toNat : Int)]
    rw [show (((ring % (step.natAbs : Int)).toNat : Nat) : Int) = ring % (step.natAbs : Int) by
      have := Int.emod_nonneg ring (show (step.natAbs : Int) ≠ 0 by omega)
      omega, Int.emod_emod_of_dvd _ (Int.dvd_refl _)]
  rw [e1]
  omega
theorem rounds_none {step ring : Int} (s0 : step ≠ 0) (r0 : 0 < ring) (g : 1 < Nat.gcd step.natAbs ring.natAbs) : roundsL step 1 ring = [] := by
  rw [List.eq_nil_iff_forall_not_mem]
  intro r hr
  obtain ⟨_, _, d⟩ := (rounds_mem s0 r0).mp hr
  have d1 : ((Nat.gcd step.natAbs ring.natAbs : Nat) : Int) ∣ step := Int.ofNat_dvd_left.mpr (Nat.gcd_dvd_left _ _)
  have d2 : ((Nat.gcd step.natAbs ring.natAbs : Nat) : Int) ∣ ring := Int.ofNat_dvd_left.mpr (Nat.gcd_dvd_right _ _)
  have d3 : ((Nat.gcd step.natAbs ring.natAbs : Nat) : Int) ∣ 1 := by
    have := Int.dvd_add (Int.dvd_trans d2 d) (Int.dvd_mul_of_dvd_left (b := step) (c := r) d1)
    rw [show 1 - step * r + step * r = 1 by omega] at this
    exact this
  have := Int.le_of_dvd (by decide) d3
  omega
theorem checkp_ok {w : Str × Str × Str} (hw : WV w) {n : Int} (hn : lst w ≤ n) {k : Unit → Prop} (q : k ()) : M_check_places w n k := by
  unfold M_check_places M_is_integer
  show (if (!!false) = true then _ else _)
  rw [if_neg (by decide)]
  refine wleast_ok hw ?_
  rw [if_neg (by simpa using hn)]
  exact q
theorem mark_ok {w : Str × Str × Str} (hw : WV w) {n i : Int} (hn : lst w ≤ n) (h1 : 1 ≤ i) (h2 : i ≤ n) {k : Str → Prop} (q : ∀ c, (rw_ w n)[(i - 1).toNat]? = some c → k (Str.mk #[c])) : M_Word_mark w n i k := by
  have g := @lst_ge w
  have m1 := hw.m1
  unfold M_Word_mark
  refine checkp_ok hw hn ?_
  show M_is_integer _ _
  unfold M_is_integer
  show (if (!!false) = true then _ else _)
  rw [if_neg (by decide), if_neg (by simpa using h1), if_neg (by simpa using h2)]
  refine ⟨line4 hw.h4, ?_⟩
  have hlen := rw_len hn
  obtain ⟨c, hc⟩ : ∃ c, (rw_ w n)[(i - 1).toNat]? = some c := ⟨_, List.getElem?_eq_getElem (by omega)⟩
  have q' := q c hc
  by_cases b1 : i ≤ (L w.1).length
  · rw [if_pos (by rw [len_L]; simpa using b1)]
    refine ⟨line4 hw.h4, c, at_nat' (by omega) ?_, q'⟩
    rw [row_head (by omega)] at hc
    exact hc
  · rw [if_neg (by rw [len_L]; simpa using b1)]
    refine ⟨line4 hw.t4, ?_⟩
    by_cases b2 : n - (L w.2.2).length < i
    · rw [if_pos (by rw [len_L]; simpa using b2)]
      refine ⟨line4 hw.t4, c, at_nat' (by rw [len_L]; omega) ?_, q'⟩
      rw [row_tail (by omega) (by omega)] at hc
      rw [← hc]
      congr 1
      rw [len_L]
      omega
    · rw [if_neg (by rw [len_L]; simpa using b2)]
      refine ⟨line4 hw.h4, line4 hw.m4, (by rw [len_L]; omega), line4 hw.m4, c, at_nat' (Int.emod_nonneg _ (by rw [len_L]; omega)) ?_, q'⟩
      rw [row_mid (by omega) (by omega) (by omega) (by omega)] at hc
      rw [← hc]
      congr 1
      rw [len_L, len_L, emod_nat (by omega)]
      congr 1
      omega
theorem dec_true {p : Prop} [Decidable p] (h : p) : decide p = true := decide_eq_true h
def S (l : List Nat) : Str := ⟨l.toArray⟩
theorem L_S (l : List Nat) : L (S l) = l := L_mk l
theorem S_L (z : Str) : S (L z) = z := mk_L z
abbrev Mk (l : List Nat) : Prop := ∀ c ∈ l, c = 104 ∨ c = 97
def ctrc (c : Nat) : Nat := if c = 104 then 97 else 104
def ctrw (w : Str × Str × Str) : Str × Str × Str := (S ((L w.1).map ctrc), S ((L w.2.1).map ctrc), S ((L w.2.2).map ctrc))
theorem ctrc_mk (c : Nat) : ctrc c = 104 ∨ ctrc c = 97 := by
  unfold ctrc
  split
  · exact .inr rfl
  · exact .inl rfl
theorem ones_sum (l : List Nat) (f : Nat → Nat) : ((l.map fun c => (Str.mk #[f c])).map (·.length)).sum = l.length := by
  induction l with
  | nil => rfl
  | cons c l ih =>
    rw [List.map_cons, List.map_cons, List.sum_cons, ih, str1, List.length_cons]
    omega
theorem ones_join (l : List Nat) (f : Nat → Nat) : L (Txt.join ("" : Str) (l.map fun c => (Str.mk #[f c]))) = l.map f := by
  rw [join_L]
  induction l with
  | nil => rfl
  | cons c l ih =>
    rw [List.map_cons, List.map_cons, List.flatten_cons, L_one, ih]
    rfl
theorem cmarks_ok {z : Str} (h4 : (L z).length ≤ 1000) (hm : Mk (L z)) {k : Str → Prop} (q : k (S ((L z).map ctrc))) : M_contrary_marks z k := by
  unfold M_contrary_marks
  refine ⟨by rw [signs_len]; have : z.cps.size = (L z).length := len_L z; omega, ?_⟩
  refine mapC_ok (fun x : Str => Str.mk #[ctrc (x.cps.getD 0 0)]) (fun x hx k' hk => ?_) ?_
  · obtain ⟨c, hc, rfl⟩ := List.mem_map.mp hx
    rcases hm c hc with rfl | rfl
    · exact ⟨("a" : Str), by decide +kernel, by rw [a_mk]; exact hk⟩
    · exact ⟨("h" : Str), by decide +kernel, by rw [h_mk]; exact hk⟩
  · rw [List.nil_append]
    have e : (Rx.signs z).map (fun x : Str => Str.mk #[ctrc (x.cps.getD 0 0)]) = (L z).map fun c => Str.mk #[ctrc c] := by
      unfold Rx.signs
      rw [List.map_map]
      rfl
    rw [e]
    refine ⟨?_, ?_⟩
    · rw [ones_sum, List.length_map, len_L, L_empty]
      simp only [List.length_nil]
      omega
    · rw [show Txt.join ("" : Str) ((L z).map fun c => Str.mk #[ctrc c]) = S ((L z).map ctrc) from L_ext (by rw [ones_join, L_S])]
      exact q
theorem ctrw_wv {w : Str × Str × Str} (hw : WV w) : WV (ctrw w) := by
  have mk : ∀ l : List Nat, Mk (l.map ctrc) := fun l c hc => by
    obtain ⟨x, _, e⟩ := List.mem_map.mp hc
    rw [← e]
    exact ctrc_mk x
  refine ⟨?_, ?_, ?_, ?_, ?_, ?_, ?_⟩ <;> unfold ctrw <;> simp only [L_S, List.length_map]
  · exact hw.h4
  · exact hw.m1
  · exact hw.m4
  · exact hw.t4
  · exact mk _
  · exact mk _
  · exact mk _
theorem ctrw_lst (w : Str × Str × Str) : lst (ctrw w) = lst w := by
  unfold lst ctrw
  simp only [L_S, List.length_map]
theorem cyc_map (f : Nat → Nat) {m : List Nat} (hm : 0 < m.length) (k : Nat) : cyc (m.map f) k = (cyc m k).map f := by
  apply List.ext_getElem?
  intro j
  rw [List.getElem?_map]
  by_cases h : j < k
  · rw [cyc_get' (by rw [List.length_map]; exact hm) h, cyc_get' hm h, List.getElem?_map, List.length_map]
  · rw [List.getElem?_eq_none (by rw [cyc_len]; omega), List.getElem?_eq_none (by rw [cyc_len]; omega)]
    rfl
theorem ctrw_row {w : Str × Str × Str} (hw : WV w) (n : Int) : rw_ (ctrw w) n = (rw_ w n).map ctrc := by
  unfold rw_ ctrw row
  simp only [L_S, List.length_map]
  rw [cyc_map _ (by have := hw.m1; omega), List.map_append, List.map_append]
/-! ### seats and marks -/
def seatF (st n t d : Int) : Int := if (t - st * d) % (n - 1) < n / 2 then (t - st * d) % (n - 1) else (t - st * d) % (n - 1) - (n - 1)
def oppF (st n t d : Int) : Int := if t = n - 1 then st * d % (n - 1) else if (2 * st * d - t) % (n - 1) = t then n - 1 else (2 * st * d - t) % (n - 1)
def standF (s : Str) (d : Int) : Nat := if s = "home" then 104 else if s = "away" then 97 else if s = "even" then (if d % 2 = 0 then 104 else 97) else (if d % 2 = 0 then 97 else 104)
def tIf (r : RT) (d : Int) (c : Nat) : Nat := if r.2.2.2 = true ∧ d % 2 = 1 then ctrc c else c
def wmF (w : Str × Str × Str) (p k : Int) : Nat := (rw_ w p).getD (k - 1).toNat 0
def atF (r : RT) (n at_ d : Int) : Nat := if at_ = 0 then ctrc (standF r.2.2.1 d) else if 0 < at_ then tIf r d (wmF r.2.1 (n / 2 - 1) (at_.natAbs : Int)) else ctrc (tIf r d (wmF r.2.1 (n / 2 - 1) (at_.natAbs : Int)))
def markF (r : RT) (n t d : Int) : Nat := if t = n - 1 then standF r.2.2.1 d else atF r n (seatF r.1 n t d) d
def M1 (c : Nat) : Prop := c = 104 ∨ c = 97
theorem ctrc_ctrc {c : Nat} (h : M1 c) : ctrc (ctrc c) = c := by
  rcases h with rfl | rfl <;> rfl
theorem ctrc_ne {c : Nat} (h : M1 c) : ctrc c ≠ c := by
  rcases h with rfl | rfl <;> decide
theorem standF_m (s : Str) (d : Int) : M1 (standF s d) := by
  unfold standF M1
  split
  · exact .inl rfl
  · split
    · exact .inr rfl
    · split
      · split
        · exact .inl rfl
        · exact .inr rfl
      · split
        · exact .inr rfl
        · exact .inl rfl
theorem tIf_m {r : RT} {d : Int} {c : Nat} (h : M1 c) : M1 (tIf r d c) := by
  unfold tIf
  split
  · exact ctrc_mk c
  · exact h
theorem row_mk {w : Str × Str × Str} (hw : WV w) {p : Int} : ∀ c ∈ rw_ w p, M1 c := by
  intro c hc
  unfold rw_ row at hc
  rcases List.mem_append.mp hc with h | h
  · rcases List.mem_append.mp h with h | h
    · exact hw.mh c h
    · unfold cyc at h
      obtain ⟨j, _, e⟩ := List.mem_map.mp h
      have m1 := hw.m1
      have := Nat.mod_lt j (show 0 < (L w.2.1).length by omega)
      rw [List.getD_eq_getElem?_getD, List.getElem?_eq_getElem this] at e
      rw [← e]
      exact hw.mm _ (List.getElem_mem _)
  · exact hw.mt c h
theorem wmF_at {w : Str × Str × Str} {p k : Int} (hp : lst w ≤ p) (h1 : 1 ≤ k) (h2 : k ≤ p) : (rw_ w p)[(k - 1).toNat]? = some (wmF w p k) := by
  have hl := rw_len hp
  unfold wmF
  rw [List.getD_eq_getElem?_getD, List.getElem?_eq_getElem (by omega)]
  rfl
theorem wmF_m {w : Str × Str × Str} (hw : WV w) {p k : Int} (hp : lst w ≤ p) (h1 : 1 ≤ k) (h2 : k ≤ p) : M1 (wmF w p k) := row_mk hw _ (List.mem_of_getElem? (wmF_at hp h1 h2))
theorem wmark_ok {w : Str × Str × Str} (hw : WV w) {p k : Int} (hp : lst w ≤ p) (h1 : 1 ≤ k) (h2 : k ≤ p) {K : Str → Prop} (q : K (S [wmF w p k])) : M_Word_mark w p k K := by
  refine mark_ok hw hp h1 h2 fun c hc => ?_
  rw [wmF_at hp h1 h2] at hc
  rw [← Option.some.inj hc]
  exact q
theorem cm1_ok {c : Nat} (h : M1 c) {K : Str → Prop} (q : K (S [ctrc c])) : M_contrary_marks (S [c]) K := by
  refine cmarks_ok (by rw [L_S]; simp) (by
    rw [L_S]
    intro x hx
    rw [List.mem_singleton.mp hx]
    exact h) ?_
  rw [L_S]
  exact q
theorem stander_ok {r : RT} (h : r.2.2.1 ∈ standers) {d : Int} {K : Str → Prop} (q : K (S [standF r.2.2.1 d])) : M_stander_mark r d K := by
  unfold M_stander_mark M_Rule_stander
  have d2 : d % 2 = 0 ∨ d % 2 = 1 := by omega
  simp only [standers, List.mem_cons, List.not_mem_nil, or_false] at h
  rcases h with e | e | e | e <;> rcases d2 with f | f <;> rw [e, f] <;> rw [e] at q
  · exact ⟨"hh", by decide +kernel, by decide +kernel, 104, by decide +kernel, by
      rw [show standF "home" d = 104 by unfold standF; rw [if_pos rfl]] at q
      exact q⟩
  · exact ⟨"hh", by decide +kernel, by decide +kernel, 104, by decide +kernel, by
      rw [show standF "home" d = 104 by unfold standF; rw [if_pos rfl]] at q
      exact q⟩
  · exact ⟨"aa", by decide +kernel, by decide +kernel, 97, by decide +kernel, by
      rw [show standF "away" d = 97 by unfold standF; rw [if_neg (by decide +kernel), if_pos rfl]] at q
      exact q⟩
  · exact ⟨"aa", by decide +kernel, by decide +kernel, 97, by decide +kernel, by
      rw [show standF "away" d = 97 by unfold standF; rw [if_neg (by decide +kernel), if_pos rfl]] at q
      exact q⟩
  · exact ⟨"ha", by decide +kernel, by decide +kernel, 104, by decide +kernel, by
      rw [show standF "even" d = 104 by unfold standF; rw [if_neg (by decide +kernel), if_neg (by decide +kernel), if_pos rfl, if_pos f]] at q
      exact q⟩
  · exact ⟨"ha", by decide +kernel, by decide +kernel, 97, by decide +kernel, by
      rw [show standF "even" d = 97 by unfold standF; rw [if_neg (by decide +kernel), if_neg (by decide +kernel), if_pos rfl, if_neg (by omega)]] at q
      exact q⟩
  · exact ⟨"ah", by decide +kernel, by decide +kernel, 97, by decide +kernel, by
      rw [show standF "odd" d = 97 by unfold standF; rw [if_neg (by decide +kernel), if_neg (by decide +kernel), if_neg (by decide +kernel), if_pos f]] at q
      exact q⟩
  · exact ⟨"ah", by decide +kernel, by decide +kernel, 104, by decide +kernel, by
      rw [show standF "odd" d = 104 by unfold standF; rw [if_neg (by decide +kernel), if_neg (by decide +kernel), if_neg (by decide +kernel), if_neg (by omega)]] at q
      exact q⟩
theorem turnedif_ok {r : RT} {d : Int} {c : Nat} (h : M1 c) {K : Str → Prop} (q : K (S [tIf r d c])) : M_turned_if r d (S [c]) K := by
  unfold M_turned_if M_Rule_turned
  refine ⟨fun v => v = S [tIf r d c], ?_, fun v hv => by rw [hv]; exact q⟩
  unfold tIf
  show if r.2.2.2 = true then _ else _
  by_cases a : r.2.2.2 = true
  · rw [if_pos a]
    by_cases b : d % 2 = 1
    · rw [if_pos (by rw [eqI']; exact b), if_pos ⟨a, b⟩]
      exact cm1_ok h rfl
    · rw [if_neg (by rw [eqI']; exact b), if_neg (fun z => b z.2)]
  · rw [if_neg a, if_neg (fun z => a z.1)]
theorem markat_ok {r : RT} (h : RV r) {n at_ d : Int} (hn : 2 * lst r.2.1 + 2 ≤ n) (ev : n % 2 = 0) (b1 : at_ ≤ n / 2 - 1) (b2 : -(n / 2 - 1) ≤ at_) {K : Str → Prop} (q : K (S [atF r n at_ d])) : M_mark_at r n at_ d K := by
  unfold M_mark_at
  unfold atF at q
  by_cases z : at_ = 0
  · rw [if_pos (by rw [eqI']; exact z)]
    rw [if_pos z] at q
    exact stander_ok h.st (cm1_ok (standF_m _ _) q)
  · rw [if_neg (by rw [eqI']; exact z)]
    rw [if_neg z] at q
    unfold M_Rule_word
    rw [absN]
    have m := wmF_m h.w (p := n / 2 - 1) (k := (at_.natAbs : Int)) (by omega) (by omega) (by omega)
    refine wmark_ok h.w (by omega) (by omega) (by omega) (turnedif_ok m ?_)
    by_cases p : 0 < at_
    · rw [if_pos p] at q
      refine ⟨fun v => v = S [tIf r d (wmF r.2.1 (n / 2 - 1) (at_.natAbs : Int))], ?_, fun v hv => by rw [hv]; exact q⟩
      rw [if_pos (decide_eq_true p)]
    · rw [if_neg p] at q
      refine ⟨fun v => v = S [ctrc (tIf r d (wmF r.2.1 (n / 2 - 1) (at_.natAbs : Int)))], ?_, fun v hv => by rw [hv]; exact q⟩
      rw [if_neg (by simpa using p)]
      exact cm1_ok (tIf_m m) rfl
theorem day_ok {d n : Int} (h0 : 0 ≤ d) (h1 : d < n) {k : Unit → Prop} (q : k ()) : M_check_day d n k := by
  unfold M_check_day M_is_count M_is_integer
  show if (!false) = true then _ else _
  rw [if_pos (show (!false) = true from rfl), decide_eq_true h0]
  show if (!true) = true then False else _
  rw [if_neg (by decide), if_neg (by simp only [decide_eq_true_eq]; omega)]
  exact q
theorem seatF_b {st n t d : Int} (h4 : 4 ≤ n) (ev : n % 2 = 0) : -(n / 2 - 1) ≤ seatF st n t d ∧ seatF st n t d ≤ n / 2 - 1 := by
  have a := Int.emod_nonneg (t - st * d) (show n - 1 ≠ 0 by omega)
  have b := Int.emod_lt_of_pos (t - st * d) (show 0 < n - 1 by omega)
  unfold seatF
  split <;> omega
theorem cmul7 {st d n : Int} (s7 : st.natAbs ≤ 14) (hd : 0 ≤ d) (hd2 : d < n) (bg : n.natAbs < 2 ^ 899) : CMulW st d := wide_mul (a := 4) (b := 899) (by omega) (by omega) (by decide) (by decide) (by decide)
theorem seatU_ok {r : RT} (h : RV r) {n t d : Int} (h4 : 4 ≤ n) (bg : n.natAbs < 2 ^ 899) (d0 : 0 ≤ d) (d1 : d < n - 1) {k : Int → Prop} (q : k (seatF r.1 n t d)) : M_seatP r n t d k := by
  unfold M_seatP M_Rule_step
  have s7 := h.s7
  refine ⟨cmul7 (by omega) d0 (by omega) bg, by omega, fun v => v = seatF r.1 n t d, ?_, fun v hv => by rw [hv]; exact q⟩
  unfold seatF
  by_cases c : (t - r.1 * d) % (n - 1) < n / 2
  · rw [if_pos (decide_eq_true c), if_pos c]
  · rw [if_neg (by simpa using c), if_neg c]
theorem seat_ok {r : RT} (h : RV r) {n t d : Int} (hn : 2 * lst r.2.1 + 2 ≤ n) (ev : n % 2 = 0) (bg : n.natAbs < 2 ^ 899) (t0 : 0 ≤ t) (t1 : t < n - 1) (d0 : 0 ≤ d) (d1 : d < n - 1) {k : Int → Prop} (q : k (seatF r.1 n t d)) : M_seat r n t d k := by
  unfold M_seat
  have := @lst_ge r.2.1
  exact chksize_ok h.w hn ev (chkteam_ok t0 t1 (day_ok d0 d1 (seatU_ok h (by omega) bg d0 d1 q)))
theorem check_ok {r : RT} (h : RV r) {n t d : Int} (hn : 2 * lst r.2.1 + 2 ≤ n) (ev : n % 2 = 0) (t0 : 0 ≤ t) (t1 : t < n) (d0 : 0 ≤ d) (d1 : d < n - 1) {k : Unit → Prop} (q : k ()) : M_check r n t d k := by
  unfold M_check
  exact chksize_ok h.w hn ev (chkteam_ok t0 t1 (day_ok d0 d1 q))
theorem opp_ok {r : RT} (h : RV r) {n t d : Int} (hn : 2 * lst r.2.1 + 2 ≤ n) (ev : n % 2 = 0) (bg : n.natAbs < 2 ^ 899) (t0 : 0 ≤ t) (t1 : t < n) (d0 : 0 ≤ d) (d1 : d < n - 1) {k : Int → Prop} (q : k (oppF r.1 n t d)) : M_opponent r n t d k := by
  unfold M_opponent
  have l1 := @lst_ge r.2.1
  have s7 := h.s7
  refine check_ok h hn ev t0 t1 d0 d1 ?_
  unfold oppF at q
  by_cases c : t = n - 1
  · rw [if_pos (by rw [eqI']; exact c)]
    rw [if_pos c] at q
    exact ⟨cmul7 (by omega) d0 (by omega) bg, by omega, q⟩
  · rw [if_neg (by rw [eqI']; exact c)]
    rw [if_neg c] at q
    refine ⟨cmul7 (by omega) d0 (by omega) bg, by omega, fun v => v = (if (2 * r.1 * d - t) % (n - 1) = t then n - 1 else (2 * r.1 * d - t) % (n - 1)), ?_, fun v hv => by rw [hv]; exact q⟩
    by_cases e : (2 * r.1 * d - t) % (n - 1) = t
    · rw [if_pos (by rw [eqI']; exact e), if_pos e]
    · rw [if_neg (by rw [eqI']; exact e), if_neg e]
theorem markof_ok {r : RT} (h : RV r) {n t d : Int} (hn : 2 * lst r.2.1 + 2 ≤ n) (ev : n % 2 = 0) (bg : n.natAbs < 2 ^ 899) (t0 : 0 ≤ t) (t1 : t < n) (d0 : 0 ≤ d) (d1 : d < n - 1) {k : Str → Prop} (q : k (S [markF r n t d])) : M_mark_of r n t d k := by
  unfold M_mark_of
  have l1 := @lst_ge r.2.1
  refine check_ok h hn ev t0 t1 d0 d1 ?_
  unfold markF at q
  by_cases c : t = n - 1
  · rw [if_pos (by rw [eqI']; exact c)]
    rw [if_pos c] at q
    exact stander_ok h.st q
  · rw [if_neg (by rw [eqI']; exact c)]
    rw [if_neg c] at q
    obtain ⟨b1, b2⟩ := @seatF_b r.1 n t d (by omega) ev
    exact seatU_ok h (by omega) bg d0 d1 (markat_ok h hn ev b2 b1 q)
theorem ints_py (ns : List Int) : pyOf (D.lst (ns.map fun y => D.v (V.int y))) = .list (ns.map PyData.int) := by
  simp only [pyOf]
  congr 1
  induction ns with
  | nil => rfl
  | cons n ns ih =>
    rw [List.map_cons, List.map_cons]
    simp only [pyL, pyOf]
    rw [ih]
theorem ints_plain (ns : List Int) : plainD (D.lst (ns.map fun y => D.v (V.int y))) = true := by
  simp only [plainD]
  induction ns with
  | nil => rfl
  | cons n ns ih =>
    rw [List.map_cons]
    simp only [plainL, plainD, Bool.true_and]
    exact ih
theorem ints_shaped (ns : List Int) : SeqAt.shaped (pyOf (D.lst (ns.map fun y => D.v (V.int y)))) = true := by
  rw [ints_py]
  unfold SeqAt.shaped
  rw [Bool.and_eq_true]
  have h : ∀ ns : List Int, PyData.canLayAll0 (ns.map PyData.int) = true ∧ PyData.depthAll (ns.map PyData.int) ≤ 1 := by
    intro ns
    induction ns with
    | nil => exact ⟨rfl, by simp [PyData.depthAll]⟩
    | cons n ns ih =>
      refine ⟨?_, ?_⟩
      · rw [List.map_cons]
        simp only [PyData.canLayAll0, PyData.canLay0, Bool.true_and]
        exact ih.1
      · rw [List.map_cons]
        simp only [PyData.depthAll, PyData.depth]
        have := ih.2
        omega
  refine ⟨?_, ?_⟩
  · simp only [PyData.canLay0]
    exact (h ns).1
  · refine decide_eq_true ?_
    simp only [PyData.depth]
    have := (h ns).2
    omega
theorem eqv_nil (ns : List Int) : PyData.eqv (pyOf (D.lst (ns.map fun y => D.v (V.int y)))) (pyOf (D.lst (([] : List Int).map fun y => D.v (V.int y)))) = ns.isEmpty := by
  rw [ints_py, ints_py]
  cases ns <;> rfl
theorem forC_okN {α S : Type} {body : α → S → (S → Prop) → Prop} {k : S → Prop} (I : Nat → S → Prop) (N : Nat) : ∀ {xs : List α} {i : Nat} {s0 : S}, i + xs.length ≤ N → (∀ x ∈ xs, ∀ (j : Nat) (s : S) (k' : S → Prop), j < N → I j s → (∀ s', I (j + 1) s' → k' s') → body x s k') → I i s0 → (∀ s, I (i + xs.length) s → k s) → forC body xs s0 k
  | [], i, s0, _, _, h, q => q s0 h
  | x :: xs, i, s0, hN, hb, h, q => hb x List.mem_cons_self i s0 _ (by rw [List.length_cons] at hN; omega) h fun s' h' => forC_okN I N (i := i + 1) (by rw [List.length_cons] at hN; omega) (fun y hy => hb y (List.mem_cons_of_mem _ hy)) h' fun s h2 => q s (by rw [List.length_cons, show i + (xs.length + 1) = i + 1 + xs.length by omega]; exact h2)
theorem atI_ex {α : Type} {xs : List α} (h : 0 < xs.length) : ∃ y, atI xs (-1) = some y := by
  rcases List.eq_nil_or_concat xs with rfl | ⟨ys, y, rfl⟩
  · exact absurd h (Nat.lt_irrefl 0)
  · exact ⟨y, by rw [List.concat_eq_append]; exact atI_last _ _⟩
theorem atI_mem {α : Type} {xs : List α} {i : Int} {y : α} (h : atI xs i = some y) : y ∈ xs := by
  obtain ⟨j, _, e, _⟩ := atI_get h
  exact List.mem_of_getElem? e
/-- the number of rounds that the document speaks of: the greatest number that divides the step and the ring -/
def gcdR (st many : Int) : Int := ((Nat.gcd st.natAbs (many - 1).natAbs : Nat) : Int)
theorem absI (x : Int) : Int.natAbs (if x < 0 then -x else x) = x.natAbs := by
  split <;> omega
theorem atF_m {r : RT} (h : RV r) {n a d : Int} (hn : 2 * lst r.2.1 + 2 ≤ n) (b1 : a ≤ n / 2 - 1) (b2 : -(n / 2 - 1) ≤ a) : M1 (atF r n a d) := by
  unfold atF
  split
  · exact ctrc_mk _
  · rename_i z
    have m := wmF_m h.w (p := n / 2 - 1) (k := (a.natAbs : Int)) (by omega) (by omega) (by omega)
    split
    · exact tIf_m m
    · exact ctrc_mk _
theorem markF_m {r : RT} (h : RV r) {n t d : Int} (hn : 2 * lst r.2.1 + 2 ≤ n) (ev : n % 2 = 0) : M1 (markF r n t d) := by
  have l1 := @lst_ge r.2.1
  unfold markF
  split
  · exact standF_m _ _
  · obtain ⟨b1, b2⟩ := @seatF_b r.1 n t d (by omega) ev
    exact atF_m h hn b2 b1
theorem odd_half {m x : Int} (h1 : m % 2 = 1) (h : m ∣ 2 * x) : m ∣ x := by
  have e : x = m * x - (m / 2) * (2 * x) := by
    have := Int.emod_add_mul_ediv m 2
    grind
  rw [e]
  exact Int.dvd_sub (Int.dvd_mul_right m x) (Int.dvd_mul_of_dvd_right h)
theorem emod_is {m x t : Int} (t0 : 0 ≤ t) (t1 : t < m) : x % m = t ↔ m ∣ x - t := by
  have tt : t % m = t := Int.emod_eq_of_lt t0 t1
  constructor
  · intro h
    refine Int.dvd_of_emod_eq_zero (Int.emod_eq_emod_iff_emod_sub_eq_zero.mp ?_)
    rw [h, tt]
  · intro h
    have := Int.emod_eq_emod_iff_emod_sub_eq_zero.mpr (Int.emod_eq_zero_of_dvd h)
    rw [this, tt]
/-- the seat 0 is that of the standing one's opponent -/
theorem opp_mid {st n t d : Int} (h4 : 4 ≤ n) (ev : n % 2 = 0) (t0 : 0 ≤ t) (t1 : t < n - 1) : oppF st n t d = n - 1 ↔ seatF st n t d = 0 := by
  have a := Int.emod_nonneg (2 * st * d - t) (show n - 1 ≠ 0 by omega)
  have b := Int.emod_lt_of_pos (2 * st * d - t) (show 0 < n - 1 by omega)
  have a2 := Int.emod_nonneg (t - st * d) (show n - 1 ≠ 0 by omega)
  have b2 := Int.emod_lt_of_pos (t - st * d) (show 0 < n - 1 by omega)
  have e1 : (2 * st * d - t) % (n - 1) = t ↔ (t - st * d) % (n - 1) = 0 := by
    rw [emod_is t0 t1]
    constructor
    · intro h
      refine Int.emod_eq_zero_of_dvd (odd_half (by omega) ?_)
      rw [show 2 * (t - st * d) = -(2 * st * d - t - t) by grind]
      exact Int.dvd_neg.mpr h
    · intro h
      rw [show 2 * st * d - t - t = -(2 * (t - st * d)) by grind]
      exact Int.dvd_neg.mpr (Int.dvd_mul_of_dvd_right (Int.dvd_of_emod_eq_zero h))
  unfold oppF seatF
  rw [if_neg (by omega)]
  by_cases c : (2 * st * d - t) % (n - 1) = t
  · rw [if_pos c, e1.mp c, if_pos (by omega)]
    simp
  · rw [if_neg c]
    have z : (t - st * d) % (n - 1) ≠ 0 := fun z => c (e1.mpr z)
    constructor
    · intro h
      omega
    · intro h
      exfalso
      split at h <;> omega
theorem eqv_ints (a b : List Int) : PyData.eqv (pyOf (D.lst (a.map fun y => D.v (V.int y)))) (pyOf (D.lst (a.map fun y => D.v (V.int y)))) = true :=
  SeqAt.eqv_refl _ (SeqAt.canLay_of_shaped (ints_shaped a))
theorem eqM {a b : Nat} : (decide (V.str (S [a]) = V.str (S [b]))) = decide (a = b) := by
  rw [eqS, L_S, L_S]
  by_cases c : a = b
  · rw [decide_eq_true c, decide_eq_true (by rw [c])]
  · rw [decide_eq_false c, decide_eq_false (by simpa using c)]
theorem S_h : ("h" : Str) = S [104] := by decide +kernel
theorem S_a : ("a" : Str) = S [97] := by decide +kernel
theorem inV2 {x a b : Int} : inV (V.int x) (([a, b] : List Int).map V.int) = decide (x = a ∨ x = b) := by
  rw [Bool.eq_iff_iff, inV_int, decide_eq_true_iff]
  simp
theorem oppF_b {st n t d : Int} (h4 : 4 ≤ n) : 0 ≤ oppF st n t d ∧ oppF st n t d < n := by
  have a := Int.emod_nonneg (2 * st * d - t) (show n - 1 ≠ 0 by omega)
  have b := Int.emod_lt_of_pos (2 * st * d - t) (show 0 < n - 1 by omega)
  have a2 := Int.emod_nonneg (st * d) (show n - 1 ≠ 0 by omega)
  have b2 := Int.emod_lt_of_pos (st * d) (show 0 < n - 1 by omega)
  unfold oppF
  split
  · omega
  · split <;> omega
theorem oppF_ne {st n t d : Int} (h4 : 4 ≤ n) : oppF st n t d ≠ t := by
  have b2 := Int.emod_lt_of_pos (st * d) (show 0 < n - 1 by omega)
  unfold oppF
  split
  · omega
  · split <;> omega
def roundsF (st n one other : Int) : List Int := if one = n - 1 then roundsL st other (n - 1) else if other = n - 1 then roundsL st one (n - 1) else roundsL (2 * st) (one + other) (n - 1)
/-! ### who meets whom -/
def seatV (n x : Int) : Int := if x % (n - 1) < n / 2 then x % (n - 1) else x % (n - 1) - (n - 1)
theorem seatF_V (st n t d : Int) : seatF st n t d = seatV n (t - st * d) := rfl
theorem seatV_neg {n x y : Int} (h4 : 4 ≤ n) (ev : n % 2 = 0) (h : n - 1 ∣ x + y) : seatV n y = 0 - seatV n x := by
  have a := Int.emod_nonneg x (show n - 1 ≠ 0 by omega)
  have b := Int.emod_lt_of_pos x (show 0 < n - 1 by omega)
  have e : y % (n - 1) = if x % (n - 1) = 0 then 0 else (n - 1) - x % (n - 1) := by
    obtain ⟨c, hc⟩ := h
    have q := Int.emod_add_mul_ediv x (n - 1)
    by_cases z : x % (n - 1) = 0
    · rw [if_pos z]
      refine Int.emod_eq_zero_of_dvd ⟨c - x / (n - 1), ?_⟩
      grind
    · rw [if_neg z]
      refine (emod_is (by omega) (by omega)).mpr ⟨c - x / (n - 1) - 1, ?_⟩
      grind
  unfold seatV
  rw [e]
  split <;> split <;> split <;> omega
theorem seatV_dvd {n x : Int} (h4 : 4 ≤ n) : n - 1 ∣ x - seatV n x := by
  have q := Int.emod_add_mul_ediv x (n - 1)
  unfold seatV
  split
  · exact ⟨x / (n - 1), by omega⟩
  · exact ⟨x / (n - 1) + 1, by grind⟩
theorem seatV_0 {n x : Int} (h4 : 4 ≤ n) (ev : n % 2 = 0) : seatV n x = 0 ↔ n - 1 ∣ x := by
  have b := Int.emod_lt_of_pos x (show 0 < n - 1 by omega)
  constructor
  · intro h
    have := @seatV_dvd n x h4
    rw [h] at this
    simpa using this
  · intro h
    unfold seatV
    rw [Int.emod_eq_zero_of_dvd h, if_pos (by omega)]
theorem oppF_ring {st n t d : Int} (t1 : t ≠ n - 1) (h : oppF st n t d ≠ n - 1) : oppF st n t d = (2 * st * d - t) % (n - 1) := by
  unfold oppF at h ⊢
  rw [if_neg t1] at h ⊢
  split
  · rename_i c
    rw [if_pos c] at h
    exact absurd rfl h
  · rfl
/-- what the rounds of a pair are, by the numbers -/
def meets (st n a b r : Int) : Prop := if a = n - 1 then n - 1 ∣ b - st * r else if b = n - 1 then n - 1 ∣ a - st * r else n - 1 ∣ a + b - 2 * st * r
theorem dvd_emod_sub {m x : Int} : m ∣ x % m - x := by
  refine ⟨-(x / m), ?_⟩
  have := Int.emod_add_mul_ediv x m
  grind
theorem meets_opp {st n t d : Int} (h4 : 4 ≤ n) (ev : n % 2 = 0) (t0 : 0 ≤ t) (t1 : t < n) : meets st n t (oppF st n t d) d := by
  unfold meets
  by_cases c : t = n - 1
  · rw [if_pos c]
    unfold oppF
    rw [if_pos c]
    exact dvd_emod_sub
  · rw [if_neg c]
    by_cases e : oppF st n t d = n - 1
    · rw [if_pos e]
      have := (opp_mid h4 ev t0 (by omega)).mp e
      rw [seatF_V, seatV_0 h4 ev] at this
      exact this
    · rw [if_neg e, oppF_ring c e]
      have := @dvd_emod_sub (n - 1) (2 * st * d - t)
      rw [show t + (2 * st * d - t) % (n - 1) - 2 * st * d = (2 * st * d - t) % (n - 1) - (2 * st * d - t) by omega]
      exact this
theorem opp_meets {st n a b r : Int} (h4 : 4 ≤ n) (ev : n % 2 = 0) (a0 : 0 ≤ a) (a1 : a < n) (b0 : 0 ≤ b) (b1 : b < n) (ab : a ≠ b) (h : meets st n a b r) : oppF st n a r = b := by
  unfold meets at h
  by_cases c : a = n - 1
  · rw [if_pos c] at h
    unfold oppF
    rw [if_pos c]
    refine (emod_is b0 (by omega)).mpr ?_
    rw [show st * r - b = -(b - st * r) by omega]
    exact Int.dvd_neg.mpr h
  · rw [if_neg c] at h
    by_cases e : b = n - 1
    · rw [if_pos e] at h
      rw [e]
      exact (opp_mid h4 ev a0 (by omega)).mpr ((seatV_0 h4 ev).mpr h)
    · rw [if_neg e] at h
      have f : (2 * st * r - a) % (n - 1) = b := by
        refine (emod_is b0 (by omega)).mpr ?_
        rw [show 2 * st * r - a - b = -(a + b - 2 * st * r) by omega]
        exact Int.dvd_neg.mpr h
      unfold oppF
      rw [if_neg c, f, if_neg (fun z => ab z.symm)]
theorem meets_swap {st n a b r : Int} (ab : a ≠ b) : meets st n a b r ↔ meets st n b a r := by
  unfold meets
  by_cases c : a = n - 1
  · rw [if_pos c, if_neg (fun z => ab (by omega)), if_pos c]
  · rw [if_neg c]
    by_cases e : b = n - 1
    · rw [if_pos e, if_pos e]
    · rw [if_neg e, if_neg e, if_neg c, Int.add_comm]
theorem oppF_opp {st n t d : Int} (h4 : 4 ≤ n) (ev : n % 2 = 0) (t0 : 0 ≤ t) (t1 : t < n) : oppF st n (oppF st n t d) d = t := by
  obtain ⟨o0, o1⟩ := @oppF_b st n t d h4
  have on := @oppF_ne st n t d h4
  exact opp_meets h4 ev o0 o1 t0 t1 on ((meets_swap on).mpr (meets_opp h4 ev t0 t1))
theorem seat_opp {st n t d : Int} (h4 : 4 ≤ n) (ev : n % 2 = 0) (t0 : 0 ≤ t) (t1 : t < n - 1) (h : oppF st n t d ≠ n - 1) : seatF st n (oppF st n t d) d = 0 - seatF st n t d := by
  have m := meets_opp (st := st) (d := d) h4 ev t0 (show t < n by omega)
  unfold meets at m
  rw [if_neg (by omega), if_neg h] at m
  rw [seatF_V, seatF_V]
  refine seatV_neg h4 ev ?_
  rw [show t - st * d + (oppF st n t d - st * d) = t + oppF st n t d - 2 * st * d by grind]
  exact m
theorem atF_neg {r : RT} (h : RV r) {n a d : Int} (hn : 2 * lst r.2.1 + 2 ≤ n) (b1 : a ≤ n / 2 - 1) (b2 : -(n / 2 - 1) ≤ a) (z : a ≠ 0) : atF r n (0 - a) d = ctrc (atF r n a d) := by
  have m := wmF_m h.w (p := n / 2 - 1) (k := (a.natAbs : Int)) (by omega) (by omega) (by omega)
  have mt := tIf_m (r := r) (d := d) m
  unfold atF
  rw [if_neg (by omega), if_neg z, show (0 - a).natAbs = a.natAbs by omega]
  by_cases p : 0 < a
  · rw [if_neg (by omega), if_pos p]
  · rw [if_pos (by omega), if_neg p, ctrc_ctrc mt]
theorem markF_opp {r : RT} (h : RV r) {n t d : Int} (hn : 2 * lst r.2.1 + 2 ≤ n) (ev : n % 2 = 0) (t0 : 0 ≤ t) (t1 : t < n) : markF r n (oppF r.1 n t d) d = ctrc (markF r n t d) := by
  have l1 := @lst_ge r.2.1
  obtain ⟨o0, o1⟩ := @oppF_b r.1 n t d (by omega)
  have st1 := standF_m r.2.2.1 d
  unfold markF
  by_cases c : t = n - 1
  · have on := @oppF_ne r.1 n t d (by omega)
    rw [if_pos c, if_neg (by omega)]
    have s0 : seatF r.1 n (oppF r.1 n t d) d = 0 := by
      rw [seatF_V, seatV_0 (by omega) ev]
      unfold oppF
      rw [if_pos c]
      exact dvd_emod_sub
    rw [s0]
    unfold atF
    rw [if_pos rfl]
  · rw [if_neg c]
    by_cases e : oppF r.1 n t d = n - 1
    · rw [if_pos e]
      have s0 := (opp_mid (by omega) ev t0 (by omega)).mp e
      rw [s0]
      unfold atF
      rw [if_pos rfl, ctrc_ctrc st1]
    · rw [if_neg e, seat_opp (by omega) ev t0 (by omega) e]
      obtain ⟨b1, b2⟩ := @seatF_b r.1 n t d (by omega) ev
      exact atF_neg h hn b2 b1 (fun z => e ((opp_mid (by omega) ev t0 (by omega)).mpr z))
/-! the rounds as an ascending list -/
theorem asc_ext : ∀ {l k : List Int}, l.Pairwise (· < ·) → k.Pairwise (· < ·) → (∀ x, x ∈ l ↔ x ∈ k) → l = k
  | [], [], _, _, _ => rfl
  | [], y :: k, _, _, h => absurd ((h y).mpr List.mem_cons_self) List.not_mem_nil
  | x :: l, [], _, _, h => absurd ((h x).mp List.mem_cons_self) List.not_mem_nil
  | x :: l, y :: k, hl, hk, h => by
    rw [List.pairwise_cons] at hl hk
    have e : x = y := by
      rcases List.mem_cons.mp ((h x).mp List.mem_cons_self) with z | z
      · exact z
      · rcases List.mem_cons.mp ((h y).mpr List.mem_cons_self) with w | w
        · exact w.symm
        · have a := hk.1 x z
          have b := hl.1 y w
          omega
    subst e
    rw [asc_ext hl.2 hk.2 fun z => ?_]
    constructor
    · intro hz
      rcases List.mem_cons.mp ((h z).mp (List.mem_cons_of_mem _ hz)) with w | w
      · have := hl.1 z hz
        omega
      · exact w
    · intro hz
      rcases List.mem_cons.mp ((h z).mpr (List.mem_cons_of_mem _ hz)) with w | w
      · have := hk.1 z hz
        omega
      · exact w
theorem rangeI_asc (lo hi : Int) : (rangeI lo hi).Pairwise (· < ·) := by
  unfold rangeI
  rw [List.pairwise_map]
  exact (List.pairwise_lt_range).imp fun h => by omega
theorem rounds_asc {step places ring : Int} (s0 : step ≠ 0) (r0 : 0 < ring) : (roundsL step places ring).Pairwise (· < ·) := by
  unfold roundsL
  refine List.Pairwise.filterMap (R := (· < ·)) _ (fun a a' h b hb b' hb' => ?_) ?_
  · split at hb
    · rename_i c
      split at hb'
      · rename_i c'
        have e1 : a / (step.natAbs : Int) = b := by simpa using hb
        have e2 : a' / (step.natAbs : Int) = b' := by simpa using hb'
        have q1 := Int.emod_add_mul_ediv a (step.natAbs : Int)
        have q2 := Int.emod_add_mul_ediv a' (step.natAbs : Int)
        rw [c, e1] at q1
        rw [c', e2] at q2
        exact Int.lt_of_mul_lt_mul_left (a := (step.natAbs : Int)) (by omega) (by omega)
      · cases hb'
    · cases hb
  · rw [List.pairwise_map]
    refine (rangeI_asc _ _).imp fun {x y} h => ?_
    have := Int.mul_lt_mul_of_pos_left h r0
    omega
theorem roundsF_mem {st n a b r : Int} (s0 : st ≠ 0) (h4 : 4 ≤ n) : r ∈ roundsF st n a b ↔ 0 ≤ r ∧ r < n - 1 ∧ meets st n a b r := by
  unfold roundsF meets
  split
  · exact rounds_mem s0 (by omega)
  · split
    · exact rounds_mem s0 (by omega)
    · exact rounds_mem (by omega) (by omega)
theorem roundsF_asc {st n a b : Int} (s0 : st ≠ 0) (h4 : 4 ≤ n) : (roundsF st n a b).Pairwise (· < ·) := by
  unfold roundsF
  split
  · exact rounds_asc s0 (by omega)
  · split
    · exact rounds_asc s0 (by omega)
    · exact rounds_asc (by omega) (by omega)
theorem roundsF_swap {st n a b : Int} (s0 : st ≠ 0) (h4 : 4 ≤ n) (ab : a ≠ b) : roundsF st n b a = roundsF st n a b :=
  asc_ext (roundsF_asc s0 h4) (roundsF_asc s0 h4) fun r => by
    rw [roundsF_mem s0 h4, roundsF_mem s0 h4, meets_swap ab]
/-- solutions of a congruence, one behind another -/
theorem cong_list {st p m : Int} (m0 : 0 < m) {R : List Int} (asc : R.Pairwise (· < ·)) (mem : ∀ r, r ∈ R ↔ 0 ≤ r ∧ r < m ∧ m ∣ p - st * r) {g : Int} (hg : g = ((Int.gcd st m : Nat) : Int)) (ne : g ∣ p → R ≠ []) :
    (¬ g ∣ p → R = []) ∧ (g ∣ p → ∃ r0 : Int, 0 ≤ r0 ∧ r0 < m / g ∧ R = (rangeI 0 g).map fun i => r0 + i * (m / g)) := by
  have gp : 0 < g := by
    have := Int.gcd_pos_of_ne_zero_right st (show m ≠ 0 by omega)
    omega
  have g1 : g ∣ st := by rw [hg]; exact Int.gcd_dvd_left ..
  have g2 : g ∣ m := by rw [hg]; exact Int.gcd_dvd_right ..
  have cop : Int.gcd (st / g) (m / g) = 1 := by
    rw [hg]
    exact Int.gcd_ediv_gcd_ediv_gcd (by omega)
  obtain ⟨s', hs'⟩ := g1
  obtain ⟨m', hm'⟩ := g2
  have mp : 0 < m' := by
    rcases Int.lt_or_le 0 m' with h | h
    · exact h
    · have := Int.mul_nonpos_of_nonneg_of_nonpos (show 0 ≤ g by omega) h
      omega
  have dv : m / g = m' := by rw [hm', Int.mul_ediv_cancel_left _ (by omega)]
  have ds : st / g = s' := by rw [hs', Int.mul_ediv_cancel_left _ (by omega)]
  rw [dv, ds] at cop
  rw [dv]
  refine ⟨fun hn => ?_, fun hp => ?_⟩
  · rw [List.eq_nil_iff_forall_not_mem]
    intro r hr
    obtain ⟨_, _, d⟩ := (mem r).mp hr
    refine hn ?_
    have a : g ∣ p - st * r := Int.dvd_trans ⟨m', hm'⟩ d
    have b : g ∣ st * r := Int.dvd_mul_of_dvd_left ⟨s', hs'⟩
    have := Int.dvd_add a b
    rw [show p - st * r + st * r = p by omega] at this
    exact this
  · obtain ⟨r1, hr1⟩ := List.exists_mem_of_ne_nil _ (ne hp)
    obtain ⟨a0, a1, ⟨c, hc⟩⟩ := (mem r1).mp hr1
    have z0 := Int.emod_nonneg r1 (show m' ≠ 0 by omega)
    have z1 := Int.emod_lt_of_pos r1 mp
    have zq := Int.emod_add_mul_ediv r1 m'
    refine ⟨r1 % m', z0, z1, asc_ext asc ?_ fun r => ?_⟩
    · rw [List.pairwise_map]
      refine (rangeI_asc _ _).imp fun {x y} h => ?_
      have := Int.mul_lt_mul_of_pos_right h mp
      omega
    · rw [mem, List.mem_map]
      generalize r1 % m' = r0 at z0 z1 zq ⊢
      generalize r1 / m' = qq at zq
      constructor
      · rintro ⟨h0, h1, ⟨e, he⟩⟩
        have k1 : m' ∣ s' * (r - r0) := by
          refine ⟨c - e + qq * s', ?_⟩
          have : g * (s' * (r - r0)) = g * (m' * (c - e + qq * s')) := by grind
          exact Int.eq_of_mul_eq_mul_left (by omega) this
        have k2 : m' ∣ r - r0 := by
          have q := Int.natAbs_dvd_natAbs.mpr k1
          rw [Int.natAbs_mul] at q
          refine Int.natAbs_dvd_natAbs.mp (Nat.Coprime.dvd_of_dvd_mul_left ?_ q)
          rw [Nat.coprime_iff_gcd_eq_one, Nat.gcd_comm]
          exact cop
        obtain ⟨i, hi⟩ := k2
        refine ⟨i, memL37 ?_ ?_, by grind⟩
        · refine Int.not_lt.mp fun w => ?_
          have : m' * i ≤ m' * (-1) := Int.mul_le_mul_of_nonneg_left (by omega) (by omega)
          omega
        · refine Int.lt_of_mul_lt_mul_left (a := m') ?_ (by omega)
          rw [Int.mul_comm m' g]
          omega
      · rintro ⟨i, hi, rfl⟩
        obtain ⟨i0, i1⟩ := rangeI_mem hi
        have b0 : 0 ≤ i * m' := Int.mul_nonneg i0 (by omega)
        have b1 : i * m' ≤ (g - 1) * m' := Int.mul_le_mul_of_nonneg_right (by omega) (by omega)
        have b2 : (g - 1) * m' = m - m' := by rw [Int.sub_mul, Int.one_mul, ← hm']
        exact ⟨by omega, by omega, ⟨c + qq * s' - s' * i, by grind⟩⟩
theorem finE : ((List.range 15).all fun t => (List.range t).all fun a => (List.range t).all fun b => decide (b % Nat.gcd a t ≠ 0) || (List.range t).any fun lap => decide ((b + a * lap) % t = 0)) = true := by decide +kernel
theorem rounds_ne {step places ring : Int} (s0 : step ≠ 0) (s7 : step.natAbs ≤ 14) (r0 : 0 < ring) (h : ((Int.gcd step ring : Nat) : Int) ∣ places) : roundsL step places ring ≠ [] := by
  have tp : 0 < step.natAbs := by omega
  have rl : ((Int.gcd step ring : Nat) : Int) ∣ restL step places ring := by
    have q : ((Int.gcd step ring : Nat) : Int) ∣ ring := Int.gcd_dvd_right ..
    have dm : ∀ x : Int, ((Int.gcd step ring : Nat) : Int) ∣ x → ((Int.gcd step ring : Nat) : Int) ∣ x % ring := fun x hx => by
      have := Int.dvd_add (Int.dvd_trans q (@dvd_emod_sub ring x)) hx
      rw [show x % ring - x + x = x % ring by omega] at this
      exact this
    unfold restL
    split
    · exact dm _ h
    · exact dm _ (Int.dvd_neg.mpr h)
  obtain ⟨b0, b1⟩ := @restL_b step places ring r0
  generalize hr : restL step places ring = rest at rl b0 b1
  have t1 := Nat.mod_lt ring.natAbs tp
  have t2 := Nat.mod_lt rest.natAbs tp
  have f := List.all_eq_true.mp (List.all_eq_true.mp (List.all_eq_true.mp finE step.natAbs (List.mem_range.mpr (by omega))) _ (List.mem_range.mpr t1)) _ (List.mem_range.mpr t2)
  rw [Bool.or_eq_true, List.any_eq_true] at f
  rcases f with f | ⟨lap, hl, hz⟩
  · exfalso
    refine of_decide_eq_true f ?_
    rw [← Nat.gcd_rec]
    have d1 : Nat.gcd step.natAbs ring.natAbs ∣ rest.natAbs := Int.ofNat_dvd_left.mp rl
    have d2 : Nat.gcd step.natAbs ring.natAbs ∣ step.natAbs := Nat.gcd_dvd_left _ _
    exact Nat.mod_eq_zero_of_dvd ((Nat.dvd_mod_iff d2).mpr d1)
  · have hz' := of_decide_eq_true hz
    rw [List.mem_range] at hl
    have hh : (rest + ring * (lap : Int)) % (step.natAbs : Int) = 0 := by
      have e1 : rest = (rest.natAbs : Int) := by omega
      have e2 : ring = (ring.natAbs : Int) := by omega
      rw [e1, e2, ← Int.natCast_mul, ← Int.natCast_add, ← Int.natCast_emod]
      have : (rest.natAbs + ring.natAbs * lap) % step.natAbs = 0 := by
        rw [Nat.add_mod, Nat.mul_mod] at hz' ⊢
        rw [Nat.mod_mod, Nat.mod_mod] at hz'
        exact hz'
      rw [this]
      rfl
    have : (rest + ring * (lap : Int)) / (step.natAbs : Int) ∈ roundsL step places ring := by
      unfold roundsL
      rw [List.mem_filterMap, hr]
      exact ⟨rest + ring * (lap : Int), List.mem_map.mpr ⟨(lap : Int), memL37 (by omega) (by omega), rfl⟩, by rw [if_pos hh]⟩
    exact List.ne_nil_of_mem this
theorem gcd_two {s m : Int} (h : m % 2 = 1) : Int.gcd (2 * s) m = Int.gcd s m := by
  have c : Nat.gcd 2 m.natAbs = 1 := by
    rw [Nat.gcd_rec, show m.natAbs % 2 = 1 by omega]
    rfl
  show Nat.gcd (2 * s).natAbs m.natAbs = Nat.gcd s.natAbs m.natAbs
  rw [Int.natAbs_mul]
  exact Nat.Coprime.gcd_mul_left_cancel _ c
/-- the rounds of a pair: none, or as many as the divisor says, at equal distances -/
def numF (n a b : Int) : Int := if a = n - 1 then b else if b = n - 1 then a else a + b
theorem roundsF_form {st n a b : Int} (s0 : st ≠ 0) (s7 : st.natAbs ≤ 7) (h4 : 4 ≤ n) (ev : n % 2 = 0) {g : Int} (hg : g = ((Int.gcd st (n - 1) : Nat) : Int)) :
    (¬ g ∣ numF n a b → roundsF st n a b = []) ∧ (g ∣ numF n a b → ∃ r0 : Int, 0 ≤ r0 ∧ r0 < (n - 1) / g ∧ roundsF st n a b = (rangeI 0 g).map fun i => r0 + i * ((n - 1) / g)) := by
  unfold roundsF numF
  split
  · exact cong_list (by omega) (rounds_asc s0 (by omega)) (fun r => rounds_mem s0 (by omega)) hg (fun h => rounds_ne s0 (by omega) (by omega) (by rw [← hg]; exact h))
  · split
    · exact cong_list (by omega) (rounds_asc s0 (by omega)) (fun r => rounds_mem s0 (by omega)) hg (fun h => rounds_ne s0 (by omega) (by omega) (by rw [← hg]; exact h))
    · have hg2 : g = ((Int.gcd (2 * st) (n - 1) : Nat) : Int) := by rw [gcd_two (by omega)]; exact hg
      exact cong_list (by omega) (rounds_asc (by omega) (by omega)) (fun r => rounds_mem (by omega) (by omega)) hg2 (fun h => rounds_ne (by omega) (by omega) (by omega) (by rw [← hg2]; exact h))
/-! ### data whose text is told -/
structure OkS (d : D) (k n : Nat) : Prop where
  pl : plainD d = true
  sw : (pyOf d).showable = true
  nd : (pyOf d).hasDict = false
  dp : (pyOf d).depth ≤ k
  ln : (pyOf d).shown.length ≤ n
  cl : (pyOf d).canLay0 = true
theorem OkS.rp {d : D} {k n : Nat} (h : OkS d k n) (hk : k ≤ 60) (hn : n ≤ 16777216) : plainD d = true ∧ (pyOf d).showable = true ∧ (pyOf d).hasDict = false ∧ (pyOf d).depth ≤ 60 ∧ (pyOf d).shown.length ≤ sizeLine :=
  ⟨h.pl, h.sw, h.nd, Nat.le_trans h.dp hk, by rw [sizeLine_eq]; exact Nat.le_trans h.ln hn⟩
theorem OkS.sh {d : D} {k n : Nat} (h : OkS d k n) (hk : k ≤ 60) : SeqAt.shaped (pyOf d) = true := by
  unfold SeqAt.shaped
  rw [h.cl, Bool.true_and]
  exact decide_eq_true (by have := h.dp; omega)
theorem OkS.rf {d : D} {k n : Nat} (h : OkS d k n) (hk : k ≤ 60) : PyData.eqv (pyOf d) (pyOf d) = true := SeqAt.eqv_refl _ (SeqAt.canLay_of_shaped (h.sh hk))
theorem OkS.mono {d : D} {k n k' n' : Nat} (h : OkS d k n) (hk : k ≤ k') (hn : n ≤ n') : OkS d k' n' := ⟨h.pl, h.sw, h.nd, Nat.le_trans h.dp hk, Nat.le_trans h.ln hn, h.cl⟩
theorem oks_int {i : Int} (h : i.natAbs < 2 ^ 1920) : OkS (D.v (V.int i)) 1 1921 := by
  have l : i.natAbs.log2 < 1920 := PySem.Flt.log2_lt_of (by decide) h
  refine ⟨rfl, decide_eq_true l, rfl, ?_, int_text_len_1921 l, rfl⟩
  simp [pyOf, PyData.depth]
theorem oks_bl (b : Bool) : OkS (D.v (V.bl b)) 1 5 := by
  cases b <;> exact ⟨rfl, rfl, rfl, by decide, by decide +kernel, rfl⟩
theorem oks_mark {c : Nat} (h : M1 c) : OkS (D.v (V.str (S [c]))) 1 3 := by
  rcases h with rfl | rfl <;> exact ⟨by decide +kernel, by decide +kernel, by decide +kernel, by decide +kernel, by decide +kernel, by decide +kernel⟩
theorem len_app (a b : Str) : (a ++ b).length = a.length + b.length := by
  rw [len_L, len_L, len_L, L_app, List.length_append]
theorem textFrom_le : ∀ {ts : List Str} {i : Nat} {acc : Str} {n : Nat}, (∀ t ∈ ts, t.length ≤ n) → (textFrom i acc ts).length ≤ acc.length + ts.length * (n + 2)
  | [], i, acc, n, _ => by
    show acc.length ≤ acc.length + 0 * (n + 2)
    omega
  | t :: ts, i, acc, n, h => by
    have h1 := h t List.mem_cons_self
    have ih := textFrom_le (ts := ts) (i := i + 1) (acc := acc ++ (if i > 0 then ", " else "" : String) ++ t) (n := n) fun t ht => h t (List.mem_cons_of_mem _ ht)
    show (textFrom (i + 1) (acc ++ (if i > 0 then ", " else "" : String) ++ t) ts).length ≤ _
    refine Nat.le_trans ih ?_
    have e : ((if i > 0 then ", " else "" : String) : Str).length ≤ 2 := by
      split <;> decide +kernel
    rw [len_app, len_app, List.length_cons, Nat.succ_mul]
    omega
theorem shownAll_len : ∀ ds : List D, (PyData.shownAll (pyL ds)).length = ds.length
  | [] => rfl
  | d :: ds => by
    simp only [pyL, PyData.shownAll, List.length_cons, shownAll_len ds]
theorem oks_all {k n : Nat} : ∀ {ds : List D}, (∀ d ∈ ds, OkS d k n) → plainL ds = true ∧ PyData.showableAll (pyL ds) = true ∧ PyData.hasDictAll (pyL ds) = false ∧ PyData.depthAll (pyL ds) ≤ k ∧ (∀ t ∈ PyData.shownAll (pyL ds), t.length ≤ n) ∧ PyData.canLayAll0 (pyL ds) = true
  | [], _ => ⟨rfl, rfl, rfl, by simp [pyL, PyData.depthAll], fun t ht => by simp [pyL, PyData.shownAll] at ht, rfl⟩
  | d :: ds, h => by
    obtain ⟨a1, a2, a3, a4, a5, a6⟩ := oks_all (ds := ds) fun e he => h e (List.mem_cons_of_mem _ he)
    have hd := h d List.mem_cons_self
    refine ⟨?_, ?_, ?_, ?_, ?_, ?_⟩
    · simp only [plainL, hd.pl, a1, Bool.and_self]
    · simp only [pyL, PyData.showableAll, hd.sw, a2, Bool.and_self]
    · simp only [pyL, PyData.hasDictAll, hd.nd, a3, Bool.or_self]
    · simp only [pyL, PyData.depthAll]
      have := hd.dp
      omega
    · intro t ht
      simp only [pyL, PyData.shownAll, List.mem_cons] at ht
      rcases ht with rfl | ht
      · exact hd.ln
      · exact a5 t ht
    · simp only [pyL, PyData.canLayAll0, hd.cl, a6, Bool.and_self]
theorem oks_lst {ds : List D} {k n m : Nat} (h : ∀ d ∈ ds, OkS d k n) (hm : ds.length ≤ m) : OkS (D.lst ds) (k + 1) (m * (n + 2) + 2) := by
  obtain ⟨a1, a2, a3, a4, a5, a6⟩ := oks_all h
  refine ⟨?_, ?_, ?_, ?_, ?_, ?_⟩
  · simp only [plainD]; exact a1
  · simp only [pyOf, PyData.showable]; exact a2
  · simp only [pyOf, PyData.hasDict]; exact a3
  · simp only [pyOf, PyData.depth]; omega
  · simp only [pyOf, PyData.shown]
    unfold listText
    rw [len_app]
    have t := textFrom_le (i := 0) (acc := "[") a5
    rw [shownAll_len] at t
    have l1 : (("[" : String) : Str).length = 1 := by decide +kernel
    have l2 : (("]" : String) : Str).length = 1 := by decide +kernel
    have : ds.length * (n + 2) ≤ m * (n + 2) := Nat.mul_le_mul_right _ hm
    first
      | omega
      | (show (textFrom 0 ("[" : Str) _).length + ("]" : Str).length ≤ _; have l3 : ("[" : Str).length = 1 := by decide +kernel; have l4 : ("]" : Str).length = 1 := by decide +kernel; omega)
  · simp only [pyOf, PyData.canLay0]; exact a6
theorem oks_map {α : Type} {e : α → D} {xs : List α} {k n m : Nat} (h : ∀ x ∈ xs, OkS (e x) k n) (hm : xs.length ≤ m) : OkS (D.lst (xs.map e)) (k + 1) (m * (n + 2) + 2) :=
  oks_lst (fun d hd => by
    obtain ⟨x, hx, rfl⟩ := List.mem_map.mp hd
    exact h x hx) (by rw [List.length_map]; exact hm)
theorem p899 {n : Int} (h0 : 0 ≤ n) (h : n < 10 ^ 70) : n.natAbs < 2 ^ 899 := by
  have e : (10 : Int) ^ 70 < 2 ^ 255 := by decide
  have e3 : ((2 ^ 255 : Nat) : Int) = (2 : Int) ^ 255 := by decide
  have : n.natAbs < 2 ^ 255 := by omega
  exact Nat.lt_trans this (Nat.pow_lt_pow_right (by decide) (by decide))
/-! ### law k31 -/
theorem forC_snoc {α β : Type} {body : α → List β → (List β → Prop) → Prop} {k : List β → Prop} (g : α → β) (N : Nat) : ∀ {xs : List α} {acc : List β}, acc.length + xs.length ≤ N → (∀ x ∈ xs, ∀ (s : List β) (k' : List β → Prop), s.length < N → k' (s ++ [g x]) → body x s k') → k (acc ++ xs.map g) → forC body xs acc k
  | [], acc, _, _, q => by
    rw [List.map_nil, List.append_nil] at q
    exact q
  | x :: xs, acc, hN, h, q => by
    rw [List.length_cons] at hN
    refine h x List.mem_cons_self acc _ (by omega) ?_
    refine forC_snoc g N (by rw [List.length_append, List.length_cons, List.length_nil]; omega) (fun y hy => h y (List.mem_cons_of_mem _ hy)) ?_
    rw [List.append_assoc]
    exact q
theorem rangeI_cons {lo hi : Int} (h : lo < hi) : rangeI lo hi = lo :: rangeI (lo + 1) hi := by
  apply List.ext_getElem?
  intro i
  cases i with
  | zero => rw [rangeI_get (by omega)]; simp
  | succ i =>
    rw [List.getElem?_cons_succ]
    by_cases c : i < (hi - (lo + 1)).toNat
    · rw [rangeI_get (by omega), rangeI_get c]
      congr 1
      omega
    · rw [List.getElem?_eq_none (by rw [rangeI_len]; omega), List.getElem?_eq_none (by rw [rangeI_len]; omega)]
theorem forC_rng {S : Type} {body : Int → S → (S → Prop) → Prop} {k : S → Prop} (I : Int → S → Prop) {hi : Int} : ∀ (n : Nat) {lo : Int} {s0 : S}, n = (hi - lo).toNat → lo ≤ hi → (∀ (x : Int) (s : S) (k' : S → Prop), lo ≤ x → x < hi → I x s → (∀ s', I (x + 1) s' → k' s') → body x s k') → I lo s0 → (∀ s, I hi s → k s) → forC body (rangeI lo hi) s0 k
  | 0, lo, s0, hn, hl, _, h0, q => by
    have e : lo = hi := by omega
    subst e
    have : rangeI lo lo = [] := List.eq_nil_of_length_eq_zero (by rw [rangeI_len]; omega)
    rw [this]
    exact q s0 h0
  | n + 1, lo, s0, hn, hl, hb, h0, q => by
    rw [rangeI_cons (by omega)]
    exact hb lo s0 _ (by omega) (by omega) h0 fun s' h' => forC_rng I n (by omega) (by omega) (fun x s k' a b => hb x s k' (by omega) b) h' q
theorem getD_put {α : Type} {m : List (Key × α)} {k k' : Key} {y : α} : Rx.getD (putD m k y) k' = if k' = k then some y else Rx.getD m k' := by
  have aux : ∀ m : List (Key × α), Rx.getD (m.map fun q => if q.1 = k then (q.1, y) else q) k' = if k' = k then (if (m.any fun q => decide (q.1 = k)) = true then some y else none) else Rx.getD m k' := by
    intro m
    induction m with
    | nil => simp [Rx.getD]
    | cons q m ih =>
      by_cases c : q.1 = k
      · by_cases d : k' = k
        · subst d
          simp [Rx.getD, c]
        · have e : ¬ k = k' := fun z => d z.symm
          rw [if_neg d] at ih ⊢
          unfold Rx.getD at ih ⊢
          rw [List.map_cons, if_pos c, List.find?_cons_of_neg (by simpa [c] using e), List.find?_cons_of_neg (by simpa [c] using e)]
          exact ih
      · by_cases d : k' = k
        · subst d
          rw [if_pos rfl] at ih ⊢
          unfold Rx.getD at ih ⊢
          rw [List.map_cons, if_neg c, List.find?_cons_of_neg (by simpa using c), List.any_cons, decide_eq_false c, Bool.false_or]
          exact ih
        · rw [if_neg d] at ih ⊢
          unfold Rx.getD at ih ⊢
          rw [List.map_cons, if_neg c]
          by_cases e : q.1 = k'
          · rw [List.find?_cons_of_pos (by simpa using e), List.find?_cons_of_pos (by simpa using e)]
          · rw [List.find?_cons_of_neg (by simpa using e), List.find?_cons_of_neg (by simpa using e)]
            exact ih
  unfold putD
  by_cases h : (m.any fun q => decide (q.1 = k)) = true
  · rw [if_pos h, aux, if_pos h]
  · rw [if_neg h]
    have nf : ∀ q ∈ m, q.1 ≠ k := fun q hq z => h (List.any_eq_true.mpr ⟨q, hq, decide_eq_true z⟩)
    unfold Rx.getD
    rw [List.find?_append]
    by_cases d : k' = k
    · subst d
      have : m.find? (fun q => decide (q.1 = k')) = none := List.find?_eq_none.mpr fun q hq => by simpa using nf q hq
      rw [this, if_pos rfl]
      simp
    · rw [if_neg d]
      have e : ¬ k = k' := fun z => d z.symm
      cases hf : m.find? (fun q => decide (q.1 = k')) with
      | some q => simp
      | none => simp [e]
theorem putD_len {α : Type} {m : List (Key × α)} {k : Key} {y : α} : (putD m k y).length ≤ m.length + 1 := by
  unfold putD
  split
  · rw [List.length_map]; omega
  · rw [List.length_append]; exact Nat.le_refl _
theorem standing_ok {r : RT} (h : RV r) {d : Int} {k : Str → Prop} (q : k (S [standF r.2.2.1 d])) : M_standing r (decide (V.int (d % 2) = V.int 1)) k := by
  unfold M_standing
  have d2 : d % 2 = 0 ∨ d % 2 = 1 := by omega
  have hs := h.st
  simp only [standers, List.mem_cons, List.not_mem_nil, or_false] at hs
  have fin : ∀ (s : Str) (b : Bool) (c : Nat), (∃ y, getM [(Sum.inr ("home" : Str) : Key), (Sum.inr ("away" : Str) : Key), (Sum.inr ("even" : Str) : Key), (Sum.inr ("odd" : Str) : Key)] ([("hh" : Str), ("aa" : Str), ("ha" : Str), ("ah" : Str)] : List Str) (Sum.inr s : Key) = some y ∧ y.length ≤ sizeLine ∧ atI y.cps.toList (if b then (1 : Int) else 0) = some c) → k (S [c]) →
      (∃ y13, getM [(Sum.inr ("home" : Str) : Key), (Sum.inr ("away" : Str) : Key), (Sum.inr ("even" : Str) : Key), (Sum.inr ("odd" : Str) : Key)] ([("hh" : Str), ("aa" : Str), ("ha" : Str), ("ah" : Str)] : List Str) (Sum.inr s : Key) = some y13 ∧ (y13.length ≤ sizeLine ∧ ∃ c16, atI y13.cps.toList (if b then (1 : Int) else 0) = some c16 ∧ (k (Str.mk #[c16])))) := by
    rintro s b c ⟨y, e1, e2, e3⟩ q
    exact ⟨y, e1, e2, c, e3, q⟩
  refine fin r.2.2.1 _ (standF r.2.2.1 d) ?_ q
  rcases hs with e | e | e | e <;> rcases d2 with f | f <;> rw [e, f]
  · rw [show standF "home" d = 104 by unfold standF; rw [if_pos rfl]]
    exact ⟨"hh", by decide +kernel, by decide +kernel, by decide +kernel⟩
  · rw [show standF "home" d = 104 by unfold standF; rw [if_pos rfl]]
    exact ⟨"hh", by decide +kernel, by decide +kernel, by decide +kernel⟩
  · rw [show standF "away" d = 97 by unfold standF; rw [if_neg (by decide +kernel), if_pos rfl]]
    exact ⟨"aa", by decide +kernel, by decide +kernel, by decide +kernel⟩
  · rw [show standF "away" d = 97 by unfold standF; rw [if_neg (by decide +kernel), if_pos rfl]]
    exact ⟨"aa", by decide +kernel, by decide +kernel, by decide +kernel⟩
  · rw [show standF "even" d = 104 by unfold standF; rw [if_neg (by decide +kernel), if_neg (by decide +kernel), if_pos rfl, if_pos f]]
    exact ⟨"ha", by decide +kernel, by decide +kernel, by decide +kernel⟩
  · rw [show standF "even" d = 97 by unfold standF; rw [if_neg (by decide +kernel), if_neg (by decide +kernel), if_pos rfl, if_neg (by omega)]]
    exact ⟨"ha", by decide +kernel, by decide +kernel, by decide +kernel⟩
  · rw [show standF "odd" d = 97 by unfold standF; rw [if_neg (by decide +kernel), if_neg (by decide +kernel), if_neg (by decide +kernel), if_pos f]]
    exact ⟨"ah", by decide +kernel, by decide +kernel, by decide +kernel⟩
  · rw [show standF "odd" d = 104 by unfold standF; rw [if_neg (by decide +kernel), if_neg (by decide +kernel), if_neg (by decide +kernel), if_neg (by omega)]]
    exact ⟨"ah", by decide +kernel, by decide +kernel, by decide +kernel⟩
theorem turned_ok {c : Nat} (h : M1 c) {k : Str → Prop} (q : k (S [ctrc c])) : M_turned (S [c]) k := by
  unfold M_turned
  refine ⟨fun v => v = S [ctrc c], ?_, fun v hv => by rw [hv]; exact q⟩
  rw [S_h, S_a, eqM]
  rcases h with rfl | rfl
  · rw [if_pos (by decide)]
    rfl
  · rw [if_neg (by decide)]
    rfl
theorem line_ok {r : RT} (h : RV r) {n : Int} (hn : lst r.2.1 ≤ n) (hb : n ≤ 5000) {k : Str → Prop} (q : k (S (rw_ r.2.1 n))) : M_line r n k := by
  have hw := h.w
  have g := @lst_ge r.2.1
  have m1 := hw.m1
  have m4 := hw.m4
  have hm : 0 < (L r.2.1.2.1).length := by omega
  unfold M_line
  refine whileC_ok (fun s => ∃ j : Nat, L s = cyc (L r.2.1.2.1) (j * (L r.2.1.2.1).length) ∧ j * (L r.2.1.2.1).length ≤ n.toNat + 4) (fun s => n.toNat + 8 - (L s).length) (fun s k1 ⟨j, hs, hj⟩ hk => ?_) ⟨0, by rw [L_empty, Nat.zero_mul]; rfl, by omega⟩
  have hl : (L s).length = j * (L r.2.1.2.1).length := by rw [hs, cyc_len]
  refine ⟨line_of (n := 6000) (by omega) (by decide), ?_⟩
  rw [len_L]
  by_cases c : ((L s).length : Int) < n
  · rw [if_pos (dec_true c)]
    refine ⟨?_, hk _ ⟨j + 1, ?_, ?_⟩ ?_⟩
    · have e : sizeLine = 16777216 := sizeLine_eq
      rw [len_L, e]
      omega
    · rw [L_app, hs, cyc_end hm]
    · rw [Nat.succ_mul]
      omega
    · rw [L_app, List.length_append]
      omega
  · rw [if_neg (by simpa using c)]
    have hi : 0 ≤ n - ((L r.2.1.1).length : Int) - ((L r.2.1.2.2).length : Int) := by omega
    have hc : L (cutS s none (some (n - ((L r.2.1.1).length : Int) - ((L r.2.1.2.2).length : Int)))) = cyc (L r.2.1.2.1) (n.toNat - (L r.2.1.1).length - (L r.2.1.2.2).length) := by
      rw [cut_take _ hi, hs, cyc_take _ (by omega)]
      congr 1
      omega
    have e : sizeLine = 16777216 := sizeLine_eq
    have fin : ∀ z : Str, L z = rw_ r.2.1 n → k z := fun z hz => by
      rw [show z = S (rw_ r.2.1 n) from L_ext (by rw [hz, L_S])]
      exact q
    refine ⟨line4 hw.h4, line4 hw.t4, line_of (n := 6000) (by omega) (by decide), ?_, ?_, fin _ ?_⟩
    · rw [len_L, len_L, len_L, hc, cyc_len, e]
      have := hw.h4
      omega
    · rw [len_L, L_app, List.length_append, len_L, len_L, hc, cyc_len, e]
      have := hw.h4
      have := hw.t4
      omega
    · rw [L_app, L_app, len_L, len_L, hc]
      rfl
/-- the marks at all seats -/
theorem lmarks_ok {r : RT} (h : RV r) {p d : Int} (hp : lst r.2.1 ≤ p) (hb : p ≤ 100) {k : List (Key × Str) → Prop} (q : ∀ m : List (Key × Str), (∀ y : Int, -p ≤ y → y ≤ p → Rx.getD m (Sum.inl y) = some (S [atF r (2 * p + 2) y d])) → k m) : M_marks r p (decide (V.int (d % 2) = V.int 1)) k := by
  have l1 := @lst_ge r.2.1
  have st1 := standF_m r.2.2.1 d
  have pe : (2 * p + 2) / 2 - 1 = p := by omega
  unfold M_marks
  refine standing_ok h (turned_ok st1 (line_ok h hp (by omega) ?_))
  refine forC_rng (fun x s => s.length ≤ (2 * x).toNat ∧ ∀ y : Int, -x < y → y < x → Rx.getD s (Sum.inl y) = some (S [atF r (2 * p + 2) y d])) (hi := p + 1) _ rfl (by omega) (fun x s k' x1 x2 hI hk => ?_) ⟨by simp, fun y y1 y2 => ?_⟩ (fun s hs => q s fun y y1 y2 => hs.2 y (by omega) (by omega))
  · obtain ⟨hl, hg⟩ := hI
    have m := wmF_m h.w (p := p) (k := x) hp (by omega) (by omega)
    have hat : atI (L (S (rw_ r.2.1 p))) (x - 1) = some (wmF r.2.1 p x) := by
      rw [L_S]
      exact at_nat' (by omega) (wmF_at hp (by omega) (by omega))
    have hl6 : (S (rw_ r.2.1 p)).length ≤ sizeLine := line_of (n := 200) (by rw [L_S, rw_len hp]; omega) (by decide)
    refine ⟨hl6, _, hat, ?_⟩
    have ax : atF r (2 * p + 2) x d = tIf r d (wmF r.2.1 p x) := by
      unfold atF
      rw [if_neg (by omega), if_pos (by omega), pe, show ((x.natAbs : Nat) : Int) = x by omega]
    have an : atF r (2 * p + 2) (0 - x) d = ctrc (tIf r d (wmF r.2.1 p x)) := by
      unfold atF
      rw [if_neg (by omega), if_neg (by omega), pe, show (((0 - x).natAbs : Nat) : Int) = x by omega]
    have fin : ∀ u : Nat, u = tIf r d (wmF r.2.1 p x) → (s.length < 16777216 ∧ ((putD s (Sum.inl x : Key) (S [u])).length < 16777216 ∧ k' (putD (putD s (Sum.inl x : Key) (S [u])) (Sum.inl (0 - x) : Key) (S [ctrc u])))) := by
      intro u hu
      subst hu
      have p1 := @putD_len Str s (Sum.inl x) (S [tIf r d (wmF r.2.1 p x)])
      have p2 := @putD_len Str (putD s (Sum.inl x : Key) (S [tIf r d (wmF r.2.1 p x)])) (Sum.inl (0 - x)) (S [ctrc (tIf r d (wmF r.2.1 p x))])
      refine ⟨by omega, by omega, hk _ ⟨by omega, fun y y1 y2 => ?_⟩⟩
      rw [getD_put, getD_put]
      by_cases c1 : y = 0 - x
      · rw [if_pos (by rw [c1]), c1, an]
      · rw [if_neg (fun z => c1 (Sum.inl.inj z))]
        by_cases c2 : y = x
        · rw [if_pos (by rw [c2]), c2, ax]
        · rw [if_neg (fun z => c2 (Sum.inl.inj z))]
          exact hg y (by omega) (by omega)
    by_cases t : r.2.2.2 = true
    · rw [if_pos t]
      by_cases o : d % 2 = 1
      · rw [if_pos (by rw [eqI']; exact o)]
        have u := fin (ctrc (wmF r.2.1 p x)) (by unfold tIf; rw [if_pos ⟨t, o⟩])
        exact turned_ok m (turned_ok (ctrc_mk _) u)
      · rw [if_neg (by rw [eqI']; exact o)]
        have u := fin (wmF r.2.1 p x) (by unfold tIf; rw [if_neg (fun z => o z.2)])
        exact turned_ok m u
    · rw [if_neg t]
      have u := fin (wmF r.2.1 p x) (by unfold tIf; rw [if_neg (fun z => t z.1)])
      exact turned_ok m u
  · have : y = 0 := by omega
    subst this
    show some (S [ctrc (standF r.2.2.1 d)]) = _
    unfold atF
    rw [if_pos rfl]
def SP (st n d : Int) : List Int := (rangeI 0 (n - 1)).map fun t => seatF st n t d
theorem seat_uniq {n x a : Int} (h4 : 4 ≤ n) (ev : n % 2 = 0) (b1 : -(n / 2 - 1) ≤ a) (b2 : a ≤ n / 2 - 1) (h : n - 1 ∣ x - a) : seatV n x = a := by
  have e : x % (n - 1) = if 0 ≤ a then a else a + (n - 1) := by
    by_cases c : 0 ≤ a
    · rw [if_pos c]
      exact (emod_is c (by omega)).mpr h
    · rw [if_neg c]
      refine (emod_is (by omega) (by omega)).mpr ?_
      obtain ⟨z, hz⟩ := h
      exact ⟨z - 1, by grind⟩
  unfold seatV
  rw [e]
  split <;> split <;> omega
theorem spots_ok {r : RT} (h : RV r) {p d : Int} (hp : 1 ≤ p) (hb : p ≤ 100) (d0 : 0 ≤ d) (d1 : d < 2 * p + 1) {k : List Int → Prop} (q : k (SP r.1 (2 * p + 2) d)) : M_spots r p d k := by
  have s7 := h.s7
  unfold M_spots
  unfold SP at q
  rw [show 2 * p + 2 - 1 = 2 * p + 1 by omega] at q
  refine forC_snoc (fun t => seatF r.1 (2 * p + 2) t d) 300 (by rw [rangeI_len]; simp; omega) (fun x hx s k' hs hk => ?_) (by rw [List.nil_append]; exact q)
  obtain ⟨x0, x1⟩ := rangeI_mem hx
  have hsv := seatF_b (st := r.1) (n := 2 * p + 2) (t := x) (d := d) (by omega) (by omega)
  have b70 : (1000 : Int) < 10 ^ 70 := by decide
  refine ⟨cmul7 (n := 2 * p + 2) (by omega) d0 (by omega) (p899 (by omega) (by omega)), by rw [rangeI_len]; omega, filC_ok (fun y => if (x - r.1 * d - y) % (2 * p + 1) = 0 then some y else none) (fun y hy k2 hk2 => ?_) ?_⟩
  · refine ⟨by omega, ?_⟩
    by_cases c : (x - r.1 * d - y) % (2 * p + 1) = 0
    · rw [if_pos (by rw [eqI']; exact c)]
      rw [if_pos c] at hk2
      exact hk2
    · rw [if_neg (by rw [eqI']; exact c)]
      rw [if_neg c] at hk2
      exact hk2
  · rw [List.nil_append]
    generalize hys : (rangeI (0 - p) (p + 1)).filterMap (fun y => if (x - r.1 * d - y) % (2 * p + 1) = 0 then some y else none) = ys
    have mem : ∀ y, y ∈ ys ↔ (0 - p ≤ y ∧ y < p + 1) ∧ (x - r.1 * d - y) % (2 * p + 1) = 0 := fun y => by
      rw [← hys, List.mem_filterMap]
      constructor
      · rintro ⟨z, hz, e⟩
        split at e
        · rename_i c
          cases e
          exact ⟨rangeI_mem hz, c⟩
        · cases e
      · rintro ⟨a, c⟩
        exact ⟨y, memL37 a.1 a.2, by rw [if_pos c]⟩
    have hin : seatF r.1 (2 * p + 2) x d ∈ ys := by
      refine (mem _).mpr ⟨by omega, ?_⟩
      have := @seatV_dvd (2 * p + 2) (x - r.1 * d) (by omega)
      rw [show 2 * p + 2 - 1 = 2 * p + 1 by omega] at this
      exact Int.emod_eq_zero_of_dvd this
    refine ⟨by decide, List.length_pos_of_mem hin, fun y hy => ⟨by omega, ?_⟩⟩
    have hy' : y ∈ ys := by rw [hy]; exact List.getElem_mem _
    obtain ⟨⟨y1, y2⟩, y3⟩ := (mem y).mp hy'
    have e : seatF r.1 (2 * p + 2) x d = y := seat_uniq (by omega) (by omega) (by omega) (by omega) (by
      rw [show 2 * p + 2 - 1 = 2 * p + 1 by omega]
      exact Int.dvd_of_emod_eq_zero y3)
    rw [e] at hk
    exact hk
theorem SP_at {st n d t : Int} (t0 : 0 ≤ t) (t1 : t < n - 1) : (SP st n d)[t.toNat]? = some (seatF st n t d) := by
  unfold SP
  rw [List.getElem?_map, rangeI_get (by omega)]
  show some (seatF st n (0 + (t.toNat : Int)) d) = _
  rw [show (0 : Int) + (t.toNat : Int) = t by omega]
theorem SP_len {st n d : Int} : (SP st n d).length = (n - 1).toNat := by
  unfold SP
  rw [List.length_map, rangeI_len]
  omega
theorem seat_inj {st n d a b : Int} (h4 : 4 ≤ n) (a0 : 0 ≤ a) (a1 : a < n - 1) (b0 : 0 ≤ b) (b1 : b < n - 1) (h : seatF st n a d = seatF st n b d) : a = b := by
  rw [seatF_V, seatF_V] at h
  have d1 := @seatV_dvd n (a - st * d) h4
  have d2 := @seatV_dvd n (b - st * d) h4
  rw [h] at d1
  have d3 : n - 1 ∣ a - b := by
    have := Int.dvd_sub d1 d2
    rw [show a - st * d - seatV n (b - st * d) - (b - st * d - seatV n (b - st * d)) = a - b by omega] at this
    exact this
  have e1 := (emod_is b0 b1).mpr d3
  rw [Int.emod_eq_of_lt a0 a1] at e1
  exact e1
/-- where a seat stands in the list of all seats -/
theorem SP_idx {st n d t s : Int} (h4 : 4 ≤ n) (t0 : 0 ≤ t) (t1 : t < n - 1) (h : seatF st n t d = s) : s ∈ SP st n d ∧ (((SP st n d).idxOf s : Nat) : Int) = t := by
  have hm : s ∈ SP st n d := by
    have := List.mem_of_getElem? (SP_at (st := st) (d := d) t0 t1)
    rw [h] at this
    exact this
  refine ⟨hm, ?_⟩
  have hl := List.idxOf_lt_length_iff.mpr hm
  have hl' := hl
  rw [SP_len] at hl'
  have e := List.getElem_idxOf hl
  have e2 := SP_at (st := st) (n := n) (d := d) (t := ((SP st n d).idxOf s : Int)) (by omega) (by omega)
  rw [show (((SP st n d).idxOf s : Nat) : Int).toNat = (SP st n d).idxOf s by omega, List.getElem?_eq_getElem hl, e] at e2
  have e3 := Option.some.inj e2
  exact seat_inj (st := st) (d := d) h4 (by omega) (by omega) t0 t1 (by rw [← e3, h])
def OPL (st n d : Int) : List Int := (rangeI 0 n).map fun t => oppF st n t d
def MKL (r : RT) (n d : Int) : List Str := (rangeI 0 n).map fun t => S [markF r n t d]
theorem rangeI_last {n : Int} (h : 1 ≤ n) : rangeI 0 n = rangeI 0 (n - 1) ++ [n - 1] := by
  apply List.ext_getElem?
  intro i
  by_cases c : i < (n - 1).toNat
  · rw [List.getElem?_append_left (by rw [rangeI_len]; omega), rangeI_get (by omega), rangeI_get (by omega)]
  · rw [List.getElem?_append_right (by rw [rangeI_len]; omega), rangeI_len]
    by_cases e : i = (n - 1).toNat
    · rw [rangeI_get (by omega), e, show (n - 1).toNat - (n - 1 - 0).toNat = 0 by omega]
      simp
      omega
    · rw [List.getElem?_eq_none (by rw [rangeI_len]; omega), List.getElem?_eq_none (by simp; omega)]
theorem due_ok {r : RT} (h : RV r) {p d : Int} (hp : lst r.2.1 ≤ p) (hb : p ≤ 100) (d0 : 0 ≤ d) (d1 : d < 2 * p + 1) {k : List Int × List Int × List Str → Prop} (q : k (SP r.1 (2 * p + 2) d, OPL r.1 (2 * p + 2) d, MKL r (2 * p + 2) d)) : M_due r p d k := by
  have l1 := @lst_ge r.2.1
  have S0 := sizeLine_eq
  unfold M_due
  refine spots_ok h (by omega) hb d0 d1 (lmarks_ok h hp hb fun m hm => ?_)
  have e4 : 4 ≤ 2 * p + 2 := by omega
  have ev : (2 * p + 2) % 2 = 0 := by omega
  have e1 : 2 * p + 2 - 1 = 2 * p + 1 := by omega
  refine forC_snoc (fun t => oppF r.1 (2 * p + 2) t d) 300 (by rw [rangeI_len]; simp; omega) (fun x hx s k' hs hk => ?_) ?_
  · obtain ⟨x0, x1⟩ := rangeI_mem hx
    have at_ := SP_at (st := r.1) (n := 2 * p + 2) (d := d) (t := x) x0 (by omega)
    have lt : x.toNat < (SP r.1 (2 * p + 2) d).length := by rw [SP_len]; omega
    refine ⟨fun v => v = oppF r.1 (2 * p + 2) x d, ⟨x0, lt, fun y hy => ?_⟩, fun v hv => ⟨by omega, by rw [hv]; exact hk⟩⟩
    rw [List.getElem?_eq_getElem lt] at at_
    have ey : y = seatF r.1 (2 * p + 2) x d := by rw [hy]; exact Option.some.inj at_
    have om := opp_mid (st := r.1) (t := x) (d := d) e4 ev x0 (by omega)
    by_cases c : y = 0
    · rw [if_pos (by rw [eqI']; exact c)]
      have := om.mpr (by rw [← ey]; exact c)
      show 2 * p + 1 = _
      omega
    · rw [if_neg (by rw [eqI']; exact c)]
      have on : oppF r.1 (2 * p + 2) x d ≠ 2 * p + 2 - 1 := fun z => c (by rw [ey]; exact om.mp z)
      obtain ⟨o0, o1⟩ := @oppF_b r.1 (2 * p + 2) x d e4
      have so := seat_opp (st := r.1) (d := d) e4 ev x0 (by omega) on
      refine ⟨x0, lt, fun z hz => ?_⟩
      have ez : z = seatF r.1 (2 * p + 2) x d := by rw [hz]; exact Option.some.inj at_
      obtain ⟨i1, i2⟩ := SP_idx (st := r.1) (d := d) e4 o0 (by omega) so
      rw [ez]
      exact ⟨i1, i2⟩
  · rw [List.nil_append]
    refine ⟨by rw [SP_len]; omega, mapC_ok (fun x => S [atF r (2 * p + 2) x d]) (fun x hx k' hk => ?_) ?_⟩
    · unfold SP at hx
      obtain ⟨t, ht, rfl⟩ := List.mem_map.mp hx
      obtain ⟨b1, b2⟩ := seatF_b (st := r.1) (n := 2 * p + 2) (t := t) (d := d) (by omega) (by omega)
      exact ⟨_, hm _ (by omega) (by omega), hk⟩
    · rw [List.nil_append]
      refine standing_ok h ⟨by rw [List.length_map, SP_len, S0]; simp; omega, ?_⟩
      have z0 : seatF r.1 (2 * p + 2) (oppF r.1 (2 * p + 2) (2 * p + 1) d) d = 0 := by
        rw [seatF_V, seatV_0 e4 ev]
        unfold oppF
        rw [if_pos (by omega)]
        exact dvd_emod_sub
      obtain ⟨o0, o1⟩ := @oppF_b r.1 (2 * p + 2) (2 * p + 1) d e4
      have on := @oppF_ne r.1 (2 * p + 2) (2 * p + 1) d e4
      obtain ⟨i1, i2⟩ := SP_idx (st := r.1) (d := d) e4 o0 (by omega) z0
      refine ⟨i1, by rw [List.length_map, rangeI_len, S0]; simp; omega, ?_⟩
      have f1 : (rangeI 0 (2 * p + 1)).map (fun t => oppF r.1 (2 * p + 2) t d) ++ [(((SP r.1 (2 * p + 2) d).idxOf 0 : Nat) : Int)] = OPL r.1 (2 * p + 2) d := by
        unfold OPL
        rw [rangeI_last (n := 2 * p + 2) (by omega), List.map_append, i2, e1]
        rfl
      have f2 : (SP r.1 (2 * p + 2) d).map (fun x => S [atF r (2 * p + 2) x d]) ++ [S [standF r.2.2.1 d]] = MKL r (2 * p + 2) d := by
        unfold MKL SP
        rw [rangeI_last (n := 2 * p + 2) (by omega), List.map_append, List.map_map, e1]
        congr 1
        · refine List.map_congr_left fun t ht => ?_
          obtain ⟨t0, t1⟩ := rangeI_mem ht
          show S [atF r (2 * p + 2) (seatF r.1 (2 * p + 2) t d) d] = _
          unfold markF
          rw [if_neg (by omega)]
        · show _ = [S [markF r (2 * p + 2) (2 * p + 1) d]]
          unfold markF
          rw [if_pos (by omega)]
      rw [f1, f2]
      exact q
theorem ixL {α : Type} {l : List α} {i : Int} {y : α} {k : α → Prop} (h0 : 0 ≤ i) (hy : l[i.toNat]? = some y) (q : k y) : 0 ≤ i ∧ ∃ g : Int.toNat i < l.length, ∀ x, x = l[Int.toNat i]'g → k x := by
  obtain ⟨g, e⟩ := List.getElem?_eq_some_iff.mp hy
  exact ⟨h0, g, fun x hx => by rw [hx, e]; exact q⟩
abbrev eI (y : Int) : D := D.v (V.int y)
abbrev eSt (y : Str) : D := D.v (V.str y)
def tellD (r : RT) (n d : Int) : D := D.lst [D.lst ((SP r.1 n d).map eI), D.lst ((OPL r.1 n d).map eI), D.lst ((MKL r n d).map eSt)]
theorem told_ok {r : RT} (h : RV r) {n d : Int} (hn : 2 * lst r.2.1 + 2 ≤ n) (ev : n % 2 = 0) (hb : n ≤ 100) (d0 : 0 ≤ d) (d1 : d < n - 1) {k : List D → Prop} (q : k [D.lst ((SP r.1 n d).map eI), D.lst ((OPL r.1 n d).map eI), D.lst ((MKL r n d).map eSt)]) : M_told r n d k := by
  have l1 := @lst_ge r.2.1
  have b70 : (1000 : Int) < 10 ^ 70 := by decide
  have bg := p899 (n := n) (by omega) (by omega)
  unfold M_told
  refine ⟨by rw [rangeI_len]; omega, mapC_ok (fun t => seatF r.1 n t d) (fun t ht k' hk => ?_) ?_⟩
  · obtain ⟨t0, t1⟩ := rangeI_mem ht
    exact seat_ok h hn ev bg t0 t1 d0 d1 hk
  · rw [List.nil_append]
    refine ⟨by rw [rangeI_len]; omega, mapC_ok (fun t => oppF r.1 n t d) (fun t ht k' hk => ?_) ?_⟩
    · obtain ⟨t0, t1⟩ := rangeI_mem ht
      exact opp_ok h hn ev bg t0 t1 d0 d1 hk
    · rw [List.nil_append]
      refine ⟨by simp, by rw [rangeI_len]; omega, mapC_ok (fun t => S [markF r n t d]) (fun t ht k' hk => ?_) ?_⟩
      · obtain ⟨t0, t1⟩ := rangeI_mem ht
        exact markof_ok h hn ev bg t0 t1 d0 d1 hk
      · rw [List.nil_append]
        exact ⟨by rw [sizeLine_eq]; simp, q⟩
theorem int_small {i : Int} (h0 : -1000 ≤ i) (h1 : i ≤ 1000) : i.natAbs < 2 ^ 1920 := Nat.lt_of_lt_of_le (show i.natAbs < 2 ^ 10 by omega) (Nat.pow_le_pow_right (by decide) (by decide))
theorem tell_ok {r : RT} (h : RV r) {n d : Int} (hn : 2 * lst r.2.1 + 2 ≤ n) (ev : n % 2 = 0) (hb : n ≤ 100) : OkS (tellD r n d) 3 1000000 := by
  have l1 := @lst_ge r.2.1
  have a1 : OkS (D.lst ((SP r.1 n d).map eI)) 2 (100 * 1923 + 2) := by
    refine oks_map (n := 1921) (fun x hx => ?_) (by rw [SP_len]; omega)
    unfold SP at hx
    obtain ⟨t, _, rfl⟩ := List.mem_map.mp hx
    obtain ⟨b1, b2⟩ := seatF_b (st := r.1) (n := n) (t := t) (d := d) (by omega) ev
    exact oks_int (int_small (by omega) (by omega))
  have a2 : OkS (D.lst ((OPL r.1 n d).map eI)) 2 (100 * 1923 + 2) := by
    refine oks_map (n := 1921) (fun x hx => ?_) (by unfold OPL; rw [List.length_map, rangeI_len]; omega)
    unfold OPL at hx
    obtain ⟨t, _, rfl⟩ := List.mem_map.mp hx
    obtain ⟨b1, b2⟩ := @oppF_b r.1 n t d (by omega)
    exact oks_int (int_small (by omega) (by omega))
  have a3 : OkS (D.lst ((MKL r n d).map eSt)) 2 (100 * 1923 + 2) := by
    refine oks_map (n := 1921) (fun x hx => ?_) (by unfold MKL; rw [List.length_map, rangeI_len]; omega)
    unfold MKL at hx
    obtain ⟨t, _, rfl⟩ := List.mem_map.mp hx
    exact (oks_mark (markF_m h hn ev)).mono (by decide) (by decide)
  unfold tellD
  refine (oks_lst (k := 2) (n := 100 * 1923 + 2) (m := 3) (fun x hx => ?_) (by simp)).mono (by decide) (by decide)
  simp only [List.mem_cons, List.not_mem_nil, or_false] at hx
  rcases hx with rfl | rfl | rfl
  · exact a1
  · exact a2
  · exact a3
theorem byname_ok {r : RT} (h : RV r) {n t d : Int} (hn : 2 * lst r.2.1 + 2 ≤ n) (ev : n % 2 = 0) (hb : n ≤ 100) (t0 : 0 ≤ t) (t1 : t < n - 1) (d0 : 0 ≤ d) (d1 : d < n - 1) {k : List D → Prop} (q : k [eI (seatF r.1 n t d), eI (oppF r.1 n t d), eSt (S [markF r n t d])]) : M_by_name r n t d k := by
  have l1 := @lst_ge r.2.1
  have b70 : (1000 : Int) < 10 ^ 70 := by decide
  have bg := p899 (n := n) (by omega) (by omega)
  unfold M_by_name
  exact seat_ok h hn ev bg t0 t1 d0 d1 (opp_ok h hn ev bg t0 (by omega) d0 d1 (markof_ok h hn ev bg t0 (by omega) d0 d1 ⟨by rw [sizeLine_eq]; simp, q⟩))
/-- one rule at one round -/
theorem turn_ok {r : RT} (h : RV r) {p d : Int} (hp : lst r.2.1 ≤ p) (hb : p ≤ 20) (d0 : 0 ≤ d) (d1 : d < 2 * p + 1) {KF : Prop} {k : Unit → Prop} (q : k ()) :
    M_due r p d fun r220 => M_told r (2 * p + 2) d fun r230 => ((plainD (D.lst (r230.map (fun y_ : D => y_))) = true ∧ (pyOf (D.lst (r230.map (fun y_ : D => y_)))).showable = true ∧ (pyOf (D.lst (r230.map (fun y_ : D => y_)))).hasDict = false ∧ (pyOf (D.lst (r230.map (fun y_ : D => y_)))).depth ≤ 60 ∧ (pyOf (D.lst (r230.map (fun y_ : D => y_)))).shown.length ≤ sizeLine) ∧ ((plainD (D.lst [(D.lst (r220.1.map (fun y_ : Int => (D.v (V.int y_))))), (D.lst (r220.2.1.map (fun y_ : Int => (D.v (V.int y_))))), (D.lst (r220.2.2.map (fun y_ : Str => (D.v (V.str y_)))))]) = true ∧ (pyOf (D.lst [(D.lst (r220.1.map (fun y_ : Int => (D.v (V.int y_))))), (D.lst (r220.2.1.map (fun y_ : Int => (D.v (V.int y_))))), (D.lst (r220.2.2.map (fun y_ : Str => (D.v (V.str y_)))))])).showable = true ∧ (pyOf (D.lst [(D.lst (r220.1.map (fun y_ : Int => (D.v (V.int y_))))), (D.lst (r220.2.1.map (fun y_ : Int => (D.v (V.int y_))))), (D.lst (r220.2.2.map (fun y_ : Str => (D.v (V.str y_)))))])).hasDict = false ∧ (pyOf (D.lst [(D.lst (r220.1.map (fun y_ : Int => (D.v (V.int y_))))), (D.lst (r220.2.1.map (fun y_ : Int => (D.v (V.int y_))))), (D.lst (r220.2.2.map (fun y_ : Str => (D.v (V.str y_)))))])).depth ≤ 60 ∧ (pyOf (D.lst [(D.lst (r220.1.map (fun y_ : Int => (D.v (V.int y_))))), (D.lst (r220.2.1.map (fun y_ : Int => (D.v (V.int y_))))), (D.lst (r220.2.2.map (fun y_ : Str => (D.v (V.str y_)))))])).shown.length ≤ sizeLine) ∧ k ())) := by
  refine due_ok h hp (by omega) d0 d1 (told_ok h (by omega) (by omega) (by omega) d0 (by omega) ?_)
  have t := tell_ok h (n := 2 * p + 2) (d := d) (by omega) (by omega) (by omega)
  exact ⟨t.rp (by decide) (by decide), t.rp (by decide) (by decide), q⟩
theorem mapC2 {α β : Type} {body : α → (β → Prop) → Prop} {a b : α} {acc : List β} {k : List β → Prop} (q : body a fun y => body b fun z => k (acc ++ [y] ++ [z])) : mapC body [a, b] acc k := q
theorem forC2 {α S : Type} {body : α → S → (S → Prop) → Prop} {a b : α} {s : S} {k : S → Prop} (q : body a s fun s' => body b s' k) : forC body [a, b] s k := q
theorem OPL_at {st n d t : Int} (t0 : 0 ≤ t) (t1 : t < n) : (OPL st n d)[t.toNat]? = some (oppF st n t d) := by
  unfold OPL
  rw [List.getElem?_map, rangeI_get (by omega)]
  show some (oppF st n (0 + (t.toNat : Int)) d) = _
  rw [show (0 : Int) + (t.toNat : Int) = t by omega]
theorem MKL_at {r : RT} {n d t : Int} (t0 : 0 ≤ t) (t1 : t < n) : (MKL r n d)[t.toNat]? = some (S [markF r n t d]) := by
  unfold MKL
  rw [List.getElem?_map, rangeI_get (by omega)]
  show some (S [markF r n (0 + (t.toNat : Int)) d]) = _
  rw [show (0 : Int) + (t.toNat : Int) = t by omega]
theorem days_ok {p a b : Int} (hp : 1 ≤ p) (a0 : 0 ≤ a) (a1 : a < 2 * p + 1) (b0 : 0 ≤ b) (b1 : b < 2 * p + 1) : ∀ i : Int, 0 ≤ i → i < 5 → ∃ d, ([0, 1, 2 * p + 1 - 1, a, b] : List Int)[i.toNat]? = some d ∧ 0 ≤ d ∧ d < 2 * p + 1 := by
  intro i i0 i1
  have : i = 0 ∨ i = 1 ∨ i = 2 ∨ i = 3 ∨ i = 4 := by omega
  rcases this with rfl | rfl | rfl | rfl | rfl
  · exact ⟨0, rfl, by omega, by omega⟩
  · exact ⟨1, rfl, by omega, by omega⟩
  · exact ⟨2 * p + 1 - 1, rfl, by omega, by omega⟩
  · exact ⟨a, rfl, a0, a1⟩
  · exact ⟨b, rfl, b0, b1⟩
theorem right_true : M_right fun r => r = true := by
  unfold M_right
  refine model_ok fun x hx => model_ok fun y hy => ⟨by simp, mapC2 (mleast_ok hx.w (draw_ok (by decide) (by decide) fun a a0 a1 => mleast_ok hy.w (draw_ok (by decide) (by decide) fun b b0 b1 => ?_)))⟩
  have l1 := @lst_ge x.2.1
  have l2 := lst_le hx.w
  have m1 := @lst_ge y.2.1
  have m2 := lst_le hy.w
  generalize hp : lst x.2.1 + a = p
  generalize hq : lst y.2.1 + b = q
  refine ⟨by simp, mapC2 (rule_ok hx (rule_ok hy (forC2 (a := p) (b := q) (draw_ok (by omega) (by omega) fun u u0 u1 => draw_ok (by omega) (by omega) fun v v0 v1 => ⟨by simp, draw_ok (by omega) (by omega) fun u' u0' u1' => draw_ok (by omega) (by omega) fun v' v0' v1' => ⟨by simp, ?_⟩⟩))))⟩
  refine forC_ok (fun _ => True) (fun _ _ _ k1 _ hk1 => ?_) trivial fun _ _ => rfl
  refine forC_ok (fun _ => True) (fun at_ hat _ k2 _ hk2 => ?_) trivial fun _ _ => hk1 _ trivial
  refine forC_ok (fun _ => True) (fun kk hkk _ k3 _ hk3 => ?_) trivial fun _ _ => hk2 _ trivial
  obtain ⟨kk0, kk1⟩ := rangeI_mem hkk
  obtain ⟨at0, at1⟩ := rangeI_mem hat
  obtain ⟨z, s, ds, eM, eP, eD, hz, s1, s2, hds⟩ : ∃ (z : RT) (s : Int) (ds : List Int), ([x, y] : List RT)[kk.toNat]? = some z ∧ ([p, q] : List Int)[kk.toNat]? = some s ∧ ([[0, 1, 2 * p + 1 - 1, u, v], [0, 1, 2 * q + 1 - 1, u', v']] : List (List Int))[kk.toNat]? = some ds ∧ RV z ∧ lst z.2.1 ≤ s ∧ s ≤ 20 ∧ ∀ i : Int, 0 ≤ i → i < 5 → ∃ d, ds[i.toNat]? = some d ∧ 0 ≤ d ∧ d < 2 * s + 1 := by
    have : kk = 0 ∨ kk = 1 := by omega
    rcases this with rfl | rfl
    · exact ⟨x, p, _, rfl, rfl, rfl, hx, by omega, by omega, days_ok (by omega) u0 u1 v0 v1⟩
    · exact ⟨y, q, _, rfl, rfl, rfl, hy, by omega, by omega, days_ok (by omega) u0' u1' v0' v1'⟩
  obtain ⟨d, ed, d0, d1⟩ := hds at_ at0 at1
  have z1 := @lst_ge z.2.1
  have t := tell_ok hz (n := 2 * s + 2) (d := d) (by omega) (by omega) (by omega)
  refine ixL kk0 eP (ixL kk0 eD (ixL at0 ed (ixL kk0 eM (ixL kk0 eP (due_ok hz s1 (by omega) d0 d1 (ixL kk0 eM (told_ok hz (by omega) (by omega) (by omega) d0 (by omega) ⟨t.rp (by decide) (by decide), t.rp (by decide) (by decide), ?_⟩)))))))
  show if (!(decide (V.str (pyOf (tellD z (2 * s + 2) d)).shown = V.str (pyOf (tellD z (2 * s + 2) d)).shown))) = true then _ else _
  rw [if_neg (by simp)]
  refine draw_ok (by omega) (by omega) fun w w0 w1 => ixL kk0 eM (byname_ok hz (by omega) (by omega) (by omega) w0 (by omega) d0 (by omega) (ixL w0 (SP_at w0 (by omega)) (ixL w0 (OPL_at w0 (by omega)) (ixL w0 (MKL_at w0 (by omega)) ?_))))
  obtain ⟨b1, b2⟩ := seatF_b (st := z.1) (n := 2 * s + 2) (t := w) (d := d) (by omega) (by omega)
  obtain ⟨o1, o2⟩ := @oppF_b z.1 (2 * s + 2) w d (by omega)
  have ok : OkS (D.lst [eI (seatF z.1 (2 * s + 2) w d), eI (oppF z.1 (2 * s + 2) w d), eSt (S [markF z (2 * s + 2) w d])]) 2 (3 * 1923 + 2) := by
    refine oks_lst (n := 1921) (fun e he => ?_) (by simp)
    simp only [List.mem_cons, List.not_mem_nil, or_false] at he
    rcases he with rfl | rfl | rfl
    · exact oks_int (int_small (by omega) (by omega))
    · exact oks_int (int_small (by omega) (by omega))
    · exact (oks_mark (markF_m hz (by omega) (by omega))).mono (by decide) (by decide)
  refine ⟨⟨ok.pl, ok.pl, ok.sh (by decide), ok.sh (by decide)⟩, ?_⟩
  show if (!(PyData.eqv (pyOf (D.lst [eI (seatF z.1 (2 * s + 2) w d), eI (oppF z.1 (2 * s + 2) w d), eSt (S [markF z (2 * s + 2) w d])])) (pyOf (D.lst [eI (seatF z.1 (2 * s + 2) w d), eI (oppF z.1 (2 * s + 2) w d), eSt (S [markF z (2 * s + 2) w d])])))) = true then _ else _
  rw [ok.rf (by decide), if_neg (by decide)]
  exact hk3 _ trivial

def sp_law (K : PySem.W.Frag) : Sp := fun vs H Q _ => ∃ (a : Addr) (ns : List Int), vs = [.ref a] ∧ SqL K H a (ns.map V.int) ∧ ns.length ≤ 63 ∧ ∀ H1 : Hp, Q (.bl true) H1
theorem law_enter {K : PySem.W.Frag} {H : Hp} {a : Addr} {ns : List Int} (hl : ns.length ≤ 63) (_ : Only H) (hS : SqL K H a (ns.map V.int)) : sp_law K [.ref a] H (fun v _ => v = .bl true) fun _ _ _ => False := ⟨a, ns, rfl, hS, hl, fun _ => rfl⟩
theorem sq_keep {K : PySem.W.Frag} {H H1 : Hp} {a : Addr} {xs : List V} (k : ∀ b o, H b = some o → H1 b = some o) (h : SqL K H a xs) : SqL K H1 a xs := by
  rcases h with (h | ⟨o, h⟩) | h
  · exact .inl (.inl (k _ _ h))
  · exact .inl (.inr ⟨o, k _ _ h⟩)
  · exact .inr h
theorem ok_law {P : Program} {w : World} {K : PySem.W.Frag} {mg : Str → Option Value} {base : Heap} {A : Ad} (T : Txt w K mg A) : FnG P w K mg base 11 A.a_law A.d_law ["_law_script"] (sp_law K) := by
  refine okG T.F_law sc_law (fun vs H Q E h => ?_) (fun cdv A_ outer s_ H_0 vs Q E gu hr h => ?_)
  · obtain ⟨a, ns, rfl, _⟩ := h
    rfl
  · obtain ⟨a, ns, rfl, hS, hl, hQ⟩ := h
    refine ⟨_, pss_one (ps_ret (pe_callB (cr_all rfl) (by rfl) T.z_all (by decide +kernel) (pa_cons (pe_lc (own := [("_law_k", 1)]) (g := gName 1) rfl sc_law.nd
      (pi_range1 (by rfl) T.z_range (pa_cons (pe_callB (call_max2 rfl) (by rfl) T.z_max (by decide +kernel) (pa_cons pe_int (pa_cons (pe_callB (call_min2 rfl) (by rfl) T.z_min (by decide +kernel) (pa_cons (pe_callB call_len (by rfl) T.z_len PySem.boot_len (pa_cons (pv 0) pa_nil)) (pa_cons pe_int pa_nil))) pa_nil))) pa_nil))
      (blkOk_by (N := ["_law_script", "_law_k"]) (sc := defScope s_law) (by decide +kernel)) (fun _ _ _ _ _ => pg_name (i := 1) sc_law.nd rfl (by first | exact Or.inl rfl | exact Or.inr rfl)) (fun _ _ _ _ _ => pts_nil)
      (fun _ _ _ _ _ => pe_callG (ok_right T) gu (hr.mono (by decide)) (by rfl) T.g_right T.F_right.kp T.b_right (pa_cons (pe_call (ok_pot T) (hr.mono (by decide)) (by rfl) T.g_pot T.F_pot.kp T.b_pot .nil pass0 (pa_cons (pv 0) (pa_cons (pv 1) pa_nil))) pa_nil))) pa_nil))), ?_⟩
    refine ⟨_, rfl, _, ns.length, rfl, .inl ⟨_, hS, by rw [List.length_map]⟩, _, _, rfl, _, _, rfl, _, rfl, ?_, ?_, fun L nl => ?_⟩
    · split <;> split <;> omega
    · split <;> split <;> omega
    have hsq : ∀ H : Hp, (∀ o, H_0 a = some o → H a = some o) → SqL K H a (ns.map V.int) := fun H k => by
      rcases hS with (h | ⟨o, h⟩) | h
      · exact .inl (.inl (k _ h))
      · exact .inl (.inr ⟨o, k _ h⟩)
      · exact .inr h
    refine lc_range (lo := 0) (fun i H => (∀ o, H_0 a = some o → H a = some o) ∧ ∃ n, n ≤ i ∧ H L = some (.lst (List.replicate n (.bl true)))) ⟨fun o h => (Rx.Ext.new nl).keep h, 0, Nat.le_refl _, upd_same⟩ (fun i H hi ⟨hS1, n, hn, hL⟩ => ?_) (fun H ⟨hS1, n, hn, hL⟩ => ?_)
    · refine ⟨rfl, ?_⟩
      refine tyes_of ?_
      have hi4 : i < 64 := by
        refine Nat.lt_of_lt_of_le hi ?_
        split <;> split <;> omega
      refine ⟨_, rfl, _, rfl, a, ns, 0 + (i : Int), rfl, hsq H hS1, hl, by omega, by omega, fun p H1 i1 j1 np e1 hp hj => ?_⟩
      refine ⟨[p], p, fun r => r = true, rfl, ⟨fun _ _ _ h => h, fun _ h => h, fun m hm => ?_, fun b hb => ?_, fun b hb => hb, fun c hc => absurd hc List.not_mem_nil⟩, right_true, fun r u H2 hr2 e2 hu => ?_⟩
      · rw [List.mem_singleton.mp hm, hp]
        exact fun z => nomatch z
      · rw [List.mem_singleton.mp hb]
        exact ⟨i1, j1, hp, hj⟩
      · obtain rfl := of_v hu
        have e3 : ∀ b o, H b = some o → H2 b = some o := fun b o h => e2.kp b o (fun z => by
          rw [List.mem_singleton.mp z, np] at h
          cases h) (e1.keep h)
        refine ⟨_, e3 _ _ hL, ?_, fun o h => ?_, n + 1, Nat.succ_le_succ hn, by rw [upd_same, hr2, List.replicate_succ']⟩
        · rw [List.length_replicate]
          exact Nat.lt_of_le_of_lt (show n ≤ 64 by omega) (by decide)
        · rw [upd_ne (ne_of_none h nl)]
          exact e3 _ _ (hS1 _ h)
    · refine ⟨L, List.replicate n true, rfl, .inl (.inl (by rw [List.map_replicate]; exact hL)), ?_⟩
      have : (List.replicate n true).all id = true := by
        rw [List.all_eq_true]
        intro x hx
        rw [(List.mem_replicate.mp hx).2]
        rfl
      rw [this]
      exact hQ _

theorem all_mk {l : PySem.W.OpenLaw} {w : World} {K : PySem.W.Frag} {h : Heap} {mg : Str → Option Value} {fa Ais_marks Acheck_part Adraw Apick Asigns Amodel Aleast Ais_integer ARule_init Arule Aspots Astanding Aturned Aline Amarks Adue AWord_least ARule_least_size Ais_size Acheck_size Ais_count Acheck_team Acheck_day ARule_step AseatP Aseat Acheck Aopponent ARule_stander Astander_mark Acontrary_marks ARule_word Acheck_places AWord_mark ARule_turned Aturned_if Amark_at Amark_of Atold Aby_name Aright Apot Alaw AWord_init CWord CRule : Addr} (X : K.In h) (G : h.Ns mainGlobals mg) (hfa : mg "law" = some (.ref fa))
    {odis_marks anis_marks : Option Addr} {slis_marks : Array (Option Value)} {ocis_marks kVis_marks dcis_marks pmis_marks cdis_marks ctis_marks : Value}
    {odcheck_part ancheck_part : Option Addr} {slcheck_part : Array (Option Value)} {occheck_part kVcheck_part dccheck_part pmcheck_part cdcheck_part ctcheck_part : Value}
    {oddraw andraw : Option Addr} {sldraw : Array (Option Value)} {ocdraw kVdraw dcdraw pmdraw cddraw ctdraw : Value}
    {odpick anpick : Option Addr} {slpick : Array (Option Value)} {ocpick kVpick dcpick pmpick cdpick ctpick : Value}
    {odsigns ansigns : Option Addr} {slsigns : Array (Option Value)} {ocsigns kVsigns dcsigns pmsigns cdsigns ctsigns : Value}
    {odmodel anmodel : Option Addr} {slmodel : Array (Option Value)} {ocmodel kVmodel dcmodel pmmodel cdmodel ctmodel : Value}
    {odleast anleast : Option Addr} {slleast : Array (Option Value)} {ocleast kVleast dcleast pmleast cdleast ctleast : Value}
    {odis_integer anis_integer : Option Addr} {slis_integer : Array (Option Value)} {ocis_integer kVis_integer dcis_integer pmis_integer cdis_integer ctis_integer : Value}
    {odRule_init anRule_init : Option Addr} {slRule_init : Array (Option Value)} {ocRule_init kVRule_init dcRule_init pmRule_init cdRule_init ctRule_init : Value}
    {TRule_init : Addr} {toRule_init : Option Addr} {tiRule_init : Nat} {tsRule_init : Array (Option Value)} 
    {odrule anrule : Option Addr} {slrule : Array (Option Value)} {ocrule kVrule dcrule pmrule cdrule ctrule : Value}
    {odspots anspots : Option Addr} {slspots : Array (Option Value)} {ocspots kVspots dcspots pmspots cdspots ctspots : Value}
    {odstanding anstanding : Option Addr} {slstanding : Array (Option Value)} {ocstanding kVstanding dcstanding pmstanding cdstanding ctstanding : Value}
    {odturned anturned : Option Addr} {slturned : Array (Option Value)} {octurned kVturned dcturned pmturned cdturned ctturned : Value}
    {odline anline : Option Addr} {slline : Array (Option Value)} {ocline kVline dcline pmline cdline ctline : Value}
    {odmarks anmarks : Option Addr} {slmarks : Array (Option Value)} {ocmarks kVmarks dcmarks pmmarks cdmarks ctmarks : Value}
    {oddue andue : Option Addr} {sldue : Array (Option Value)} {ocdue kVdue dcdue pmdue cddue ctdue : Value}
    {PWord_least : Addr}
    {RWord_least : List Value}
    {odWord_least anWord_least : Option Addr} {slWord_least : Array (Option Value)} {ocWord_least kVWord_least dcWord_least pmWord_least cdWord_least ctWord_least : Value}
    {PRule_least_size : Addr}
    {RRule_least_size : List Value}
    {odRule_least_size anRule_least_size : Option Addr} {slRule_least_size : Array (Option Value)} {ocRule_least_size kVRule_least_size dcRule_least_size pmRule_least_size cdRule_least_size ctRule_least_size : Value}
    {odis_size anis_size : Option Addr} {slis_size : Array (Option Value)} {ocis_size kVis_size dcis_size pmis_size cdis_size ctis_size : Value}
    {odcheck_size ancheck_size : Option Addr} {slcheck_size : Array (Option Value)} {occheck_size kVcheck_size dccheck_size pmcheck_size cdcheck_size ctcheck_size : Value}
    {odis_count anis_count : Option Addr} {slis_count : Array (Option Value)} {ocis_count kVis_count dcis_count pmis_count cdis_count ctis_count : Value}
    {odcheck_team ancheck_team : Option Addr} {slcheck_team : Array (Option Value)} {occheck_team kVcheck_team dccheck_team pmcheck_team cdcheck_team ctcheck_team : Value}
    {odcheck_day ancheck_day : Option Addr} {slcheck_day : Array (Option Value)} {occheck_day kVcheck_day dccheck_day pmcheck_day cdcheck_day ctcheck_day : Value}
    {PRule_step : Addr}
    {RRule_step : List Value}
    {odRule_step anRule_step : Option Addr} {slRule_step : Array (Option Value)} {ocRule_step kVRule_step dcRule_step pmRule_step cdRule_step ctRule_step : Value}
    {odseatP anseatP : Option Addr} {slseatP : Array (Option Value)} {ocseatP kVseatP dcseatP pmseatP cdseatP ctseatP : Value}
    {odseat anseat : Option Addr} {slseat : Array (Option Value)} {ocseat kVseat dcseat pmseat cdseat ctseat : Value}
    {odcheck ancheck : Option Addr} {slcheck : Array (Option Value)} {occheck kVcheck dccheck pmcheck cdcheck ctcheck : Value}
    {odopponent anopponent : Option Addr} {slopponent : Array (Option Value)} {ocopponent kVopponent dcopponent pmopponent cdopponent ctopponent : Value}
    {PRule_stander : Addr}
    {RRule_stander : List Value}
    {odRule_stander anRule_stander : Option Addr} {slRule_stander : Array (Option Value)} {ocRule_stander kVRule_stander dcRule_stander pmRule_stander cdRule_stander ctRule_stander : Value}
    {odstander_mark anstander_mark : Option Addr} {slstander_mark : Array (Option Value)} {ocstander_mark kVstander_mark dcstander_mark pmstander_mark cdstander_mark ctstander_mark : Value}
    {odcontrary_marks ancontrary_marks : Option Addr} {slcontrary_marks : Array (Option Value)} {occontrary_marks kVcontrary_marks dccontrary_marks pmcontrary_marks cdcontrary_marks ctcontrary_marks : Value}
    {PRule_word : Addr}
    {RRule_word : List Value}
    {odRule_word anRule_word : Option Addr} {slRule_word : Array (Option Value)} {ocRule_word kVRule_word dcRule_word pmRule_word cdRule_word ctRule_word : Value}
    {odcheck_places ancheck_places : Option Addr} {slcheck_places : Array (Option Value)} {occheck_places kVcheck_places dccheck_places pmcheck_places cdcheck_places ctcheck_places : Value}
    {odWord_mark anWord_mark : Option Addr} {slWord_mark : Array (Option Value)} {ocWord_mark kVWord_mark dcWord_mark pmWord_mark cdWord_mark ctWord_mark : Value}
    {PRule_turned : Addr}
    {RRule_turned : List Value}
    {odRule_turned anRule_turned : Option Addr} {slRule_turned : Array (Option Value)} {ocRule_turned kVRule_turned dcRule_turned pmRule_turned cdRule_turned ctRule_turned : Value}
    {odturned_if anturned_if : Option Addr} {slturned_if : Array (Option Value)} {octurned_if kVturned_if dcturned_if pmturned_if cdturned_if ctturned_if : Value}
    {odmark_at anmark_at : Option Addr} {slmark_at : Array (Option Value)} {ocmark_at kVmark_at dcmark_at pmmark_at cdmark_at ctmark_at : Value}
    {odmark_of anmark_of : Option Addr} {slmark_of : Array (Option Value)} {ocmark_of kVmark_of dcmark_of pmmark_of cdmark_of ctmark_of : Value}
    {odtold antold : Option Addr} {sltold : Array (Option Value)} {octold kVtold dctold pmtold cdtold cttold : Value}
    {odby_name anby_name : Option Addr} {slby_name : Array (Option Value)} {ocby_name kVby_name dcby_name pmby_name cdby_name ctby_name : Value}
    {odright anright : Option Addr} {slright : Array (Option Value)} {ocright kVright dcright pmright cdright ctright : Value}
    {odpot anpot : Option Addr} {slpot : Array (Option Value)} {ocpot kVpot dcpot pmpot cdpot ctpot : Value}
    {odlaw anlaw : Option Addr} {sllaw : Array (Option Value)} {oclaw kVlaw dclaw pmlaw cdlaw ctlaw : Value}
    {odWord_init anWord_init : Option Addr} {slWord_init : Array (Option Value)} {ocWord_init kVWord_init dcWord_init pmWord_init cdWord_init ctWord_init : Value}
    {DCONTRARIES : Addr} {esCONTRARIES : Array DictEntry} {enCONTRARIES : Nat}
    {tCONTRARIES1 : Tok}
    {tCONTRARIES0 : Tok}
    {DCONTRARY_STANDERS : Addr} {esCONTRARY_STANDERS : Array DictEntry} {enCONTRARY_STANDERS : Nat}
    {tCONTRARY_STANDERS3 : Tok}
    {tCONTRARY_STANDERS2 : Tok}
    {tCONTRARY_STANDERS1 : Tok}
    {tCONTRARY_STANDERS0 : Tok}
    {DSTANDER_MARKS : Addr} {esSTANDER_MARKS : Array DictEntry} {enSTANDER_MARKS : Nat}
    {tSTANDER_MARKS3 : Tok}
    {tSTANDER_MARKS2 : Tok}
    {tSTANDER_MARKS1 : Tok}
    {tSTANDER_MARKS0 : Tok}
    {tMOST_MARKS : Tok}
    {tMOST_STEP : Tok}
    (a_is_marks : PySem.W.nsIn K mainGlobals "is_marks" = some (some (.ref Ais_marks)))
    (l_is_marks : K.lookup Ais_marks = some ⟨ocis_marks, odis_marks, .func (PySem.W.fnOf "is_marks" "is_marks" (defArgs s_is_marks) (defBody s_is_marks) (defScope s_is_marks) .none kVis_marks dcis_marks pmis_marks anis_marks cdis_marks ctis_marks), slis_marks⟩)
    (o_is_marks : PySem.W.codeIn K cdis_marks "is_marks" = true)
    (k_is_marks : PySem.W.keepIn K (.ref Ais_marks) = true)
    (a_check_part : PySem.W.nsIn K mainGlobals "_check_part" = some (some (.ref Acheck_part)))
    (l_check_part : K.lookup Acheck_part = some ⟨occheck_part, odcheck_part, .func (PySem.W.fnOf "_check_part" "_check_part" (defArgs s_check_part) (defBody s_check_part) (defScope s_check_part) .none kVcheck_part dccheck_part pmcheck_part ancheck_part cdcheck_part ctcheck_part), slcheck_part⟩)
    (o_check_part : PySem.W.codeIn K cdcheck_part "_check_part" = true)
    (k_check_part : PySem.W.keepIn K (.ref Acheck_part) = true)
    (a_draw : PySem.W.nsIn K mainGlobals "_law_draw" = some (some (.ref Adraw)))
    (l_draw : K.lookup Adraw = some ⟨ocdraw, oddraw, .func (PySem.W.fnOf "_law_draw" "_law_draw" (defArgs s_draw) (defBody s_draw) (defScope s_draw) .none kVdraw dcdraw pmdraw andraw cddraw ctdraw), sldraw⟩)
    (o_draw : PySem.W.codeIn K cddraw "_law_draw" = true)
    (k_draw : PySem.W.keepIn K (.ref Adraw) = true)
    (a_pick : PySem.W.nsIn K mainGlobals "_law_pick" = some (some (.ref Apick)))
    (l_pick : K.lookup Apick = some ⟨ocpick, odpick, .func (PySem.W.fnOf "_law_pick" "_law_pick" (defArgs s_pick) (defBody s_pick) (defScope s_pick) .none kVpick dcpick pmpick anpick cdpick ctpick), slpick⟩)
    (o_pick : PySem.W.codeIn K cdpick "_law_pick" = true)
    (k_pick : PySem.W.keepIn K (.ref Apick) = true)
    (a_signs : PySem.W.nsIn K mainGlobals "_law_signs" = some (some (.ref Asigns)))
    (l_signs : K.lookup Asigns = some ⟨ocsigns, odsigns, .func (PySem.W.fnOf "_law_signs" "_law_signs" (defArgs s_signs) (defBody s_signs) (defScope s_signs) .none kVsigns dcsigns pmsigns ansigns cdsigns ctsigns), slsigns⟩)
    (o_signs : PySem.W.codeIn K cdsigns "_law_signs" = true)
    (k_signs : PySem.W.keepIn K (.ref Asigns) = true)
    (a_model : PySem.W.nsIn K mainGlobals "_law_model" = some (some (.ref Amodel)))
    (l_model : K.lookup Amodel = some ⟨ocmodel, odmodel, .func (PySem.W.fnOf "_law_model" "_law_model" (defArgs s_model) (defBody s_model) (defScope s_model) .none kVmodel dcmodel pmmodel anmodel cdmodel ctmodel), slmodel⟩)
    (o_model : PySem.W.codeIn K cdmodel "_law_model" = true)
    (k_model : PySem.W.keepIn K (.ref Amodel) = true)
    (a_least : PySem.W.nsIn K mainGlobals "_law_least" = some (some (.ref Aleast)))
    (l_least : K.lookup Aleast = some ⟨ocleast, odleast, .func (PySem.W.fnOf "_law_least" "_law_least" (defArgs s_least) (defBody s_least) (defScope s_least) .none kVleast dcleast pmleast anleast cdleast ctleast), slleast⟩)
    (o_least : PySem.W.codeIn K cdleast "_law_least" = true)
    (k_least : PySem.W.keepIn K (.ref Aleast) = true)
    (a_is_integer : PySem.W.nsIn K mainGlobals "is_integer" = some (some (.ref Ais_integer)))
    (l_is_integer : K.lookup Ais_integer = some ⟨ocis_integer, odis_integer, .func (PySem.W.fnOf "is_integer" "is_integer" (defArgs s_is_integer) (defBody s_is_integer) (defScope s_is_integer) .none kVis_integer dcis_integer pmis_integer anis_integer cdis_integer ctis_integer), slis_integer⟩)
    (o_is_integer : PySem.W.codeIn K cdis_integer "is_integer" = true)
    (k_is_integer : PySem.W.keepIn K (.ref Ais_integer) = true)
    (a_Rule_init : PySem.W.findIn K (.ref CRule) "__init__" = some (some (.ref ARule_init)))
    (i_Rule_init : PySem.W.isFn K (.ref ARule_init) = true)
    (t_Rule_init : K.lookup TRule_init = some ⟨.type "tuple", toRule_init, .seq #[.bool false] tiRule_init, tsRule_init⟩)
    (l_Rule_init : K.lookup ARule_init = some ⟨ocRule_init, odRule_init, .func (PySem.W.fnOf "__init__" "Rule.__init__" (defArgs s_Rule_init) (defBody s_Rule_init) (defScope s_Rule_init) (.ref TRule_init) kVRule_init dcRule_init pmRule_init anRule_init cdRule_init ctRule_init), slRule_init⟩)
    (o_Rule_init : PySem.W.codeIn K cdRule_init "Rule.__init__" = true)
    (k_Rule_init : PySem.W.keepIn K (.ref ARule_init) = true)
    (a_rule : PySem.W.nsIn K mainGlobals "_law_rule" = some (some (.ref Arule)))
    (l_rule : K.lookup Arule = some ⟨ocrule, odrule, .func (PySem.W.fnOf "_law_rule" "_law_rule" (defArgs s_rule) (defBody s_rule) (defScope s_rule) .none kVrule dcrule pmrule anrule cdrule ctrule), slrule⟩)
    (o_rule : PySem.W.codeIn K cdrule "_law_rule" = true)
    (k_rule : PySem.W.keepIn K (.ref Arule) = true)
    (a_spots : PySem.W.nsIn K mainGlobals "_law_spots" = some (some (.ref Aspots)))
    (l_spots : K.lookup Aspots = some ⟨ocspots, odspots, .func (PySem.W.fnOf "_law_spots" "_law_spots" (defArgs s_spots) (defBody s_spots) (defScope s_spots) .none kVspots dcspots pmspots anspots cdspots ctspots), slspots⟩)
    (o_spots : PySem.W.codeIn K cdspots "_law_spots" = true)
    (k_spots : PySem.W.keepIn K (.ref Aspots) = true)
    (a_standing : PySem.W.nsIn K mainGlobals "_law_standing" = some (some (.ref Astanding)))
    (l_standing : K.lookup Astanding = some ⟨ocstanding, odstanding, .func (PySem.W.fnOf "_law_standing" "_law_standing" (defArgs s_standing) (defBody s_standing) (defScope s_standing) .none kVstanding dcstanding pmstanding anstanding cdstanding ctstanding), slstanding⟩)
    (o_standing : PySem.W.codeIn K cdstanding "_law_standing" = true)
    (k_standing : PySem.W.keepIn K (.ref Astanding) = true)
    (a_turned : PySem.W.nsIn K mainGlobals "_law_turned" = some (some (.ref Aturned)))
    (l_turned : K.lookup Aturned = some ⟨octurned, odturned, .func (PySem.W.fnOf "_law_turned" "_law_turned" (defArgs s_turned) (defBody s_turned) (defScope s_turned) .none kVturned dcturned pmturned anturned cdturned ctturned), slturned⟩)
    (o_turned : PySem.W.codeIn K cdturned "_law_turned" = true)
    (k_turned : PySem.W.keepIn K (.ref Aturned) = true)
    (a_line : PySem.W.nsIn K mainGlobals "_law_line" = some (some (.ref Aline)))
    (l_line : K.lookup Aline = some ⟨ocline, odline, .func (PySem.W.fnOf "_law_line" "_law_line" (defArgs s_line) (defBody s_line) (defScope s_line) .none kVline dcline pmline anline cdline ctline), slline⟩)
    (o_line : PySem.W.codeIn K cdline "_law_line" = true)
    (k_line : PySem.W.keepIn K (.ref Aline) = true)
    (a_marks : PySem.W.nsIn K mainGlobals "_law_marks" = some (some (.ref Amarks)))
    (l_marks : K.lookup Amarks = some ⟨ocmarks, odmarks, .func (PySem.W.fnOf "_law_marks" "_law_marks" (defArgs s_marks) (defBody s_marks) (defScope s_marks) .none kVmarks dcmarks pmmarks anmarks cdmarks ctmarks), slmarks⟩)
    (o_marks : PySem.W.codeIn K cdmarks "_law_marks" = true)
    (k_marks : PySem.W.keepIn K (.ref Amarks) = true)
    (a_due : PySem.W.nsIn K mainGlobals "_law_due" = some (some (.ref Adue)))
    (l_due : K.lookup Adue = some ⟨ocdue, oddue, .func (PySem.W.fnOf "_law_due" "_law_due" (defArgs s_due) (defBody s_due) (defScope s_due) .none kVdue dcdue pmdue andue cddue ctdue), sldue⟩)
    (o_due : PySem.W.codeIn K cddue "_law_due" = true)
    (k_due : PySem.W.keepIn K (.ref Adue) = true)
    (pa_Word_least : PySem.W.findIn K (.ref CWord) "least" = some (some (.ref PWord_least)))
    (pg_Word_least : PySem.W.specialIn K (.ref PWord_least) "__get__" = some (some (.builtin "property.__get__")))
    (pt_Word_least : PySem.W.takesIn K (.ref PWord_least) = some true)
    (pr_Word_least : PySem.W.recIn K PWord_least "property" = some (.ref AWord_least :: RWord_least))
    (l_Word_least : K.lookup AWord_least = some ⟨ocWord_least, odWord_least, .func (PySem.W.fnOf "least" "Word.least" (defArgs s_Word_least) (defBody s_Word_least) (defScope s_Word_least) .none kVWord_least dcWord_least pmWord_least anWord_least cdWord_least ctWord_least), slWord_least⟩)
    (o_Word_least : PySem.W.codeIn K cdWord_least "Word.least" = true)
    (k_Word_least : PySem.W.keepIn K (.ref AWord_least) = true)
    (pa_Rule_least_size : PySem.W.findIn K (.ref CRule) "least_size" = some (some (.ref PRule_least_size)))
    (pg_Rule_least_size : PySem.W.specialIn K (.ref PRule_least_size) "__get__" = some (some (.builtin "property.__get__")))
    (pt_Rule_least_size : PySem.W.takesIn K (.ref PRule_least_size) = some true)
    (pr_Rule_least_size : PySem.W.recIn K PRule_least_size "property" = some (.ref ARule_least_size :: RRule_least_size))
    (l_Rule_least_size : K.lookup ARule_least_size = some ⟨ocRule_least_size, odRule_least_size, .func (PySem.W.fnOf "least_size" "Rule.least_size" (defArgs s_Rule_least_size) (defBody s_Rule_least_size) (defScope s_Rule_least_size) .none kVRule_least_size dcRule_least_size pmRule_least_size anRule_least_size cdRule_least_size ctRule_least_size), slRule_least_size⟩)
    (o_Rule_least_size : PySem.W.codeIn K cdRule_least_size "Rule.least_size" = true)
    (k_Rule_least_size : PySem.W.keepIn K (.ref ARule_least_size) = true)
    (a_is_size : PySem.W.nsIn K mainGlobals "is_size" = some (some (.ref Ais_size)))
    (l_is_size : K.lookup Ais_size = some ⟨ocis_size, odis_size, .func (PySem.W.fnOf "is_size" "is_size" (defArgs s_is_size) (defBody s_is_size) (defScope s_is_size) .none kVis_size dcis_size pmis_size anis_size cdis_size ctis_size), slis_size⟩)
    (o_is_size : PySem.W.codeIn K cdis_size "is_size" = true)
    (k_is_size : PySem.W.keepIn K (.ref Ais_size) = true)
    (a_check_size : PySem.W.nsIn K mainGlobals "check_size" = some (some (.ref Acheck_size)))
    (l_check_size : K.lookup Acheck_size = some ⟨occheck_size, odcheck_size, .func (PySem.W.fnOf "check_size" "check_size" (defArgs s_check_size) (defBody s_check_size) (defScope s_check_size) .none kVcheck_size dccheck_size pmcheck_size ancheck_size cdcheck_size ctcheck_size), slcheck_size⟩)
    (o_check_size : PySem.W.codeIn K cdcheck_size "check_size" = true)
    (k_check_size : PySem.W.keepIn K (.ref Acheck_size) = true)
    (a_is_count : PySem.W.nsIn K mainGlobals "is_count" = some (some (.ref Ais_count)))
    (l_is_count : K.lookup Ais_count = some ⟨ocis_count, odis_count, .func (PySem.W.fnOf "is_count" "is_count" (defArgs s_is_count) (defBody s_is_count) (defScope s_is_count) .none kVis_count dcis_count pmis_count anis_count cdis_count ctis_count), slis_count⟩)
    (o_is_count : PySem.W.codeIn K cdis_count "is_count" = true)
    (k_is_count : PySem.W.keepIn K (.ref Ais_count) = true)
    (a_check_team : PySem.W.nsIn K mainGlobals "check_team" = some (some (.ref Acheck_team)))
    (l_check_team : K.lookup Acheck_team = some ⟨occheck_team, odcheck_team, .func (PySem.W.fnOf "check_team" "check_team" (defArgs s_check_team) (defBody s_check_team) (defScope s_check_team) .none kVcheck_team dccheck_team pmcheck_team ancheck_team cdcheck_team ctcheck_team), slcheck_team⟩)
    (o_check_team : PySem.W.codeIn K cdcheck_team "check_team" = true)
    (k_check_team : PySem.W.keepIn K (.ref Acheck_team) = true)
    (a_check_day : PySem.W.nsIn K mainGlobals "check_day" = some (some (.ref Acheck_day)))
    (l_check_day : K.lookup Acheck_day = some ⟨occheck_day, odcheck_day, .func (PySem.W.fnOf "check_day" "check_day" (defArgs s_check_day) (defBody s_check_day) (defScope s_check_day) .none kVcheck_day dccheck_day pmcheck_day ancheck_day cdcheck_day ctcheck_day), slcheck_day⟩)
    (o_check_day : PySem.W.codeIn K cdcheck_day "check_day" = true)
    (k_check_day : PySem.W.keepIn K (.ref Acheck_day) = true)
    (pa_Rule_step : PySem.W.findIn K (.ref CRule) "step" = some (some (.ref PRule_step)))
    (pg_Rule_step : PySem.W.specialIn K (.ref PRule_step) "__get__" = some (some (.builtin "property.__get__")))
    (pt_Rule_step : PySem.W.takesIn K (.ref PRule_step) = some true)
    (pr_Rule_step : PySem.W.recIn K PRule_step "property" = some (.ref ARule_step :: RRule_step))
    (l_Rule_step : K.lookup ARule_step = some ⟨ocRule_step, odRule_step, .func (PySem.W.fnOf "step" "Rule.step" (defArgs s_Rule_step) (defBody s_Rule_step) (defScope s_Rule_step) .none kVRule_step dcRule_step pmRule_step anRule_step cdRule_step ctRule_step), slRule_step⟩)
    (o_Rule_step : PySem.W.codeIn K cdRule_step "Rule.step" = true)
    (k_Rule_step : PySem.W.keepIn K (.ref ARule_step) = true)
    (a_seatP : PySem.W.nsIn K mainGlobals "_seat" = some (some (.ref AseatP)))
    (l_seatP : K.lookup AseatP = some ⟨ocseatP, odseatP, .func (PySem.W.fnOf "_seat" "_seat" (defArgs s_seatP) (defBody s_seatP) (defScope s_seatP) .none kVseatP dcseatP pmseatP anseatP cdseatP ctseatP), slseatP⟩)
    (o_seatP : PySem.W.codeIn K cdseatP "_seat" = true)
    (k_seatP : PySem.W.keepIn K (.ref AseatP) = true)
    (a_seat : PySem.W.nsIn K mainGlobals "seat" = some (some (.ref Aseat)))
    (l_seat : K.lookup Aseat = some ⟨ocseat, odseat, .func (PySem.W.fnOf "seat" "seat" (defArgs s_seat) (defBody s_seat) (defScope s_seat) .none kVseat dcseat pmseat anseat cdseat ctseat), slseat⟩)
    (o_seat : PySem.W.codeIn K cdseat "seat" = true)
    (k_seat : PySem.W.keepIn K (.ref Aseat) = true)
    (a_check : PySem.W.nsIn K mainGlobals "_check" = some (some (.ref Acheck)))
    (l_check : K.lookup Acheck = some ⟨occheck, odcheck, .func (PySem.W.fnOf "_check" "_check" (defArgs s_check) (defBody s_check) (defScope s_check) .none kVcheck dccheck pmcheck ancheck cdcheck ctcheck), slcheck⟩)
    (o_check : PySem.W.codeIn K cdcheck "_check" = true)
    (k_check : PySem.W.keepIn K (.ref Acheck) = true)
    (a_opponent : PySem.W.nsIn K mainGlobals "opponent" = some (some (.ref Aopponent)))
    (l_opponent : K.lookup Aopponent = some ⟨ocopponent, odopponent, .func (PySem.W.fnOf "opponent" "opponent" (defArgs s_opponent) (defBody s_opponent) (defScope s_opponent) .none kVopponent dcopponent pmopponent anopponent cdopponent ctopponent), slopponent⟩)
    (o_opponent : PySem.W.codeIn K cdopponent "opponent" = true)
    (k_opponent : PySem.W.keepIn K (.ref Aopponent) = true)
    (pa_Rule_stander : PySem.W.findIn K (.ref CRule) "stander" = some (some (.ref PRule_stander)))
    (pg_Rule_stander : PySem.W.specialIn K (.ref PRule_stander) "__get__" = some (some (.builtin "property.__get__")))
    (pt_Rule_stander : PySem.W.takesIn K (.ref PRule_stander) = some true)
    (pr_Rule_stander : PySem.W.recIn K PRule_stander "property" = some (.ref ARule_stander :: RRule_stander))
    (l_Rule_stander : K.lookup ARule_stander = some ⟨ocRule_stander, odRule_stander, .func (PySem.W.fnOf "stander" "Rule.stander" (defArgs s_Rule_stander) (defBody s_Rule_stander) (defScope s_Rule_stander) .none kVRule_stander dcRule_stander pmRule_stander anRule_stander cdRule_stander ctRule_stander), slRule_stander⟩)
    (o_Rule_stander : PySem.W.codeIn K cdRule_stander "Rule.stander" = true)
    (k_Rule_stander : PySem.W.keepIn K (.ref ARule_stander) = true)
    (a_stander_mark : PySem.W.nsIn K mainGlobals "stander_mark" = some (some (.ref Astander_mark)))
    (l_stander_mark : K.lookup Astander_mark = some ⟨ocstander_mark, odstander_mark, .func (PySem.W.fnOf "stander_mark" "stander_mark" (defArgs s_stander_mark) (defBody s_stander_mark) (defScope s_stander_mark) .none kVstander_mark dcstander_mark pmstander_mark anstander_mark cdstander_mark ctstander_mark), slstander_mark⟩)
    (o_stander_mark : PySem.W.codeIn K cdstander_mark "stander_mark" = true)
    (k_stander_mark : PySem.W.keepIn K (.ref Astander_mark) = true)
    (a_contrary_marks : PySem.W.nsIn K mainGlobals "contrary_marks" = some (some (.ref Acontrary_marks)))
    (l_contrary_marks : K.lookup Acontrary_marks = some ⟨occontrary_marks, odcontrary_marks, .func (PySem.W.fnOf "contrary_marks" "contrary_marks" (defArgs s_contrary_marks) (defBody s_contrary_marks) (defScope s_contrary_marks) .none kVcontrary_marks dccontrary_marks pmcontrary_marks ancontrary_marks cdcontrary_marks ctcontrary_marks), slcontrary_marks⟩)
    (o_contrary_marks : PySem.W.codeIn K cdcontrary_marks "contrary_marks" = true)
    (k_contrary_marks : PySem.W.keepIn K (.ref Acontrary_marks) = true)
    (pa_Rule_word : PySem.W.findIn K (.ref CRule) "word" = some (some (.ref PRule_word)))
    (pg_Rule_word : PySem.W.specialIn K (.ref PRule_word) "__get__" = some (some (.builtin "property.__get__")))
    (pt_Rule_word : PySem.W.takesIn K (.ref PRule_word) = some true)
    (pr_Rule_word : PySem.W.recIn K PRule_word "property" = some (.ref ARule_word :: RRule_word))
    (l_Rule_word : K.lookup ARule_word = some ⟨ocRule_word, odRule_word, .func (PySem.W.fnOf "word" "Rule.word" (defArgs s_Rule_word) (defBody s_Rule_word) (defScope s_Rule_word) .none kVRule_word dcRule_word pmRule_word anRule_word cdRule_word ctRule_word), slRule_word⟩)
    (o_Rule_word : PySem.W.codeIn K cdRule_word "Rule.word" = true)
    (k_Rule_word : PySem.W.keepIn K (.ref ARule_word) = true)
    (a_check_places : PySem.W.nsIn K mainGlobals "_check_places" = some (some (.ref Acheck_places)))
    (l_check_places : K.lookup Acheck_places = some ⟨occheck_places, odcheck_places, .func (PySem.W.fnOf "_check_places" "_check_places" (defArgs s_check_places) (defBody s_check_places) (defScope s_check_places) .none kVcheck_places dccheck_places pmcheck_places ancheck_places cdcheck_places ctcheck_places), slcheck_places⟩)
    (o_check_places : PySem.W.codeIn K cdcheck_places "_check_places" = true)
    (k_check_places : PySem.W.keepIn K (.ref Acheck_places) = true)
    (a_Word_mark : PySem.W.findIn K (.ref CWord) "mark" = some (some (.ref AWord_mark)))
    (i_Word_mark : PySem.W.isFn K (.ref AWord_mark) = true)
    (l_Word_mark : K.lookup AWord_mark = some ⟨ocWord_mark, odWord_mark, .func (PySem.W.fnOf "mark" "Word.mark" (defArgs s_Word_mark) (defBody s_Word_mark) (defScope s_Word_mark) .none kVWord_mark dcWord_mark pmWord_mark anWord_mark cdWord_mark ctWord_mark), slWord_mark⟩)
    (o_Word_mark : PySem.W.codeIn K cdWord_mark "Word.mark" = true)
    (k_Word_mark : PySem.W.keepIn K (.ref AWord_mark) = true)
    (pa_Rule_turned : PySem.W.findIn K (.ref CRule) "turned" = some (some (.ref PRule_turned)))
    (pg_Rule_turned : PySem.W.specialIn K (.ref PRule_turned) "__get__" = some (some (.builtin "property.__get__")))
    (pt_Rule_turned : PySem.W.takesIn K (.ref PRule_turned) = some true)
    (pr_Rule_turned : PySem.W.recIn K PRule_turned "property" = some (.ref ARule_turned :: RRule_turned))
    (l_Rule_turned : K.lookup ARule_turned = some ⟨ocRule_turned, odRule_turned, .func (PySem.W.fnOf "turned" "Rule.turned" (defArgs s_Rule_turned) (defBody s_Rule_turned) (defScope s_Rule_turned) .none kVRule_turned dcRule_turned pmRule_turned anRule_turned cdRule_turned ctRule_turned), slRule_turned⟩)
    (o_Rule_turned : PySem.W.codeIn K cdRule_turned "Rule.turned" = true)
    (k_Rule_turned : PySem.W.keepIn K (.ref ARule_turned) = true)
    (a_turned_if : PySem.W.nsIn K mainGlobals "_turned_if" = some (some (.ref Aturned_if)))
    (l_turned_if : K.lookup Aturned_if = some ⟨octurned_if, odturned_if, .func (PySem.W.fnOf "_turned_if" "_turned_if" (defArgs s_turned_if) (defBody s_turned_if) (defScope s_turned_if) .none kVturned_if dcturned_if pmturned_if anturned_if cdturned_if ctturned_if), slturned_if⟩)
    (o_turned_if : PySem.W.codeIn K cdturned_if "_turned_if" = true)
    (k_turned_if : PySem.W.keepIn K (.ref Aturned_if) = true)
    (a_mark_at : PySem.W.nsIn K mainGlobals "_mark_at" = some (some (.ref Amark_at)))
    (l_mark_at : K.lookup Amark_at = some ⟨ocmark_at, odmark_at, .func (PySem.W.fnOf "_mark_at" "_mark_at" (defArgs s_mark_at) (defBody s_mark_at) (defScope s_mark_at) .none kVmark_at dcmark_at pmmark_at anmark_at cdmark_at ctmark_at), slmark_at⟩)
    (o_mark_at : PySem.W.codeIn K cdmark_at "_mark_at" = true)
    (k_mark_at : PySem.W.keepIn K (.ref Amark_at) = true)
    (a_mark_of : PySem.W.nsIn K mainGlobals "mark_of" = some (some (.ref Amark_of)))
    (l_mark_of : K.lookup Amark_of = some ⟨ocmark_of, odmark_of, .func (PySem.W.fnOf "mark_of" "mark_of" (defArgs s_mark_of) (defBody s_mark_of) (defScope s_mark_of) .none kVmark_of dcmark_of pmmark_of anmark_of cdmark_of ctmark_of), slmark_of⟩)
    (o_mark_of : PySem.W.codeIn K cdmark_of "mark_of" = true)
    (k_mark_of : PySem.W.keepIn K (.ref Amark_of) = true)
    (a_told : PySem.W.nsIn K mainGlobals "_law_told" = some (some (.ref Atold)))
    (l_told : K.lookup Atold = some ⟨octold, odtold, .func (PySem.W.fnOf "_law_told" "_law_told" (defArgs s_told) (defBody s_told) (defScope s_told) .none kVtold dctold pmtold antold cdtold cttold), sltold⟩)
    (o_told : PySem.W.codeIn K cdtold "_law_told" = true)
    (k_told : PySem.W.keepIn K (.ref Atold) = true)
    (a_by_name : PySem.W.nsIn K mainGlobals "_law_by_name" = some (some (.ref Aby_name)))
    (l_by_name : K.lookup Aby_name = some ⟨ocby_name, odby_name, .func (PySem.W.fnOf "_law_by_name" "_law_by_name" (defArgs s_by_name) (defBody s_by_name) (defScope s_by_name) .none kVby_name dcby_name pmby_name anby_name cdby_name ctby_name), slby_name⟩)
    (o_by_name : PySem.W.codeIn K cdby_name "_law_by_name" = true)
    (k_by_name : PySem.W.keepIn K (.ref Aby_name) = true)
    (a_right : PySem.W.nsIn K mainGlobals "_law_right" = some (some (.ref Aright)))
    (l_right : K.lookup Aright = some ⟨ocright, odright, .func (PySem.W.fnOf "_law_right" "_law_right" (defArgs s_right) (defBody s_right) (defScope s_right) .none kVright dcright pmright anright cdright ctright), slright⟩)
    (o_right : PySem.W.codeIn K cdright "_law_right" = true)
    (k_right : PySem.W.keepIn K (.ref Aright) = true)
    (a_pot : PySem.W.nsIn K mainGlobals "_law_pot" = some (some (.ref Apot)))
    (l_pot : K.lookup Apot = some ⟨ocpot, odpot, .func (PySem.W.fnOf "_law_pot" "_law_pot" (defArgs s_pot) (defBody s_pot) (defScope s_pot) .none kVpot dcpot pmpot anpot cdpot ctpot), slpot⟩)
    (o_pot : PySem.W.codeIn K cdpot "_law_pot" = true)
    (k_pot : PySem.W.keepIn K (.ref Apot) = true)
    (a_law : PySem.W.nsIn K mainGlobals "law" = some (some (.ref Alaw)))
    (l_law : K.lookup Alaw = some ⟨oclaw, odlaw, .func (PySem.W.fnOf "law" "law" (defArgs s_law) (defBody s_law) (defScope s_law) .none kVlaw dclaw pmlaw anlaw cdlaw ctlaw), sllaw⟩)
    (o_law : PySem.W.codeIn K cdlaw "law" = true)
    (k_law : PySem.W.keepIn K (.ref Alaw) = true)
    (a_Word_init : PySem.W.findIn K (.ref CWord) "__init__" = some (some (.ref AWord_init)))
    (i_Word_init : PySem.W.isFn K (.ref AWord_init) = true)
    (l_Word_init : K.lookup AWord_init = some ⟨ocWord_init, odWord_init, .func (PySem.W.fnOf "__init__" "Word.__init__" (defArgs s_Word_init) (defBody s_Word_init) (defScope s_Word_init) .none kVWord_init dcWord_init pmWord_init anWord_init cdWord_init ctWord_init), slWord_init⟩)
    (o_Word_init : PySem.W.codeIn K cdWord_init "Word.__init__" = true)
    (k_Word_init : PySem.W.keepIn K (.ref AWord_init) = true)
    (aC_Word : PySem.W.nsIn K mainGlobals "Word" = some (some (.ref CWord)))
    (pg_Word : PySem.W.plainGet K CWord Str.empty = true)
    (hd_Word : PySem.W.hasDictIn K CWord = true)
    (po_Word : PySem.W.plainOver K CWord = true)
    (sa_Word : PySem.W.findIn K (.ref CWord) "__setattr__" = some (some (.builtin "object.__setattr__")))
    (mk_Word : PySem.W.makesIn K CWord = true)
    (kc_Word : PySem.W.keepIn K (.ref CWord) = true)
    (na_Word__head : PySem.W.findIn K (.ref CWord) "_head" = some none)
    (na_Word__middle : PySem.W.findIn K (.ref CWord) "_middle" = some none)
    (na_Word__tail : PySem.W.findIn K (.ref CWord) "_tail" = some none)
    (aC_Rule : PySem.W.nsIn K mainGlobals "Rule" = some (some (.ref CRule)))
    (pg_Rule : PySem.W.plainGet K CRule Str.empty = true)
    (hd_Rule : PySem.W.hasDictIn K CRule = true)
    (po_Rule : PySem.W.plainOver K CRule = true)
    (sa_Rule : PySem.W.findIn K (.ref CRule) "__setattr__" = some (some (.builtin "object.__setattr__")))
    (mk_Rule : PySem.W.makesIn K CRule = true)
    (kc_Rule : PySem.W.keepIn K (.ref CRule) = true)
    (na_Rule__step : PySem.W.findIn K (.ref CRule) "_step" = some none)
    (na_Rule__word : PySem.W.findIn K (.ref CRule) "_word" = some none)
    (na_Rule__stander : PySem.W.findIn K (.ref CRule) "_stander" = some none)
    (na_Rule__turned : PySem.W.findIn K (.ref CRule) "_turned" = some none)
    (gd_CONTRARIES : PySem.W.nsIn K mainGlobals "CONTRARIES" = some (some (.ref DCONTRARIES)))
    (ld_CONTRARIES : K.lookup DCONTRARIES = some ⟨.type "dict", none, .dict esCONTRARIES enCONTRARIES, #[]⟩)
    (lk_CONTRARIES : PySem.W.KeysLit w.params esCONTRARIES.toList)
    (lv_CONTRARIES_1 : PySem.W.nsIn K DCONTRARIES "a" = some (some (.str "h" tCONTRARIES1)))
    (lv_CONTRARIES_0 : PySem.W.nsIn K DCONTRARIES "h" = some (some (.str "a" tCONTRARIES0)))
    (gd_CONTRARY_STANDERS : PySem.W.nsIn K mainGlobals "CONTRARY_STANDERS" = some (some (.ref DCONTRARY_STANDERS)))
    (ld_CONTRARY_STANDERS : K.lookup DCONTRARY_STANDERS = some ⟨.type "dict", none, .dict esCONTRARY_STANDERS enCONTRARY_STANDERS, #[]⟩)
    (lk_CONTRARY_STANDERS : PySem.W.KeysLit w.params esCONTRARY_STANDERS.toList)
    (lv_CONTRARY_STANDERS_3 : PySem.W.nsIn K DCONTRARY_STANDERS "odd" = some (some (.str "even" tCONTRARY_STANDERS3)))
    (lv_CONTRARY_STANDERS_2 : PySem.W.nsIn K DCONTRARY_STANDERS "even" = some (some (.str "odd" tCONTRARY_STANDERS2)))
    (lv_CONTRARY_STANDERS_1 : PySem.W.nsIn K DCONTRARY_STANDERS "away" = some (some (.str "home" tCONTRARY_STANDERS1)))
    (lv_CONTRARY_STANDERS_0 : PySem.W.nsIn K DCONTRARY_STANDERS "home" = some (some (.str "away" tCONTRARY_STANDERS0)))
    (gd_STANDER_MARKS : PySem.W.nsIn K mainGlobals "STANDER_MARKS" = some (some (.ref DSTANDER_MARKS)))
    (ld_STANDER_MARKS : K.lookup DSTANDER_MARKS = some ⟨.type "dict", none, .dict esSTANDER_MARKS enSTANDER_MARKS, #[]⟩)
    (lk_STANDER_MARKS : PySem.W.KeysLit w.params esSTANDER_MARKS.toList)
    (lv_STANDER_MARKS_3 : PySem.W.nsIn K DSTANDER_MARKS "odd" = some (some (.str "ah" tSTANDER_MARKS3)))
    (lv_STANDER_MARKS_2 : PySem.W.nsIn K DSTANDER_MARKS "even" = some (some (.str "ha" tSTANDER_MARKS2)))
    (lv_STANDER_MARKS_1 : PySem.W.nsIn K DSTANDER_MARKS "away" = some (some (.str "aa" tSTANDER_MARKS1)))
    (lv_STANDER_MARKS_0 : PySem.W.nsIn K DSTANDER_MARKS "home" = some (some (.str "hh" tSTANDER_MARKS0)))
    (lo_CONTRARY_STANDERS : (DCONTRARY_STANDERS == sysModules) = false)
    (z_abs : PySem.W.nsIn K mainGlobals "abs" = some none)
    (z_all : PySem.W.nsIn K mainGlobals "all" = some none)
    (z_bool : PySem.W.nsIn K mainGlobals "bool" = some none)
    (z_dict : PySem.W.nsIn K mainGlobals "dict" = some none)
    (z_divmod : PySem.W.nsIn K mainGlobals "divmod" = some none)
    (z_int : PySem.W.nsIn K mainGlobals "int" = some none)
    (z_isinstance : PySem.W.nsIn K mainGlobals "isinstance" = some none)
    (z_len : PySem.W.nsIn K mainGlobals "len" = some none)
    (z_list : PySem.W.nsIn K mainGlobals "list" = some none)
    (z_max : PySem.W.nsIn K mainGlobals "max" = some none)
    (z_min : PySem.W.nsIn K mainGlobals "min" = some none)
    (z_range : PySem.W.nsIn K mainGlobals "range" = some none)
    (z_repr : PySem.W.nsIn K mainGlobals "repr" = some none)
    (z_str : PySem.W.nsIn K mainGlobals "str" = some none)
    (c_MOST_MARKS : PySem.W.nsIn K mainGlobals "MOST_MARKS" = some (some (.int 4 tMOST_MARKS)))
    (c_MOST_STEP : PySem.W.nsIn K mainGlobals "MOST_STEP" = some (some (.int 7 tMOST_STEP))) :
    ∃ fd : FuncData, (∀ (s : Shared) (v : Value), BindsTo s fd ⟨[v], []⟩ [("_law_script", v)]) ∧ ∀ base : Heap, K.In base → base.Ns mainGlobals mg → FnG l.prog w K mg base 11 fa fd ["_law_script"] (sp_law K) := by
  have e := hfa.symm.trans (PySem.W.mg_of X G a_law)
  cases e
  have T : Txt w K mg ⟨Ais_marks, (PySem.W.fnOf "is_marks" "is_marks" (defArgs s_is_marks) (defBody s_is_marks) (defScope s_is_marks) .none kVis_marks dcis_marks pmis_marks anis_marks cdis_marks ctis_marks), Acheck_part, (PySem.W.fnOf "_check_part" "_check_part" (defArgs s_check_part) (defBody s_check_part) (defScope s_check_part) .none kVcheck_part dccheck_part pmcheck_part ancheck_part cdcheck_part ctcheck_part), Adraw, (PySem.W.fnOf "_law_draw" "_law_draw" (defArgs s_draw) (defBody s_draw) (defScope s_draw) .none kVdraw dcdraw pmdraw andraw cddraw ctdraw), Apick, (PySem.W.fnOf "_law_pick" "_law_pick" (defArgs s_pick) (defBody s_pick) (defScope s_pick) .none kVpick dcpick pmpick anpick cdpick ctpick), Asigns, (PySem.W.fnOf "_law_signs" "_law_signs" (defArgs s_signs) (defBody s_signs) (defScope s_signs) .none kVsigns dcsigns pmsigns ansigns cdsigns ctsigns), Amodel, (PySem.W.fnOf "_law_model" "_law_model" (defArgs s_model) (defBody s_model) (defScope s_model) .none kVmodel dcmodel pmmodel anmodel cdmodel ctmodel), Aleast, (PySem.W.fnOf "_law_least" "_law_least" (defArgs s_least) (defBody s_least) (defScope s_least) .none kVleast dcleast pmleast anleast cdleast ctleast), Ais_integer, (PySem.W.fnOf "is_integer" "is_integer" (defArgs s_is_integer) (defBody s_is_integer) (defScope s_is_integer) .none kVis_integer dcis_integer pmis_integer anis_integer cdis_integer ctis_integer), ARule_init, (PySem.W.fnOf "__init__" "Rule.__init__" (defArgs s_Rule_init) (defBody s_Rule_init) (defScope s_Rule_init) (.ref TRule_init) kVRule_init dcRule_init pmRule_init anRule_init cdRule_init ctRule_init), Arule, (PySem.W.fnOf "_law_rule" "_law_rule" (defArgs s_rule) (defBody s_rule) (defScope s_rule) .none kVrule dcrule pmrule anrule cdrule ctrule), Aspots, (PySem.W.fnOf "_law_spots" "_law_spots" (defArgs s_spots) (defBody s_spots) (defScope s_spots) .none kVspots dcspots pmspots anspots cdspots ctspots), Astanding, (PySem.W.fnOf "_law_standing" "_law_standing" (defArgs s_standing) (defBody s_standing) (defScope s_standing) .none kVstanding dcstanding pmstanding anstanding cdstanding ctstanding), Aturned, (PySem.W.fnOf "_law_turned" "_law_turned" (defArgs s_turned) (defBody s_turned) (defScope s_turned) .none kVturned dcturned pmturned anturned cdturned ctturned), Aline, (PySem.W.fnOf "_law_line" "_law_line" (defArgs s_line) (defBody s_line) (defScope s_line) .none kVline dcline pmline anline cdline ctline), Amarks, (PySem.W.fnOf "_law_marks" "_law_marks" (defArgs s_marks) (defBody s_marks) (defScope s_marks) .none kVmarks dcmarks pmmarks anmarks cdmarks ctmarks), Adue, (PySem.W.fnOf "_law_due" "_law_due" (defArgs s_due) (defBody s_due) (defScope s_due) .none kVdue dcdue pmdue andue cddue ctdue), AWord_least, (PySem.W.fnOf "least" "Word.least" (defArgs s_Word_least) (defBody s_Word_least) (defScope s_Word_least) .none kVWord_least dcWord_least pmWord_least anWord_least cdWord_least ctWord_least), ARule_least_size, (PySem.W.fnOf "least_size" "Rule.least_size" (defArgs s_Rule_least_size) (defBody s_Rule_least_size) (defScope s_Rule_least_size) .none kVRule_least_size dcRule_least_size pmRule_least_size anRule_least_size cdRule_least_size ctRule_least_size), Ais_size, (PySem.W.fnOf "is_size" "is_size" (defArgs s_is_size) (defBody s_is_size) (defScope s_is_size) .none kVis_size dcis_size pmis_size anis_size cdis_size ctis_size), Acheck_size, (PySem.W.fnOf "check_size" "check_size" (defArgs s_check_size) (defBody s_check_size) (defScope s_check_size) .none kVcheck_size dccheck_size pmcheck_size ancheck_size cdcheck_size ctcheck_size), Ais_count, (PySem.W.fnOf "is_count" "is_count" (defArgs s_is_count) (defBody s_is_count) (defScope s_is_count) .none kVis_count dcis_count pmis_count anis_count cdis_count ctis_count), Acheck_team, (PySem.W.fnOf "check_team" "check_team" (defArgs s_check_team) (defBody s_check_team) (defScope s_check_team) .none kVcheck_team dccheck_team pmcheck_team ancheck_team cdcheck_team ctcheck_team), Acheck_day, (PySem.W.fnOf "check_day" "check_day" (defArgs s_check_day) (defBody s_check_day) (defScope s_check_day) .none kVcheck_day dccheck_day pmcheck_day ancheck_day cdcheck_day ctcheck_day), ARule_step, (PySem.W.fnOf "step" "Rule.step" (defArgs s_Rule_step) (defBody s_Rule_step) (defScope s_Rule_step) .none kVRule_step dcRule_step pmRule_step anRule_step cdRule_step ctRule_step), AseatP, (PySem.W.fnOf "_seat" "_seat" (defArgs s_seatP) (defBody s_seatP) (defScope s_seatP) .none kVseatP dcseatP pmseatP anseatP cdseatP ctseatP), Aseat, (PySem.W.fnOf "seat" "seat" (defArgs s_seat) (defBody s_seat) (defScope s_seat) .none kVseat dcseat pmseat anseat cdseat ctseat), Acheck, (PySem.W.fnOf "_check" "_check" (defArgs s_check) (defBody s_check) (defScope s_check) .none kVcheck dccheck pmcheck ancheck cdcheck ctcheck), Aopponent, (PySem.W.fnOf "opponent" "opponent" (defArgs s_opponent) (defBody s_opponent) (defScope s_opponent) .none kVopponent dcopponent pmopponent anopponent cdopponent ctopponent), ARule_stander, (PySem.W.fnOf "stander" "Rule.stander" (defArgs s_Rule_stander) (defBody s_Rule_stander) (defScope s_Rule_stander) .none kVRule_stander dcRule_stander pmRule_stander anRule_stander cdRule_stander ctRule_stander), Astander_mark, (PySem.W.fnOf "stander_mark" "stander_mark" (defArgs s_stander_mark) (defBody s_stander_mark) (defScope s_stander_mark) .none kVstander_mark dcstander_mark pmstander_mark anstander_mark cdstander_mark ctstander_mark), Acontrary_marks, (PySem.W.fnOf "contrary_marks" "contrary_marks" (defArgs s_contrary_marks) (defBody s_contrary_marks) (defScope s_contrary_marks) .none kVcontrary_marks dccontrary_marks pmcontrary_marks ancontrary_marks cdcontrary_marks ctcontrary_marks), ARule_word, (PySem.W.fnOf "word" "Rule.word" (defArgs s_Rule_word) (defBody s_Rule_word) (defScope s_Rule_word) .none kVRule_word dcRule_word pmRule_word anRule_word cdRule_word ctRule_word), Acheck_places, (PySem.W.fnOf "_check_places" "_check_places" (defArgs s_check_places) (defBody s_check_places) (defScope s_check_places) .none kVcheck_places dccheck_places pmcheck_places ancheck_places cdcheck_places ctcheck_places), AWord_mark, (PySem.W.fnOf "mark" "Word.mark" (defArgs s_Word_mark) (defBody s_Word_mark) (defScope s_Word_mark) .none kVWord_mark dcWord_mark pmWord_mark anWord_mark cdWord_mark ctWord_mark), ARule_turned, (PySem.W.fnOf "turned" "Rule.turned" (defArgs s_Rule_turned) (defBody s_Rule_turned) (defScope s_Rule_turned) .none kVRule_turned dcRule_turned pmRule_turned anRule_turned cdRule_turned ctRule_turned), Aturned_if, (PySem.W.fnOf "_turned_if" "_turned_if" (defArgs s_turned_if) (defBody s_turned_if) (defScope s_turned_if) .none kVturned_if dcturned_if pmturned_if anturned_if cdturned_if ctturned_if), Amark_at, (PySem.W.fnOf "_mark_at" "_mark_at" (defArgs s_mark_at) (defBody s_mark_at) (defScope s_mark_at) .none kVmark_at dcmark_at pmmark_at anmark_at cdmark_at ctmark_at), Amark_of, (PySem.W.fnOf "mark_of" "mark_of" (defArgs s_mark_of) (defBody s_mark_of) (defScope s_mark_of) .none kVmark_of dcmark_of pmmark_of anmark_of cdmark_of ctmark_of), Atold, (PySem.W.fnOf "_law_told" "_law_told" (defArgs s_told) (defBody s_told) (defScope s_told) .none kVtold dctold pmtold antold cdtold cttold), Aby_name, (PySem.W.fnOf "_law_by_name" "_law_by_name" (defArgs s_by_name) (defBody s_by_name) (defScope s_by_name) .none kVby_name dcby_name pmby_name anby_name cdby_name ctby_name), Aright, (PySem.W.fnOf "_law_right" "_law_right" (defArgs s_right) (defBody s_right) (defScope s_right) .none kVright dcright pmright anright cdright ctright), Apot, (PySem.W.fnOf "_law_pot" "_law_pot" (defArgs s_pot) (defBody s_pot) (defScope s_pot) .none kVpot dcpot pmpot anpot cdpot ctpot), fa, (PySem.W.fnOf "law" "law" (defArgs s_law) (defBody s_law) (defScope s_law) .none kVlaw dclaw pmlaw anlaw cdlaw ctlaw), AWord_init, (PySem.W.fnOf "__init__" "Word.__init__" (defArgs s_Word_init) (defBody s_Word_init) (defScope s_Word_init) .none kVWord_init dcWord_init pmWord_init anWord_init cdWord_init ctWord_init), CWord, CRule, PRule_least_size, PRule_stander, PRule_step, PRule_turned, PRule_word, PWord_least, DCONTRARIES, DCONTRARY_STANDERS, DSTANDER_MARKS⟩ := ⟨fun_mk (st := s_is_marks) l_is_marks o_is_marks k_is_marks, (fun_mk (st := s_is_marks) l_is_marks o_is_marks k_is_marks).binds (ps := ["value"]) fun _ _ _ _ _ _ us hl => match us, hl with | [_], _ => rfl, PySem.W.mg_of X G a_is_marks, fun_mk (st := s_check_part) l_check_part o_check_part k_check_part, (fun_mk (st := s_check_part) l_check_part o_check_part k_check_part).binds (ps := ["marks"]) fun _ _ _ _ _ _ us hl => match us, hl with | [_], _ => rfl, PySem.W.mg_of X G a_check_part, fun_mk (st := s_draw) l_draw o_draw k_draw, (fun_mk (st := s_draw) l_draw o_draw k_draw).binds (ps := ["_law_pot_here", "_law_much"]) fun _ _ _ _ _ _ us hl => match us, hl with | [_, _], _ => rfl, PySem.W.mg_of X G a_draw, fun_mk (st := s_pick) l_pick o_pick k_pick, (fun_mk (st := s_pick) l_pick o_pick k_pick).binds (ps := ["_law_pot_here", "_law_some"]) fun _ _ _ _ _ _ us hl => match us, hl with | [_, _], _ => rfl, PySem.W.mg_of X G a_pick, fun_mk (st := s_signs) l_signs o_signs k_signs, (fun_mk (st := s_signs) l_signs o_signs k_signs).binds (ps := ["_law_pot_here", "_law_few", "_law_most"]) fun _ _ _ _ _ _ us hl => match us, hl with | [_, _, _], _ => rfl, PySem.W.mg_of X G a_signs, fun_mk (st := s_model) l_model o_model k_model, (fun_mk (st := s_model) l_model o_model k_model).binds (ps := ["_law_pot_here"]) fun _ _ _ _ _ _ us hl => match us, hl with | [_], _ => rfl, PySem.W.mg_of X G a_model, fun_mk (st := s_least) l_least o_least k_least, (fun_mk (st := s_least) l_least o_least k_least).binds (ps := ["_law_model_here"]) fun _ _ _ _ _ _ us hl => match us, hl with | [_], _ => rfl, PySem.W.mg_of X G a_least, fun_mk (st := s_is_integer) l_is_integer o_is_integer k_is_integer, (fun_mk (st := s_is_integer) l_is_integer o_is_integer k_is_integer).binds (ps := ["value"]) fun _ _ _ _ _ _ us hl => match us, hl with | [_], _ => rfl, PySem.W.mg_of X G a_is_integer, ⟨⟨_, _, _, _, _, _, _, _, _, _, rfl, l_Rule_init, o_Rule_init, .inr ⟨by simp, TRule_init, _, _, _, rfl, t_Rule_init, rfl, .cons rfl (.nil)⟩, .inl rfl⟩, k_Rule_init⟩, (fun (F_ : FunD K "__init__" "Rule.__init__" (defArgs s_Rule_init) (defBody s_Rule_init) (defScope s_Rule_init) [V.bl false] [] ARule_init _) => FunD_b0 F_ (by simp) fun T_ kV_ doc_ pm_ an_ cdv_ ct_ us_ its_ h_ hi_ => match us_, its_, h_, hi_ with | [_, _, _, _, _], [_], _, _ => ⟨_, rfl, rfl⟩) ⟨⟨_, _, _, _, _, _, _, _, _, _, rfl, l_Rule_init, o_Rule_init, .inr ⟨by simp, TRule_init, _, _, _, rfl, t_Rule_init, rfl, .cons rfl (.nil)⟩, .inl rfl⟩, k_Rule_init⟩, fun_mk (st := s_rule) l_rule o_rule k_rule, (fun_mk (st := s_rule) l_rule o_rule k_rule).binds (ps := ["_law_model_here"]) fun _ _ _ _ _ _ us hl => match us, hl with | [_], _ => rfl, PySem.W.mg_of X G a_rule, fun_mk (st := s_spots) l_spots o_spots k_spots, (fun_mk (st := s_spots) l_spots o_spots k_spots).binds (ps := ["_law_model_here", "_law_half", "_law_when"]) fun _ _ _ _ _ _ us hl => match us, hl with | [_, _, _], _ => rfl, PySem.W.mg_of X G a_spots, fun_mk (st := s_standing) l_standing o_standing k_standing, (fun_mk (st := s_standing) l_standing o_standing k_standing).binds (ps := ["_law_model_here", "_law_is_odd"]) fun _ _ _ _ _ _ us hl => match us, hl with | [_, _], _ => rfl, PySem.W.mg_of X G a_standing, fun_mk (st := s_turned) l_turned o_turned k_turned, (fun_mk (st := s_turned) l_turned o_turned k_turned).binds (ps := ["_law_sign"]) fun _ _ _ _ _ _ us hl => match us, hl with | [_], _ => rfl, PySem.W.mg_of X G a_turned, fun_mk (st := s_line) l_line o_line k_line, (fun_mk (st := s_line) l_line o_line k_line).binds (ps := ["_law_model_here", "_law_half"]) fun _ _ _ _ _ _ us hl => match us, hl with | [_, _], _ => rfl, PySem.W.mg_of X G a_line, fun_mk (st := s_marks) l_marks o_marks k_marks, (fun_mk (st := s_marks) l_marks o_marks k_marks).binds (ps := ["_law_model_here", "_law_half", "_law_is_odd"]) fun _ _ _ _ _ _ us hl => match us, hl with | [_, _, _], _ => rfl, PySem.W.mg_of X G a_marks, fun_mk (st := s_due) l_due o_due k_due, (fun_mk (st := s_due) l_due o_due k_due).binds (ps := ["_law_model_here", "_law_half", "_law_when"]) fun _ _ _ _ _ _ us hl => match us, hl with | [_, _, _], _ => rfl, PySem.W.mg_of X G a_due, fun_mk (st := s_Word_least) l_Word_least o_Word_least k_Word_least, (fun_mk (st := s_Word_least) l_Word_least o_Word_least k_Word_least).binds (ps := ["self"]) fun _ _ _ _ _ _ us hl => match us, hl with | [_], _ => rfl, ⟨pa_Word_least, pg_Word_least, pt_Word_least, ⟨_, pr_Word_least⟩⟩, fun_mk (st := s_Rule_least_size) l_Rule_least_size o_Rule_least_size k_Rule_least_size, (fun_mk (st := s_Rule_least_size) l_Rule_least_size o_Rule_least_size k_Rule_least_size).binds (ps := ["self"]) fun _ _ _ _ _ _ us hl => match us, hl with | [_], _ => rfl, ⟨pa_Rule_least_size, pg_Rule_least_size, pt_Rule_least_size, ⟨_, pr_Rule_least_size⟩⟩, fun_mk (st := s_is_size) l_is_size o_is_size k_is_size, (fun_mk (st := s_is_size) l_is_size o_is_size k_is_size).binds (ps := ["rule", "value"]) fun _ _ _ _ _ _ us hl => match us, hl with | [_, _], _ => rfl, PySem.W.mg_of X G a_is_size, fun_mk (st := s_check_size) l_check_size o_check_size k_check_size, (fun_mk (st := s_check_size) l_check_size o_check_size k_check_size).binds (ps := ["rule", "size"]) fun _ _ _ _ _ _ us hl => match us, hl with | [_, _], _ => rfl, PySem.W.mg_of X G a_check_size, fun_mk (st := s_is_count) l_is_count o_is_count k_is_count, (fun_mk (st := s_is_count) l_is_count o_is_count k_is_count).binds (ps := ["value"]) fun _ _ _ _ _ _ us hl => match us, hl with | [_], _ => rfl, PySem.W.mg_of X G a_is_count, fun_mk (st := s_check_team) l_check_team o_check_team k_check_team, (fun_mk (st := s_check_team) l_check_team o_check_team k_check_team).binds (ps := ["team", "teams"]) fun _ _ _ _ _ _ us hl => match us, hl with | [_, _], _ => rfl, PySem.W.mg_of X G a_check_team, fun_mk (st := s_check_day) l_check_day o_check_day k_check_day, (fun_mk (st := s_check_day) l_check_day o_check_day k_check_day).binds (ps := ["day", "rounds"]) fun _ _ _ _ _ _ us hl => match us, hl with | [_, _], _ => rfl, PySem.W.mg_of X G a_check_day, fun_mk (st := s_Rule_step) l_Rule_step o_Rule_step k_Rule_step, (fun_mk (st := s_Rule_step) l_Rule_step o_Rule_step k_Rule_step).binds (ps := ["self"]) fun _ _ _ _ _ _ us hl => match us, hl with | [_], _ => rfl, ⟨pa_Rule_step, pg_Rule_step, pt_Rule_step, ⟨_, pr_Rule_step⟩⟩, fun_mk (st := s_seatP) l_seatP o_seatP k_seatP, (fun_mk (st := s_seatP) l_seatP o_seatP k_seatP).binds (ps := ["rule", "size", "team", "day"]) fun _ _ _ _ _ _ us hl => match us, hl with | [_, _, _, _], _ => rfl, PySem.W.mg_of X G a_seatP, fun_mk (st := s_seat) l_seat o_seat k_seat, (fun_mk (st := s_seat) l_seat o_seat k_seat).binds (ps := ["rule", "size", "team", "day"]) fun _ _ _ _ _ _ us hl => match us, hl with | [_, _, _, _], _ => rfl, PySem.W.mg_of X G a_seat, fun_mk (st := s_check) l_check o_check k_check, (fun_mk (st := s_check) l_check o_check k_check).binds (ps := ["rule", "size", "team", "day"]) fun _ _ _ _ _ _ us hl => match us, hl with | [_, _, _, _], _ => rfl, PySem.W.mg_of X G a_check, fun_mk (st := s_opponent) l_opponent o_opponent k_opponent, (fun_mk (st := s_opponent) l_opponent o_opponent k_opponent).binds (ps := ["rule", "size", "team", "day"]) fun _ _ _ _ _ _ us hl => match us, hl with | [_, _, _, _], _ => rfl, PySem.W.mg_of X G a_opponent, fun_mk (st := s_Rule_stander) l_Rule_stander o_Rule_stander k_Rule_stander, (fun_mk (st := s_Rule_stander) l_Rule_stander o_Rule_stander k_Rule_stander).binds (ps := ["self"]) fun _ _ _ _ _ _ us hl => match us, hl with | [_], _ => rfl, ⟨pa_Rule_stander, pg_Rule_stander, pt_Rule_stander, ⟨_, pr_Rule_stander⟩⟩, fun_mk (st := s_stander_mark) l_stander_mark o_stander_mark k_stander_mark, (fun_mk (st := s_stander_mark) l_stander_mark o_stander_mark k_stander_mark).binds (ps := ["rule", "day"]) fun _ _ _ _ _ _ us hl => match us, hl with | [_, _], _ => rfl, PySem.W.mg_of X G a_stander_mark, fun_mk (st := s_contrary_marks) l_contrary_marks o_contrary_marks k_contrary_marks, (fun_mk (st := s_contrary_marks) l_contrary_marks o_contrary_marks k_contrary_marks).binds (ps := ["marks"]) fun _ _ _ _ _ _ us hl => match us, hl with | [_], _ => rfl, PySem.W.mg_of X G a_contrary_marks, fun_mk (st := s_Rule_word) l_Rule_word o_Rule_word k_Rule_word, (fun_mk (st := s_Rule_word) l_Rule_word o_Rule_word k_Rule_word).binds (ps := ["self"]) fun _ _ _ _ _ _ us hl => match us, hl with | [_], _ => rfl, ⟨pa_Rule_word, pg_Rule_word, pt_Rule_word, ⟨_, pr_Rule_word⟩⟩, fun_mk (st := s_check_places) l_check_places o_check_places k_check_places, (fun_mk (st := s_check_places) l_check_places o_check_places k_check_places).binds (ps := ["word", "places"]) fun _ _ _ _ _ _ us hl => match us, hl with | [_, _], _ => rfl, PySem.W.mg_of X G a_check_places, fun_mk (st := s_Word_mark) l_Word_mark o_Word_mark k_Word_mark, (fun_mk (st := s_Word_mark) l_Word_mark o_Word_mark k_Word_mark).binds (ps := ["self", "places", "place"]) fun _ _ _ _ _ _ us hl => match us, hl with | [_, _, _], _ => rfl, ⟨a_Word_mark, i_Word_mark, k_Word_mark⟩, fun_mk (st := s_Rule_turned) l_Rule_turned o_Rule_turned k_Rule_turned, (fun_mk (st := s_Rule_turned) l_Rule_turned o_Rule_turned k_Rule_turned).binds (ps := ["self"]) fun _ _ _ _ _ _ us hl => match us, hl with | [_], _ => rfl, ⟨pa_Rule_turned, pg_Rule_turned, pt_Rule_turned, ⟨_, pr_Rule_turned⟩⟩, fun_mk (st := s_turned_if) l_turned_if o_turned_if k_turned_if, (fun_mk (st := s_turned_if) l_turned_if o_turned_if k_turned_if).binds (ps := ["rule", "day", "marks"]) fun _ _ _ _ _ _ us hl => match us, hl with | [_, _, _], _ => rfl, PySem.W.mg_of X G a_turned_if, fun_mk (st := s_mark_at) l_mark_at o_mark_at k_mark_at, (fun_mk (st := s_mark_at) l_mark_at o_mark_at k_mark_at).binds (ps := ["rule", "size", "at", "day"]) fun _ _ _ _ _ _ us hl => match us, hl with | [_, _, _, _], _ => rfl, PySem.W.mg_of X G a_mark_at, fun_mk (st := s_mark_of) l_mark_of o_mark_of k_mark_of, (fun_mk (st := s_mark_of) l_mark_of o_mark_of k_mark_of).binds (ps := ["rule", "size", "team", "day"]) fun _ _ _ _ _ _ us hl => match us, hl with | [_, _, _, _], _ => rfl, PySem.W.mg_of X G a_mark_of, fun_mk (st := s_told) l_told o_told k_told, (fun_mk (st := s_told) l_told o_told k_told).binds (ps := ["_law_made", "_law_many", "_law_when"]) fun _ _ _ _ _ _ us hl => match us, hl with | [_, _, _], _ => rfl, PySem.W.mg_of X G a_told, fun_mk (st := s_by_name) l_by_name o_by_name k_by_name, (fun_mk (st := s_by_name) l_by_name o_by_name k_by_name).binds (ps := ["_law_made", "_law_many", "_law_who", "_law_when"]) fun _ _ _ _ _ _ us hl => match us, hl with | [_, _, _, _], _ => rfl, PySem.W.mg_of X G a_by_name, fun_mk (st := s_right) l_right o_right k_right, (fun_mk (st := s_right) l_right o_right k_right).binds (ps := ["_law_pot_here"]) fun _ _ _ _ _ _ us hl => match us, hl with | [_], _ => rfl, PySem.W.mg_of X G a_right, fun_mk (st := s_pot) l_pot o_pot k_pot, (fun_mk (st := s_pot) l_pot o_pot k_pot).binds (ps := ["_law_script", "_law_k"]) fun _ _ _ _ _ _ us hl => match us, hl with | [_, _], _ => rfl, PySem.W.mg_of X G a_pot, fun_mk (st := s_law) l_law o_law k_law, (fun_mk (st := s_law) l_law o_law k_law).binds (ps := ["_law_script"]) fun _ _ _ _ _ _ us hl => match us, hl with | [_], _ => rfl, PySem.W.mg_of X G a_law, fun_mk (st := s_Word_init) l_Word_init o_Word_init k_Word_init, (fun_mk (st := s_Word_init) l_Word_init o_Word_init k_Word_init).binds (ps := ["self", "head", "middle", "tail"]) fun _ _ _ _ _ _ us hl => match us, hl with | [_, _, _, _], _ => rfl, ⟨pg_Word, hd_Word, po_Word, sa_Word⟩, PySem.W.mg_of X G aC_Word, ⟨mk_Word, a_Word_init, i_Word_init, kc_Word⟩, na_Word__head, na_Word__middle, na_Word__tail, ⟨pg_Rule, hd_Rule, po_Rule, sa_Rule⟩, PySem.W.mg_of X G aC_Rule, ⟨mk_Rule, a_Rule_init, i_Rule_init, kc_Rule⟩, na_Rule__step, na_Rule__word, na_Rule__stander, na_Rule__turned, PySem.W.mg_of X G gd_CONTRARIES, (kd_cons ⟨_, _, _, ld_CONTRARIES, lk_CONTRARIES, lv_CONTRARIES_0, ⟨_, rfl⟩⟩ (kd_cons ⟨_, _, _, ld_CONTRARIES, lk_CONTRARIES, lv_CONTRARIES_1, ⟨_, rfl⟩⟩ kd_nil)), PySem.W.mg_of X G gd_CONTRARY_STANDERS, (kd_cons ⟨_, _, _, ld_CONTRARY_STANDERS, lk_CONTRARY_STANDERS, lv_CONTRARY_STANDERS_0, ⟨_, rfl⟩⟩ (kd_cons ⟨_, _, _, ld_CONTRARY_STANDERS, lk_CONTRARY_STANDERS, lv_CONTRARY_STANDERS_1, ⟨_, rfl⟩⟩ (kd_cons ⟨_, _, _, ld_CONTRARY_STANDERS, lk_CONTRARY_STANDERS, lv_CONTRARY_STANDERS_2, ⟨_, rfl⟩⟩ (kd_cons ⟨_, _, _, ld_CONTRARY_STANDERS, lk_CONTRARY_STANDERS, lv_CONTRARY_STANDERS_3, ⟨_, rfl⟩⟩ kd_nil)))), PySem.W.mg_of X G gd_STANDER_MARKS, (kd_cons ⟨_, _, _, ld_STANDER_MARKS, lk_STANDER_MARKS, lv_STANDER_MARKS_0, ⟨_, rfl⟩⟩ (kd_cons ⟨_, _, _, ld_STANDER_MARKS, lk_STANDER_MARKS, lv_STANDER_MARKS_1, ⟨_, rfl⟩⟩ (kd_cons ⟨_, _, _, ld_STANDER_MARKS, lk_STANDER_MARKS, lv_STANDER_MARKS_2, ⟨_, rfl⟩⟩ (kd_cons ⟨_, _, _, ld_STANDER_MARKS, lk_STANDER_MARKS, lv_STANDER_MARKS_3, ⟨_, rfl⟩⟩ kd_nil)))), lo_CONTRARY_STANDERS, PySem.W.mg_none_of X G z_abs, PySem.W.mg_none_of X G z_all, PySem.W.mg_none_of X G z_bool, PySem.W.mg_none_of X G z_dict, PySem.W.mg_none_of X G z_divmod, PySem.W.mg_none_of X G z_int, PySem.W.mg_none_of X G z_isinstance, PySem.W.mg_none_of X G z_len, PySem.W.mg_none_of X G z_list, PySem.W.mg_none_of X G z_max, PySem.W.mg_none_of X G z_min, PySem.W.mg_none_of X G z_range, PySem.W.mg_none_of X G z_repr, PySem.W.mg_none_of X G z_str, ⟨_, PySem.W.mg_of X G c_MOST_MARKS, ⟨_, rfl⟩⟩, ⟨_, PySem.W.mg_of X G c_MOST_STEP, ⟨_, rfl⟩⟩, ⟨fun s us ws _ h1 h2 => match us, ws, h1, h2 with | [], [_, _, _, _], _, _ => .of_eq rfl, fun r1 r2 => r1.append (.cons (vals_getD r2 1) (.cons (vals_getD r2 0) (.cons (vals_getD r2 3) (.cons (vals_getD r2 2) (.nil)))))⟩, ⟨fun s us ws _ h1 h2 => match us, ws, h1, h2 with | [], [_, _, _, _], _, _ => .of_eq rfl, fun r1 r2 => r1.append (.cons (vals_getD r2 2) (.cons (vals_getD r2 3) (.cons (vals_getD r2 0) (.cons (vals_getD r2 1) (.nil)))))⟩, ⟨fun s us ws _ h1 h2 => match us, ws, h1, h2 with | [], [_, _, _, _], _, _ => .of_eq rfl, fun r1 r2 => r1.append (.cons (vals_getD r2 3) (.cons (vals_getD r2 2) (.cons (vals_getD r2 1) (.cons (vals_getD r2 0) (.nil)))))⟩⟩
  exact ⟨_, fun s v => .of_eq rfl, fun base _ _ => ok_law T⟩
end Lw
open PySem PySem.W PyProof.Rows in
set_option maxRecDepth 100000 in
set_option maxHeartbeats 0 in
theorem PySem.Challenge.cw_ringrows_k31_whole_rounds_seated_by_look_holds : PySem.Challenge.rw_ringrows_k31_whole_rounds_seated_by_look.Holds := by
  w_on; o_law; k_head; (case hw => w_witness2)
  k_fill
  refine Rx.walk_ofG (l := PySem.Challenge.rw_ringrows_k31_whole_rounds_seated_by_look) (n := 63) (k := 11) (x := "_law_script") (sp := fun w => Lw.sp_law _) rfl (by decide) rfl ⟨rfl, by decide, by decide⟩ (fun w h Y => PySem.W.kIn_of Y) ?F (fun w H a ns hl hO hS => Lw.law_enter hl hO hS)
  case F =>
    intro w mg fa h KX G hmg
    refine' Lw.all_mk KX G hmg ?a_is_marks ?l_is_marks ?o_is_marks ?k_is_marks ?a_check_part ?l_check_part ?o_check_part ?k_check_part ?a_draw ?l_draw ?o_draw ?k_draw ?a_pick ?l_pick ?o_pick ?k_pick ?a_signs ?l_signs ?o_signs ?k_signs ?a_model ?l_model ?o_model ?k_model ?a_least ?l_least ?o_least ?k_least ?a_is_integer ?l_is_integer ?o_is_integer ?k_is_integer ?a_Rule_init ?i_Rule_init ?t_Rule_init ?l_Rule_init ?o_Rule_init ?k_Rule_init ?a_rule ?l_rule ?o_rule ?k_rule ?a_spots ?l_spots ?o_spots ?k_spots ?a_standing ?l_standing ?o_standing ?k_standing ?a_turned ?l_turned ?o_turned ?k_turned ?a_line ?l_line ?o_line ?k_line ?a_marks ?l_marks ?o_marks ?k_marks ?a_due ?l_due ?o_due ?k_due ?pa_Word_least ?pg_Word_least ?pt_Word_least ?pr_Word_least ?l_Word_least ?o_Word_least ?k_Word_least ?pa_Rule_least_size ?pg_Rule_least_size ?pt_Rule_least_size ?pr_Rule_least_size ?l_Rule_least_size ?o_Rule_least_size ?k_Rule_least_size ?a_is_size ?l_is_size ?o_is_size ?k_is_size ?a_check_size ?l_check_size ?o_check_size ?k_check_size ?a_is_count ?l_is_count ?o_is_count ?k_is_count ?a_check_team ?l_check_team ?o_check_team ?k_check_team ?a_check_day ?l_check_day ?o_check_day ?k_check_day ?pa_Rule_step ?pg_Rule_step ?pt_Rule_step ?pr_Rule_step ?l_Rule_step ?o_Rule_step ?k_Rule_step ?a_seatP ?l_seatP ?o_seatP ?k_seatP ?a_seat ?l_seat ?o_seat ?k_seat ?a_check ?l_check ?o_check ?k_check ?a_opponent ?l_opponent ?o_opponent ?k_opponent ?pa_Rule_stander ?pg_Rule_stander ?pt_Rule_stander ?pr_Rule_stander ?l_Rule_stander ?o_Rule_stander ?k_Rule_stander ?a_stander_mark ?l_stander_mark ?o_stander_mark ?k_stander_mark ?a_contrary_marks ?l_contrary_marks ?o_contrary_marks ?k_contrary_marks ?pa_Rule_word ?pg_Rule_word ?pt_Rule_word ?pr_Rule_word ?l_Rule_word ?o_Rule_word ?k_Rule_word ?a_check_places ?l_check_places ?o_check_places ?k_check_places ?a_Word_mark ?i_Word_mark ?l_Word_mark ?o_Word_mark ?k_Word_mark ?pa_Rule_turned ?pg_Rule_turned ?pt_Rule_turned ?pr_Rule_turned ?l_Rule_turned ?o_Rule_turned ?k_Rule_turned ?a_turned_if ?l_turned_if ?o_turned_if ?k_turned_if ?a_mark_at ?l_mark_at ?o_mark_at ?k_mark_at ?a_mark_of ?l_mark_of ?o_mark_of ?k_mark_of ?a_told ?l_told ?o_told ?k_told ?a_by_name ?l_by_name ?o_by_name ?k_by_name ?a_right ?l_right ?o_right ?k_right ?a_pot ?l_pot ?o_pot ?k_pot ?a_law ?l_law ?o_law ?k_law ?a_Word_init ?i_Word_init ?l_Word_init ?o_Word_init ?k_Word_init ?aC_Word ?pg_Word ?hd_Word ?po_Word ?sa_Word ?mk_Word ?kc_Word ?na_Word__head ?na_Word__middle ?na_Word__tail ?aC_Rule ?pg_Rule ?hd_Rule ?po_Rule ?sa_Rule ?mk_Rule ?kc_Rule ?na_Rule__step ?na_Rule__word ?na_Rule__stander ?na_Rule__turned ?gd_CONTRARIES ?ld_CONTRARIES ?lk_CONTRARIES ?lv_CONTRARIES_1 ?lv_CONTRARIES_0 ?gd_CONTRARY_STANDERS ?ld_CONTRARY_STANDERS ?lk_CONTRARY_STANDERS ?lv_CONTRARY_STANDERS_3 ?lv_CONTRARY_STANDERS_2 ?lv_CONTRARY_STANDERS_1 ?lv_CONTRARY_STANDERS_0 ?gd_STANDER_MARKS ?ld_STANDER_MARKS ?lk_STANDER_MARKS ?lv_STANDER_MARKS_3 ?lv_STANDER_MARKS_2 ?lv_STANDER_MARKS_1 ?lv_STANDER_MARKS_0 ?lo_CONTRARY_STANDERS ?z_abs ?z_all ?z_bool ?z_dict ?z_divmod ?z_int ?z_isinstance ?z_len ?z_list ?z_max ?z_min ?z_range ?z_repr ?z_str ?c_MOST_MARKS ?c_MOST_STEP
    (case aC_Word => k_is); (case aC_Rule => k_is); (case gd_CONTRARIES => k_is); (case gd_CONTRARY_STANDERS => k_is); (case gd_STANDER_MARKS => k_is); (case ld_CONTRARIES => k_is); (case ld_CONTRARY_STANDERS => k_is); (case ld_STANDER_MARKS => k_is); (case a_is_marks => k_is); (case l_is_marks => k_is); (case o_is_marks => k_is); (case k_is_marks => k_is); (case a_check_part => k_is); (case l_check_part => k_is); (case o_check_part => k_is); (case k_check_part => k_is); (case a_draw => k_is); (case l_draw => k_is); (case o_draw => k_is); (case k_draw => k_is); (case a_pick => k_is); (case l_pick => k_is); (case o_pick => k_is); (case k_pick => k_is); (case a_signs => k_is); (case l_signs => k_is); (case o_signs => k_is); (case k_signs => k_is); (case a_model => k_is); (case l_model => k_is); (case o_model => k_is); (case k_model => k_is); (case a_least => k_is); (case l_least => k_is); (case o_least => k_is); (case k_least => k_is); (case a_is_integer => k_is); (case l_is_integer => k_is); (case o_is_integer => k_is); (case k_is_integer => k_is); (case a_Rule_init => k_is); (case i_Rule_init => k_is); (case l_Rule_init => k_is); (case o_Rule_init => k_is); (case k_Rule_init => k_is); (case a_rule => k_is); (case l_rule => k_is); (case o_rule => k_is); (case k_rule => k_is); (case a_spots => k_is); (case l_spots => k_is); (case o_spots => k_is); (case k_spots => k_is); (case a_standing => k_is); (case l_standing => k_is); (case o_standing => k_is); (case k_standing => k_is); (case a_turned => k_is); (case l_turned => k_is); (case o_turned => k_is); (case k_turned => k_is); (case a_line => k_is); (case l_line => k_is); (case o_line => k_is); (case k_line => k_is); (case a_marks => k_is); (case l_marks => k_is); (case o_marks => k_is); (case k_marks => k_is); (case a_due => k_is); (case l_due => k_is); (case o_due => k_is); (case k_due => k_is); (case pa_Word_least => k_is); (case pg_Word_least => k_is); (case pt_Word_least => k_is); (case pr_Word_least => k_is); (case l_Word_least => k_is); (case o_Word_least => k_is); (case k_Word_least => k_is); (case pa_Rule_least_size => k_is); (case pg_Rule_least_size => k_is); (case pt_Rule_least_size => k_is); (case pr_Rule_least_size => k_is); (case l_Rule_least_size => k_is); (case o_Rule_least_size => k_is); (case k_Rule_least_size => k_is); (case a_is_size => k_is); (case l_is_size => k_is); (case o_is_size => k_is); (case k_is_size => k_is); (case a_check_size => k_is); (case l_check_size => k_is); (case o_check_size => k_is); (case k_check_size => k_is); (case a_is_count => k_is); (case l_is_count => k_is); (case o_is_count => k_is); (case k_is_count => k_is); (case a_check_team => k_is); (case l_check_team => k_is); (case o_check_team => k_is); (case k_check_team => k_is); (case a_check_day => k_is); (case l_check_day => k_is); (case o_check_day => k_is); (case k_check_day => k_is); (case pa_Rule_step => k_is); (case pg_Rule_step => k_is); (case pt_Rule_step => k_is); (case pr_Rule_step => k_is); (case l_Rule_step => k_is); (case o_Rule_step => k_is); (case k_Rule_step => k_is); (case a_seatP => k_is); (case l_seatP => k_is); (case o_seatP => k_is); (case k_seatP => k_is); (case a_seat => k_is); (case l_seat => k_is); (case o_seat => k_is); (case k_seat => k_is); (case a_check => k_is); (case l_check => k_is); (case o_check => k_is); (case k_check => k_is); (case a_opponent => k_is); (case l_opponent => k_is); (case o_opponent => k_is); (case k_opponent => k_is); (case pa_Rule_stander => k_is); (case pg_Rule_stander => k_is); (case pt_Rule_stander => k_is); (case pr_Rule_stander => k_is); (case l_Rule_stander => k_is); (case o_Rule_stander => k_is); (case k_Rule_stander => k_is); (case a_stander_mark => k_is); (case l_stander_mark => k_is); (case o_stander_mark => k_is); (case k_stander_mark => k_is); (case a_contrary_marks => k_is); (case l_contrary_marks => k_is); (case o_contrary_marks => k_is); (case k_contrary_marks => k_is); (case pa_Rule_word => k_is); (case pg_Rule_word => k_is); (case pt_Rule_word => k_is); (case pr_Rule_word => k_is); (case l_Rule_word => k_is); (case o_Rule_word => k_is); (case k_Rule_word => k_is); (case a_check_places => k_is); (case l_check_places => k_is); (case o_check_places => k_is); (case k_check_places => k_is); (case a_Word_mark => k_is); (case i_Word_mark => k_is); (case l_Word_mark => k_is); (case o_Word_mark => k_is); (case k_Word_mark => k_is); (case pa_Rule_turned => k_is); (case pg_Rule_turned => k_is); (case pt_Rule_turned => k_is); (case pr_Rule_turned => k_is); (case l_Rule_turned => k_is); (case o_Rule_turned => k_is); (case k_Rule_turned => k_is); (case a_turned_if => k_is); (case l_turned_if => k_is); (case o_turned_if => k_is); (case k_turned_if => k_is); (case a_mark_at => k_is); (case l_mark_at => k_is); (case o_mark_at => k_is); (case k_mark_at => k_is); (case a_mark_of => k_is); (case l_mark_of => k_is); (case o_mark_of => k_is); (case k_mark_of => k_is); (case a_told => k_is); (case l_told => k_is); (case o_told => k_is); (case k_told => k_is); (case a_by_name => k_is); (case l_by_name => k_is); (case o_by_name => k_is); (case k_by_name => k_is); (case a_right => k_is); (case l_right => k_is); (case o_right => k_is); (case k_right => k_is); (case a_pot => k_is); (case l_pot => k_is); (case o_pot => k_is); (case k_pot => k_is); (case a_law => k_is); (case l_law => k_is); (case o_law => k_is); (case k_law => k_is); (case a_Word_init => k_is); (case i_Word_init => k_is); (case l_Word_init => k_is); (case o_Word_init => k_is); (case k_Word_init => k_is); (case pg_Word => k_is); (case hd_Word => k_is); (case po_Word => k_is); (case sa_Word => k_is); (case mk_Word => k_is); (case kc_Word => k_is); (case na_Word__head => k_is); (case na_Word__middle => k_is); (case na_Word__tail => k_is); (case pg_Rule => k_is); (case hd_Rule => k_is); (case po_Rule => k_is); (case sa_Rule => k_is); (case mk_Rule => k_is); (case kc_Rule => k_is); (case na_Rule__step => k_is); (case na_Rule__word => k_is); (case na_Rule__stander => k_is); (case na_Rule__turned => k_is); (case lk_CONTRARIES => k_keys); (case lv_CONTRARIES_1 => k_is); (case lv_CONTRARIES_0 => k_is); (case lk_CONTRARY_STANDERS => k_keys); (case lv_CONTRARY_STANDERS_3 => k_is); (case lv_CONTRARY_STANDERS_2 => k_is); (case lv_CONTRARY_STANDERS_1 => k_is); (case lv_CONTRARY_STANDERS_0 => k_is); (case lk_STANDER_MARKS => k_keys); (case lv_STANDER_MARKS_3 => k_is); (case lv_STANDER_MARKS_2 => k_is); (case lv_STANDER_MARKS_1 => k_is); (case lv_STANDER_MARKS_0 => k_is); (case lo_CONTRARY_STANDERS => decide); (case z_abs => k_is); (case z_all => k_is); (case z_bool => k_is); (case z_dict => k_is); (case z_divmod => k_is); (case z_int => k_is); (case z_isinstance => k_is); (case z_len => k_is); (case z_list => k_is); (case z_max => k_is); (case z_min => k_is); (case z_range => k_is); (case z_repr => k_is); (case z_str => k_is); (case c_MOST_MARKS => k_is); (case c_MOST_STEP => k_is); (case t_Rule_init => k_is)
