import PyProof.Rows.All
import Wide.All
import OpenK.AllK
import Wide.FinOn
import HandS.ForMost
import HandS.Property
import HandS.IsInst
import HandS.Wide
import HandS.WideBits
import HandS.Defaults
import HandS.StrMore
import HandS.Style
import HandS.Codes
import HandS.OwnEq
import HandS.Conv
import HandS.SetFor
import HandS.WrittenGet
import PyProof.StrBlock2
import PyProof.LongRange
import PyProof.ReprRoads
import HandS.FStr
import HandS.MakeKwOnly
import HandS.ListItems
import HandS.Gcd
import HandS.Small
import HandS.NoneIn
import HandS.Walk
import PySem.Challenge.RW_ringrows_k22_marks_and_homes
set_option Elab.async false
set_option linter.all false
set_option maxRecDepth 100000
set_option maxHeartbeats 4000000
namespace Rx
open PySem PySem.Spec PyProof.Rows L2

inductive D where
  | v (x : V)
  | lst (xs : List D)
  | tup (xs : List D)
  | ins (C : Addr) (ns : List Str) (xs : List D)
  | dct (ks : List Key) (xs : List D)

mutual
def rep (ms : List Addr) (H : Hp) : D → V → Prop
  | .v x, u => u = x
  | .lst ds, u => ∃ p vs, u = .ref p ∧ p ∉ ms ∧ H p = some (.lst vs) ∧ repL ms H ds vs
  | .tup ds, u => ∃ p vs, u = .ref p ∧ p ∉ ms ∧ H p = some (.tup vs) ∧ repL ms H ds vs
  | .ins C ns ds, u => ∃ p dx vs, u = .ref p ∧ p ∉ ms ∧ H p = some (.ins C dx (ns.zip vs)) ∧ ns.length = vs.length ∧ repL ms H ds vs
  | .dct ks ds, u => ∃ p vs, u = .ref p ∧ p ∉ ms ∧ H p = some (.dK (ks.zip vs)) ∧ ks.length = vs.length ∧ repL ms H ds vs
def repL (ms : List Addr) (H : Hp) : List D → List V → Prop
  | [], vs => vs = []
  | d :: ds, vs => ∃ u us, vs = u :: us ∧ rep ms H d u ∧ repL ms H ds us
end

mutual
theorem rep_map {ms ms' : List Addr} {H H' : Hp} (f : ∀ p o, p ∉ ms → H p = some o → p ∉ ms' ∧ H' p = some o) : ∀ (d : D) (u : V), rep ms H d u → rep ms' H' d u
  | .v x, u, h => by
    simp only [rep] at h ⊢
    exact h
  | .lst ds, u, h => by
    simp only [rep] at h ⊢
    obtain ⟨p, vs, e, n, hp, hl⟩ := h
    exact ⟨p, vs, e, (f p _ n hp).1, (f p _ n hp).2, repL_map f ds vs hl⟩
  | .tup ds, u, h => by
    simp only [rep] at h ⊢
    obtain ⟨p, vs, e, n, hp, hl⟩ := h
    exact ⟨p, vs, e, (f p _ n hp).1, (f p _ n hp).2, repL_map f ds vs hl⟩
  | .ins C ns ds, u, h => by
    simp only [rep] at h ⊢
    obtain ⟨p, dx, vs, e, n, hp, hn, hl⟩ := h
    exact ⟨p, dx, vs, e, (f p _ n hp).1, (f p _ n hp).2, hn, repL_map f ds vs hl⟩
  | .dct ks ds, u, h => by
    simp only [rep] at h ⊢
    obtain ⟨p, vs, e, n, hp, hn, hl⟩ := h
    exact ⟨p, vs, e, (f p _ n hp).1, (f p _ n hp).2, hn, repL_map f ds vs hl⟩
theorem repL_map {ms ms' : List Addr} {H H' : Hp} (f : ∀ p o, p ∉ ms → H p = some o → p ∉ ms' ∧ H' p = some o) : ∀ (ds : List D) (us : List V), repL ms H ds us → repL ms' H' ds us
  | [], us, h => by
    simp only [repL] at h ⊢
    exact h
  | d :: ds, us, h => by
    simp only [repL] at h ⊢
    obtain ⟨u, vs, e, h1, h2⟩ := h
    exact ⟨u, vs, e, rep_map f d u h1, repL_map f ds vs h2⟩
end

theorem repL_len {ms : List Addr} {H : Hp} : ∀ {ds : List D} {vs : List V}, repL ms H ds vs → ds.length = vs.length
  | [], vs, h => by
    simp only [repL] at h
    rw [h]
    rfl
  | d :: ds, vs, h => by
    simp only [repL] at h
    obtain ⟨u, us, e, _, h2⟩ := h
    rw [e]
    show ds.length + 1 = us.length + 1
    rw [repL_len h2]
theorem repL_get {ms : List Addr} {H : Hp} : ∀ {ds : List D} {vs : List V} {j : Nat} {d : D}, repL ms H ds vs → ds[j]? = some d → ∃ v, vs[j]? = some v ∧ rep ms H d v
  | [], vs, j, d, h, e => by simp at e
  | d0 :: ds, vs, 0, d, h, e => by
    simp only [repL] at h
    obtain ⟨u, us, rfl, h1, _⟩ := h
    have e' : d0 = d := Option.some.inj e
    subst e'
    exact ⟨u, rfl, h1⟩
  | d0 :: ds, vs, j + 1, d, h, e => by
    simp only [repL] at h
    obtain ⟨u, us, rfl, _, h2⟩ := h
    exact repL_get (j := j) h2 (by simpa using e)
theorem repL_app {ms : List Addr} {H : Hp} : ∀ {ds es : List D} {vs us : List V}, repL ms H ds vs → repL ms H es us → repL ms H (ds ++ es) (vs ++ us)
  | [], es, vs, us, h, h' => by
    simp only [repL] at h
    rw [h]
    exact h'
  | d :: ds, es, vs, us, h, h' => by
    simp only [repL] at h
    obtain ⟨u, ws, rfl, h1, h2⟩ := h
    show repL ms H (d :: (ds ++ es)) (u :: (ws ++ us))
    simp only [repL]
    exact ⟨u, ws ++ us, rfl, h1, repL_app h2 h'⟩
theorem repL_one {ms : List Addr} {H : Hp} {d : D} {u : V} (h : rep ms H d u) : repL ms H [d] [u] := by
  simp only [repL]
  exact ⟨u, [], rfl, h, rfl⟩
theorem repL_nil {ms : List Addr} {H : Hp} : repL ms H [] [] := by simp only [repL]
theorem repL_cons {ms : List Addr} {H : Hp} {d : D} {u : V} {ds : List D} {us : List V} (h : rep ms H d u) (t : repL ms H ds us) : repL ms H (d :: ds) (u :: us) := by
  simp only [repL]
  exact ⟨u, us, rfl, h, t⟩
theorem rep_v {ms : List Addr} {H : Hp} {x : V} : rep ms H (.v x) x := by simp only [rep]
theorem of_v {ms : List Addr} {H : Hp} {x u : V} (h : rep ms H (.v x) u) : u = x := by
  simp only [rep] at h
  exact h
/-- a list of flat values -/
theorem repL_flat {ms : List Addr} {H : Hp} : ∀ {xs vs : List V}, repL ms H (xs.map D.v) vs ↔ vs = xs
  | [], vs => by simp only [List.map_nil, repL]
  | x :: xs, vs => by
    simp only [List.map_cons, repL]
    constructor
    · rintro ⟨u, us, rfl, h1, h2⟩
      rw [of_v h1, repL_flat.mp h2]
    · rintro rfl
      exact ⟨x, xs, rfl, rep_v, repL_flat.mpr rfl⟩

/-! ### frames -/
def PotH (H : Hp) (a : Addr) : Prop := ∃ i j : Int, H a = some (.lst [.int i, .int j]) ∧ j.natAbs < 4294967296
structure Ret (ps : List Addr) (H H' : Hp) : Prop where
  kp : ∀ a o, a ∉ ps → H a = some o → H' a = some o
  pot : ∀ a ∈ ps, PotH H' a
  grow : ∀ a, H a ≠ none → H' a ≠ none
abbrev Ext (H H' : Hp) : Prop := Ret [] H H'
theorem Ret.rfl0 {H : Hp} : Ret [] H H := ⟨fun _ _ _ h => h, fun _ h => absurd h List.not_mem_nil, fun _ h => h⟩
theorem Ext.keep {H H' : Hp} (e : Ext H H') {a : Addr} {o : HO} (h : H a = some o) : H' a = some o := e.kp a o (by simp) h
theorem Ext.new {H : Hp} {p : Addr} {o : HO} (np : H p = none) : Ext H (upd H p o) := by
  refine ⟨fun a u _ h => ?_, fun _ h => absurd h List.not_mem_nil, fun a h => ?_⟩
  · rw [upd_ne (ne_of_none h np)]
    exact h
  · by_cases e : a = p
    · rw [e, upd_same]
      exact fun z => nomatch z
    · rw [upd_ne e]
      exact h
theorem newH {H : Hp} {o : HO} {Q : V → Hp → Prop} (h : ∀ p H', H p = none → Ext H H' → H' p = some o → Q (.ref p) H') : ∀ p, H p = none → Q (.ref p) (upd H p o) :=
  fun p np => h p _ np (Ext.new np) upd_same

structure Wd (ms ps : List Addr) (cs : List (Addr × List V)) (H0 H : Hp) : Prop where
  kp : ∀ a o, a ∉ ps → H0 a = some o → H a = some o
  grow : ∀ a, H0 a ≠ none → H a ≠ none
  tr : ∀ m ∈ ms, H m ≠ none
  pot : ∀ a ∈ ps, PotH H a
  pm : ∀ a ∈ ps, a ∈ ms
  cel : ∀ c ∈ cs, H c.1 = some (.lst c.2) ∧ c.1 ∈ ms ∧ c.1 ∉ ps ∧ H0 c.1 = none

section
variable {ms ps ps' : List Addr} {cs : List (Addr × List V)} {H0 H H' : Hp} {d : D} {u : V}
theorem Wd.ret (hs : ∀ a ∈ ps', a ∈ ps) (w : Wd ms ps cs H0 H) (e : Ret ps' H H') : Wd ms ps cs H0 H' where
  kp := fun a o n h => e.kp a o (fun z => n (hs a z)) (w.kp a o n h)
  grow := fun a h => e.grow a (w.grow a h)
  tr := fun m h => e.grow m (w.tr m h)
  pot := fun a h => by
    by_cases z : a ∈ ps'
    · exact e.pot a z
    · obtain ⟨i, j, h1, h2⟩ := w.pot a h
      exact ⟨i, j, e.kp a _ z h1, h2⟩
  pm := w.pm
  cel := fun c h => by
    obtain ⟨h1, h2, h3, h4⟩ := w.cel c h
    exact ⟨e.kp _ _ (fun z => h3 (hs _ z)) h1, h2, h3, h4⟩
theorem Wd.ret0 (w : Wd ms ps cs H0 H) (e : Ret [] H H') : Wd ms ps cs H0 H' := w.ret (fun _ h => absurd h List.not_mem_nil) e
theorem Wd.retP (w : Wd ms ps cs H0 H) (e : Ret ps H H') : Wd ms ps cs H0 H' := w.ret (fun _ h => h) e
theorem Wd.enter0 (w : Wd ms ps cs H0 H) : Wd ms [] [] H H := ⟨fun _ _ _ h => h, fun _ h => h, w.tr, fun _ h => absurd h List.not_mem_nil, fun _ h => absurd h List.not_mem_nil, fun _ h => absurd h List.not_mem_nil⟩
theorem Wd.enterP (w : Wd ms ps cs H0 H) : Wd ms ps [] H H := ⟨fun _ _ _ h => h, fun _ h => h, w.tr, w.pot, w.pm, fun _ h => absurd h List.not_mem_nil⟩
theorem Wd.out (w : Wd ms ps cs H0 H) : Ret ps H0 H := ⟨w.kp, w.pot, w.grow⟩
theorem rep_ret (w : Wd ms ps cs H0 H) (e : Ret ps H H') (h : rep ms H d u) : rep ms H' d u := rep_map (fun p o n hp => ⟨n, e.kp p o (fun z => n (w.pm p z)) hp⟩) d u h
theorem rep_ext (e : Ret [] H H') (h : rep ms H d u) : rep ms H' d u := rep_map (fun p o n hp => ⟨n, e.kp p o (by simp) hp⟩) d u h
theorem repL_ret {ds : List D} {us : List V} (w : Wd ms ps cs H0 H) (e : Ret ps H H') (h : repL ms H ds us) : repL ms H' ds us := repL_map (fun p o n hp => ⟨n, e.kp p o (fun z => n (w.pm p z)) hp⟩) ds us h
theorem repL_ext {ds : List D} {us : List V} (e : Ret [] H H') (h : repL ms H ds us) : repL ms H' ds us := repL_map (fun p o n hp => ⟨n, e.kp p o (by simp) hp⟩) ds us h
/-- a new cell -/
theorem Wd.cell {l : Addr} {xs : List V} (w : Wd ms ps cs H0 H) (nl : H l = none) : Wd (l :: ms) ps ((l, xs) :: cs) H0 (upd H l (.lst xs)) := by
  have e : Ext H (upd H l (.lst xs)) := Ext.new nl
  have w1 := w.ret0 e
  refine ⟨w1.kp, w1.grow, fun m h => ?_, w1.pot, fun a h => List.mem_cons_of_mem _ (w.pm a h), fun c h => ?_⟩
  · rcases List.mem_cons.mp h with rfl | h
    · rw [upd_same]
      exact fun z => nomatch z
    · exact w1.tr m h
  · rcases List.mem_cons.mp h with rfl | h
    · refine ⟨upd_same, List.mem_cons_self, fun z => ?_, ?_⟩
      · obtain ⟨i, j, h1, _⟩ := w.pot _ z
        rw [nl] at h1
        cases h1
      · show H0 l = none
        cases q : H0 l with
        | none => rfl
        | some o => exact absurd nl (w.grow l (by rw [q]; exact fun z => nomatch z))
    · obtain ⟨h1, h2, h3, h4⟩ := w1.cel c h
      exact ⟨h1, List.mem_cons_of_mem _ h2, h3, h4⟩
theorem rep_cell {l : Addr} {o : HO} (nl : H l = none) (h : rep ms H d u) : rep (l :: ms) (upd H l o) d u := by
  refine rep_map (fun p o n hp => ?_) d u h
  have ne : p ≠ l := ne_of_none hp nl
  refine ⟨fun z => ?_, by rw [upd_ne ne]; exact hp⟩
  rcases List.mem_cons.mp z with z | z
  · exact ne z
  · exact n z
/-- a cell's store -/
theorem Wd.put {l : Addr} {xs ys : List V} (w : Wd ms ps ((l, xs) :: cs) H0 H) (hn : ∀ c ∈ cs, c.1 ≠ l) : Wd ms ps ((l, ys) :: cs) H0 (upd H l (.lst ys)) := by
  obtain ⟨hl, lm, lp, l0⟩ := w.cel _ List.mem_cons_self
  refine ⟨fun a o n h => ?_, fun a h => ?_, fun m h => ?_, fun a h => ?_, w.pm, fun c h => ?_⟩
  · rw [upd_ne (ne_of_none h l0)]
    exact w.kp a o n h
  · by_cases e : a = l
    · rw [e, upd_same]
      exact fun z => nomatch z
    · rw [upd_ne e]
      exact w.grow a h
  · by_cases e : m = l
    · rw [e, upd_same]
      exact fun z => nomatch z
    · rw [upd_ne e]
      exact w.tr m h
  · obtain ⟨i, j, h1, h2⟩ := w.pot a h
    exact ⟨i, j, by rw [upd_ne (fun z => lp (by rw [← z]; exact h))]; exact h1, h2⟩
  · rcases List.mem_cons.mp h with rfl | h
    · exact ⟨upd_same, lm, lp, l0⟩
    · obtain ⟨h1, h2, h3, h4⟩ := w.cel c (List.mem_cons_of_mem _ h)
      exact ⟨by rw [upd_ne (hn c h)]; exact h1, h2, h3, h4⟩
theorem rep_put {l : Addr} {o : HO} (lm : l ∈ ms) (h : rep ms H d u) : rep ms (upd H l o) d u :=
  rep_map (fun p o n hp => ⟨n, by rw [upd_ne (fun z => n (by rw [z]; exact lm))]; exact hp⟩) d u h
theorem repL_put {ds : List D} {us : List V} {l : Addr} {o : HO} (lm : l ∈ ms) (h : repL ms H ds us) : repL ms (upd H l o) ds us :=
  repL_map (fun p o n hp => ⟨n, by rw [upd_ne (fun z => n (by rw [z]; exact lm))]; exact hp⟩) ds us h
/-- the newest cell is a list for good -/
theorem Wd.froze {l : Addr} {xs : List V} (w : Wd (l :: ms) ps ((l, xs) :: cs) H0 H) (hp : ∀ a ∈ ps, a ∈ ms) (hc : ∀ c ∈ cs, c.1 ∈ ms) : Wd ms ps cs H0 H :=
  ⟨w.kp, w.grow, fun m h => w.tr m (List.mem_cons_of_mem _ h), w.pot, hp, fun c h => by
    obtain ⟨h1, _, h3, h4⟩ := w.cel c (List.mem_cons_of_mem _ h)
    exact ⟨h1, hc c h, h3, h4⟩⟩
theorem rep_weak {l : Addr} (h : rep (l :: ms) H d u) : rep ms H d u := rep_map (fun p o n hp => ⟨fun z => n (List.mem_cons_of_mem _ z), hp⟩) d u h
theorem repL_weak {ds : List D} {us : List V} {l : Addr} (h : repL (l :: ms) H ds us) : repL ms H ds us := repL_map (fun p o n hp => ⟨fun z => n (List.mem_cons_of_mem _ z), hp⟩) ds us h
end

/-! ### a reading may be weakened at its end: the places where ways are joined -/
def upE (t : TE) : TE := fun σ H Q => ∃ Q' : VK, t σ H Q' ∧ ∀ v H', Q' v H' → Q v H'
def upT (t : TT) : TT := fun σ H Q => ∃ Q' : Bool → Hp → Prop, t σ H Q' ∧ ∀ b H', Q' b H' → Q b H'
def upS (t : TS) : TS := fun D σ H => ∃ N : L2.St → Hp → Prop, t { D with nx := N } σ H ∧ ∀ σ' H', N σ' H' → D.nx σ' H'
section
variable {X : Cx}
theorem pe_up {e : Expr} {t : TE} (h : PE X e t) : PE X e (upE t) := ⟨fun pins s σ H Q I ⟨Q', hq, m⟩ => thn (h.run pins s σ H Q' I hq) fun u s' ⟨v, H', I', r, q⟩ => ⟨v, H', I', r, m v H' q⟩⟩
theorem pt_up {e : Expr} {t : TT} (h : PT X e t) : PT X e (upT t) := ⟨fun pins s σ H Q I ⟨Q', hq, m⟩ => thn (h.run pins s σ H Q' I hq) fun u s' ⟨H', I', q⟩ => ⟨H', I', m u H' q⟩⟩
theorem ps_up {st : Stmt} {t : TS} (h : PS X st t) : PS X st (upS t) := ⟨fun pins s σ H D I ⟨N, hq, m⟩ => thn (h.run pins s σ H _ I hq) fun f s' q => by
  cases f with
  | next => obtain ⟨σ', H', I', n⟩ := q; exact ⟨σ', H', I', m _ _ n⟩
  | brk => exact q
  | cont => exact q
  | ret u => exact q⟩
end

/-! ### loops by data -/
def mapC {α β : Type} (body : α → (β → Prop) → Prop) : List α → List β → (List β → Prop) → Prop
  | [], acc, k => k acc
  | x :: xs, acc, k => body x fun y => mapC body xs (acc ++ [y]) k
def filC {α β : Type} (body : α → (Option β → Prop) → Prop) : List α → List β → (List β → Prop) → Prop
  | [], acc, k => k acc
  | x :: xs, acc, k => body x fun o => match o with
    | some y => filC body xs (acc ++ [y]) k
    | none => filC body xs acc k
def forC {α S : Type} (body : α → S → (S → Prop) → Prop) : List α → S → (S → Prop) → Prop
  | [], s, k => k s
  | x :: xs, s, k => body x s fun s' => forC body xs s' k
def whileC {S : Type} (body : S → (S → Prop) → (S → Prop) → Prop) : Nat → S → (S → Prop) → Prop
  | 0, _, _ => False
  | n + 1, s, k => body s (fun s' => whileC body n s' k) k
def rangeI (lo hi : Int) : List Int := (List.range (hi - lo).toNat).map fun i => lo + ((i : Nat) : Int)
theorem rangeI_len {lo hi : Int} : (rangeI lo hi).length = (hi - lo).toNat := by simp [rangeI]
theorem rangeI_get {lo hi : Int} {i : Nat} (h : i < (hi - lo).toNat) : (rangeI lo hi)[i]? = some (lo + (i : Int)) := by
  simp [rangeI, List.getElem?_map, List.getElem?_range h]
theorem drop_cons' {α : Type} {xs : List α} {i : Nat} {x : α} (h : xs[i]? = some x) : xs.drop i = x :: xs.drop (i + 1) := by
  obtain ⟨h1, h2⟩ := List.getElem?_eq_some_iff.mp h
  rw [List.drop_eq_getElem_cons h1, h2]

/-- what a loop keeps of all that it does not change -/
def Keep (ms : List Addr) (H H' : Hp) : Prop := ∀ a o, a ∉ ms → H a = some o → H' a = some o
section
variable {ms ps : List Addr} {cs : List (Addr × List V)} {H0 H H1 H' : Hp} {d : D} {u : V}
theorem Keep.refl : Keep ms H H := fun _ _ _ h => h
theorem keep_ret (w : Wd ms ps cs H0 H) (e : Ret ps H H') (k : Keep ms H1 H) : Keep ms H1 H' := fun a o n h => e.kp a o (fun z => n (w.pm a z)) (k a o n h)
theorem keep_ext (e : Ret [] H H') (k : Keep ms H1 H) : Keep ms H1 H' := fun a o n h => e.kp a o (by simp) (k a o n h)
theorem keep_cell {l : Addr} {o : HO} (nl : H l = none) (k : Keep ms H1 H) : Keep (l :: ms) H1 (upd H l o) := fun a u n h => by
  rw [upd_ne (fun z => n (by rw [z]; exact List.mem_cons_self))]
  exact k a u (fun z => n (List.mem_cons_of_mem _ z)) h
theorem keep_put {l : Addr} {o : HO} (lm : l ∈ ms) (k : Keep ms H1 H) : Keep ms H1 (upd H l o) := fun a u n h => by
  rw [upd_ne (fun z => n (by rw [z]; exact lm))]
  exact k a u n h
theorem rep_keep (k : Keep ms H H') (h : rep ms H d u) : rep ms H' d u := rep_map (fun p o n hp => ⟨n, k p o n hp⟩) d u h
theorem repL_keep {ds : List D} {us : List V} (k : Keep ms H H') (h : repL ms H ds us) : repL ms H' ds us := repL_map (fun p o n hp => ⟨n, k p o n hp⟩) ds us h
theorem at_keep {a : Addr} {o : HO} (k : Keep ms H H') (n : a ∉ ms) (h : H a = some o) : H' a = some o := k a o n h
end

theorem ite3 {c : Prop} [Decidable c] {A B P R : Prop} (h : if c then A else B) (h1 : A → P) (h2 : B → R) : if c then P else R := by
  by_cases q : c
  · rw [if_pos q] at h ⊢
    exact h1 h
  · rw [if_neg q] at h ⊢
    exact h2 h

section
variable {K : PySem.W.Frag} {ms ps : List Addr} {cs : List (Addr × List V)} {H0 H : Hp} {d : D} {u x : V}
/-! ### readings by data -/
theorem rep_fld {C : Addr} {ns : List Str} {ds : List D} {f : Str} {Q : VK} {j : Nat} (h : rep ms H (.ins C ns ds) x) (c : Cls K C) (n : NoAttr K C f) (nd : ns.Nodup) (hn : ns[j]? = some f) (hd : ds[j]? = some d) (k : ∀ v, rep ms H d v → Q v H) :
    ∃ a C dx fs v, x = .ref a ∧ H a = some (.ins C dx fs) ∧ Cls K C ∧ NoAttr K C f ∧ fs.lookup f = some v ∧ Q v H := by
  simp only [rep] at h
  obtain ⟨p, dx, vs, e, _, hp, hl, hr⟩ := h
  obtain ⟨v, hv, rv⟩ := repL_get hr hd
  refine ⟨p, C, dx, _, v, e, hp, c, n, ?_, k v rv⟩
  clear hr hd hp e k rv
  induction ns generalizing vs j with
  | nil => simp at hn
  | cons n0 ns ih =>
    cases vs with
    | nil => simp at hv
    | cons v0 vs =>
      cases j with
      | zero =>
        have e1 : n0 = f := Option.some.inj hn
        have e2 : v0 = v := Option.some.inj hv
        subst e1 e2
        simp [List.lookup]
      | succ j =>
        have hn' : ns[j]? = some f := by simpa using hn
        have hv' : vs[j]? = some v := by simpa using hv
        have ne : f ≠ n0 := fun z => by
          subst z
          exact (List.nodup_cons.mp nd).1 (List.mem_of_getElem? hn')
        show ((n0, v0) :: ns.zip vs).lookup f = some v
        rw [List.lookup_cons, show (f == n0) = false from beq_eq_false_iff_ne.mpr ne]
        exact ih (List.nodup_cons.mp nd).2 hn' vs (by simpa using hl) hv'
theorem lookup_zip_none {m : Str} : ∀ {ns : List Str} {vs : List V}, m ∉ ns → (ns.zip vs).lookup m = none
  | [], vs, _ => by simp
  | n :: ns, [], _ => by simp
  | n :: ns, v :: vs, h => by
    show ((n, v) :: ns.zip vs).lookup m = none
    rw [List.lookup_cons, show (m == n) = false from beq_eq_false_iff_ne.mpr fun z => h (by rw [z]; exact List.mem_cons_self)]
    exact lookup_zip_none fun z => h (List.mem_cons_of_mem _ z)
theorem rep_meth {C : Addr} {ns : List Str} {ds : List D} {m : Str} {P : Hp → Prop} (h : rep ms H (.ins C ns ds) x) (hm : m ∉ ns) (k : P H) : ∃ a dx fs, x = .ref a ∧ H a = some (.ins C dx fs) ∧ fs.lookup m = none ∧ P H := by
  simp only [rep] at h
  obtain ⟨p, dx, vs, e, _, hp, hl, hr⟩ := h
  exact ⟨p, dx, _, e, hp, lookup_zip_none hm, k⟩
theorem rep_prop {C : Addr} {ns : List Str} {ds : List D} {P : Addr → Prop} (h : rep ms H (.ins C ns ds) x) (k : ∀ a, rep ms H (.ins C ns ds) (.ref a) → P a) : ∃ a dx fs, x = .ref a ∧ H a = some (.ins C dx fs) ∧ P a := by
  have h' := h
  simp only [rep] at h
  obtain ⟨p, dx, vs, e, _, hp, hl, hr⟩ := h
  subst e
  exact ⟨p, dx, _, rfl, hp, k p h'⟩
/-- t[j], j written -/
theorem rep_ixT {ds : List D} {i : Int} (j : Nat) {σ : L2.St} {Q : VK} (h : rep ms H (.tup ds) x) (hi : i = (j : Int)) (hd : ds[j]? = some d) (k : ∀ v, rep ms H d v → Q v H) : tC (V.int i) σ H fun y H2 => rIxT K x y H2 Q := by
  subst hi
  simp only [rep] at h
  obtain ⟨p, vs, e, _, hp, hr⟩ := h
  obtain ⟨v, hv, rv⟩ := repL_get hr hd
  exact ⟨p, vs, _, v, e, rfl, .inl (.inl hp), atI_nat hv, k v rv⟩
/-- xs[i] -/
theorem rep_ixL {α : Type} {e : α → D} {xs : List α} {i : Int} {Q : VK} (h : rep ms H (.lst (xs.map e)) x) (h0 : 0 ≤ i) (hi : i.toNat < xs.length) (k : ∀ v, rep ms H (e (xs[i.toNat]'hi)) v → Q v H) : rIxL K x (.int i) H Q := by
  simp only [rep] at h
  obtain ⟨p, vs, e', _, hp, hr⟩ := h
  obtain ⟨v, hv, rv⟩ := repL_get (d := e (xs[i.toNat]'hi)) hr (by rw [List.getElem?_map, List.getElem?_eq_getElem hi]; rfl)
  refine ⟨p, vs, i, v, e', rfl, .inl (.inl hp), at_of (j := i.toNat) (by omega) hv, k v rv⟩
theorem rep_lenL {α : Type} {e : α → D} {xs : List α} {P : Nat → Prop} (h : rep ms H (.lst (xs.map e)) x) (k : P xs.length) : ∃ y n, [x] = [y] ∧ LenV K y H n ∧ P n := by
  simp only [rep] at h
  obtain ⟨p, vs, e', _, hp, hr⟩ := h
  subst e'
  have hl := repL_len hr
  rw [List.length_map] at hl
  exact ⟨_, xs.length, rfl, .inl ⟨vs, .inl (.inl hp), hl⟩, k⟩
theorem rep_iter {ds : List D} {P : Addr → Prop} (h : rep ms H (.lst ds) x) (k : ∀ a xs, x = .ref a → a ∉ ms → H a = some (.lst xs) → repL ms H ds xs → P a) : ∃ a, x = .ref a ∧ (∃ xs, SqL K H a xs) ∧ P a := by
  simp only [rep] at h
  obtain ⟨p, vs, e, n, hp, hr⟩ := h
  exact ⟨p, e, ⟨vs, .inl (.inl hp)⟩, k p vs e n hp hr⟩
theorem rep_gtup {ds : List D} {n : Nat} {Q : L2.St → Hp → Prop} {t : TGs} {σ : L2.St} (h : rep ms H (.tup ds) x) (hn : ds.length = n) (k : ∀ vs, repL ms H ds vs → t vs σ H Q) : ∃ a xs, x = .ref a ∧ SqT K H a xs ∧ xs.length = n ∧ t xs σ H Q := by
  simp only [rep] at h
  obtain ⟨p, vs, e, _, hp, hr⟩ := h
  exact ⟨p, vs, e, .inl (.inl hp), by rw [← repL_len hr]; exact hn, k vs hr⟩
theorem rep_tup_mk {p : Addr} {ds : List D} {vs : List V} (w : Wd ms ps cs H0 H) (np : H p = none) (e : Ext H H') (hp : H' p = some (.tup vs)) (hr : repL ms H ds vs) : rep ms H' (.tup ds) (.ref p) := by
  simp only [rep]
  exact ⟨p, vs, rfl, fun z => w.tr p z np, hp, repL_ext e hr⟩
theorem rep_lst_mk {p : Addr} {ds : List D} {vs : List V} (w : Wd ms ps cs H0 H) (np : H p = none) (e : Ext H H') (hp : H' p = some (.lst vs)) (hr : repL ms H ds vs) : rep ms H' (.lst ds) (.ref p) := by
  simp only [rep]
  exact ⟨p, vs, rfl, fun z => w.tr p z np, hp, repL_ext e hr⟩
end

/-! ### comprehensions -/
section
variable {α β : Type} {K : PySem.W.Frag} {ms ps : List Addr} {cs : List (Addr × List V)} {H0 H1 : Hp} {g : TG} {tt : TT} {te : TE} {vl : List Nat} {σ : L2.St} {Qd : Hp → Prop}
/-- where a turn begins: the new list at L holds what is made so far -/
structure Trn (ms ps : List Addr) (cs : List (Addr × List V)) (H0 H1 : Hp) (L : Addr) (eb : β → D) (n : Nat) (ys : List β) (vs : List V) (H : Hp) : Prop where
  w : Wd (L :: ms) ps ((L, vs) :: cs) H0 H
  k : Keep (L :: ms) H1 H
  r : repL (L :: ms) H (ys.map eb) vs
  n : ys.length ≤ n
theorem Trn.add {L : Addr} {eb : β → D} {n : Nat} {ys : List β} {vs : List V} {H : Hp} {y : β} {u : V} (hc : ∀ c ∈ cs, c.1 ≠ L) (w : Wd (L :: ms) ps ((L, vs) :: cs) H0 H) (k : Keep (L :: ms) H1 H) (r : repL (L :: ms) H (ys.map eb) vs) (hn : ys.length ≤ n) (hr : rep (L :: ms) H (eb y) u) :
    Trn ms ps cs H0 H1 L eb (n + 1) (ys ++ [y]) (vs ++ [u]) (upd H L (.lst (vs ++ [u]))) := by
  refine ⟨w.put hc, keep_put List.mem_cons_self k, ?_, by rw [List.length_append]; exact Nat.add_le_add_right hn 1⟩
  rw [List.map_append]
  exact repL_put List.mem_cons_self (repL_app r (repL_one hr))
theorem new_ne {L : Addr} (w : Wd ms ps cs H0 H1) (nl : H1 L = none) : ∀ c ∈ cs, c.1 ≠ L := fun c h z => by
  have q := (w.cel c h).1
  rw [z, nl] at q
  cases q
theorem Trn.start {L : Addr} {eb : β → D} (w : Wd ms ps cs H0 H1) (nl : H1 L = none) : Trn ms ps cs H0 H1 L eb 0 [] [] (upd H1 L (.lst [])) :=
  ⟨w.cell nl, fun a o n h => by rw [upd_ne (ne_of_none h nl)]; exact h, repL_nil, Nat.le_refl _⟩
theorem Trn.done {L : Addr} {eb : β → D} {n : Nat} {ys : List β} {vs : List V} {H : Hp} (w : Wd ms ps cs H0 H1) (nl : H1 L = none) (t : Trn ms ps cs H0 H1 L eb n ys vs H) : Wd ms ps cs H0 H ∧ Keep ms H1 H ∧ rep ms H (.lst (ys.map eb)) (.ref L) := by
  refine ⟨t.w.froze w.pm fun c h => (w.cel c h).2.1, fun a o n h => t.k a o (fun z => ?_) h, ?_⟩
  · rcases List.mem_cons.mp z with z | z
    · rw [z, nl] at h
      cases h
    · exact n z
  · simp only [rep]
    exact ⟨L, vs, rfl, fun z => w.tr L z nl, (t.w.cel _ List.mem_cons_self).1, repL_weak t.r⟩

/-- [e for x in range(lo, hi)] -/
theorem lc_rangeC {lo hi : Int} {N : Nat} {L : Addr} {eb : β → D} {body : Int → (β → Prop) → Prop} {KM : List β → Prop} (hN : N = (hi - lo).toNat) (w : Wd ms ps cs H0 H1) (nl : H1 L = none) (hM : (rangeI lo hi).length < 100000 ∧ mapC body (rangeI lo hi) [] KM)
    (hs : ∀ (x : Int) (n : Nat) (ys : List β) (vs : List V) (k : β → Prop) (H : Hp), n < 100000 → Trn ms ps cs H0 H1 L eb n ys vs H → body x k → ∀ Nx : Hp → Prop, (∀ y vs' H', k y → Trn ms ps cs H0 H1 L eb (n + 1) (ys ++ [y]) vs' H' → Nx H') →
      g (.int x) (wipe σ vl) H fun σ2 H2 => wipe σ2 vl = wipe σ vl ∧ tt σ2 H2 fun b H3 => if b = true then te σ2 H3 fun y H4 => ∃ acc, H4 L = some (.lst acc) ∧ acc.length < sizeLine ∧ Nx (upd H4 L (.lst (acc ++ [y]))) else Nx H3)
    (hd : ∀ ys H, KM ys → Wd ms ps cs H0 H → Keep ms H1 H → rep ms H (.lst (ys.map eb)) (.ref L) → Qd H) :
    ∃ W : Nat → Nat → Hp → Prop, (∃ m, W 0 m (upd H1 L (.lst []))) ∧ ∀ i m H, W i m H →
      ((Itr lo N).stop i H ∧ Qd H) ∨ ((Itr lo N).go i H ∧ ∃ Nx : Hp → Prop, (∀ H', Nx H' → ∃ m', m' < m ∧ W (i + 1) m' H') ∧ ∀ x H', (Itr lo N).yld i H x H' → g x (wipe σ vl) H' fun σ2 H2 => wipe σ2 vl = wipe σ vl ∧ tt σ2 H2 fun b H3 =>
        if b = true then te σ2 H3 fun y H4 => ∃ acc, H4 L = some (.lst acc) ∧ acc.length < sizeLine ∧ Nx (upd H4 L (.lst (acc ++ [y]))) else Nx H3) := by
  obtain ⟨hn, hM⟩ := hM
  subst hN
  rw [rangeI_len] at hn
  refine ⟨fun i m H => m = (hi - lo).toNat - i ∧ i ≤ (hi - lo).toNat ∧ ∃ ys vs, Trn ms ps cs H0 H1 L eb i ys vs H ∧ mapC body ((rangeI lo hi).drop i) ys KM, ⟨_, rfl, Nat.zero_le _, [], [], Trn.start w nl, hM⟩, ?_⟩
  rintro i m H ⟨rfl, hi', ys, vs, T, q⟩
  by_cases hlt : i < (hi - lo).toNat
  · refine .inr ⟨hlt, fun H' => i + 1 ≤ (hi - lo).toNat ∧ ∃ ys vs, Trn ms ps cs H0 H1 L eb (i + 1) ys vs H' ∧ mapC body ((rangeI lo hi).drop (i + 1)) ys KM, fun H' p' => ⟨_, by omega, rfl, p'⟩, fun x H' y => ?_⟩
    obtain ⟨e, y⟩ := y
    subst e y
    rw [drop_cons' (rangeI_get hlt)] at q
    exact hs _ i ys vs _ H' (by omega) T q _ fun y vs' H' k T' => ⟨hlt, _, _, T', k⟩
  · have e : i = (hi - lo).toNat := by omega
    refine .inl ⟨by rw [e]; exact Nat.le_refl _, ?_⟩
    have q' : KM ys := by
      rw [List.drop_of_length_le (by rw [rangeI_len]; omega)] at q
      exact q
    obtain ⟨w', k', r'⟩ := T.done w nl
    exact hd ys H q' w' k' r'
/-- [e for x in xs] -/
theorem lc_listC {items : List α} {a : Addr} {xs : List V} {L : Addr} {e : α → D} {eb : β → D} {body : α → (β → Prop) → Prop} {KM : List β → Prop} (w : Wd ms ps cs H0 H1) (an : a ∉ ms) (ha : H1 a = some (.lst xs)) (hx : repL ms H1 (items.map e) xs) (nl : H1 L = none) (hM : items.length < 100000 ∧ mapC body items [] KM)
    (hs : ∀ (x : α) (u : V) (n : Nat) (ys : List β) (vs : List V) (k : β → Prop) (H : Hp), n < 100000 → Trn ms ps cs H0 H1 L eb n ys vs H → rep (L :: ms) H (e x) u → body x k → ∀ Nx : Hp → Prop, (∀ y vs' H', k y → Trn ms ps cs H0 H1 L eb (n + 1) (ys ++ [y]) vs' H' → Nx H') →
      g u (wipe σ vl) H fun σ2 H2 => wipe σ2 vl = wipe σ vl ∧ tt σ2 H2 fun b H3 => if b = true then te σ2 H3 fun y H4 => ∃ acc, H4 L = some (.lst acc) ∧ acc.length < sizeLine ∧ Nx (upd H4 L (.lst (acc ++ [y]))) else Nx H3)
    (hd : ∀ ys H, KM ys → Wd ms ps cs H0 H → Keep ms H1 H → rep ms H (.lst (ys.map eb)) (.ref L) → Qd H) :
    ∃ W : Nat → Nat → Hp → Prop, (∃ m, W 0 m (upd H1 L (.lst []))) ∧ ∀ i m H, W i m H →
      ((Itl K a).stop i H ∧ Qd H) ∨ ((Itl K a).go i H ∧ ∃ Nx : Hp → Prop, (∀ H', Nx H' → ∃ m', m' < m ∧ W (i + 1) m' H') ∧ ∀ x H', (Itl K a).yld i H x H' → g x (wipe σ vl) H' fun σ2 H2 => wipe σ2 vl = wipe σ vl ∧ tt σ2 H2 fun b H3 =>
        if b = true then te σ2 H3 fun y H4 => ∃ acc, H4 L = some (.lst acc) ∧ acc.length < sizeLine ∧ Nx (upd H4 L (.lst (acc ++ [y]))) else Nx H3) := by
  obtain ⟨hn, hM⟩ := hM
  have hl : items.length = xs.length := by
    have := repL_len hx
    rwa [List.length_map] at this
  have aL : a ≠ L := ne_of_none ha nl
  have hx1 : repL (L :: ms) (upd H1 L (.lst [])) (items.map e) xs := repL_map (fun p o n hp => ⟨fun z => by
    rcases List.mem_cons.mp z with z | z
    · exact ne_of_none hp nl z
    · exact n z, by rw [upd_ne (ne_of_none hp nl)]; exact hp⟩) _ _ hx
  have aM : a ∉ L :: ms := fun z => by
    rcases List.mem_cons.mp z with z | z
    · exact aL z
    · exact an z
  refine ⟨fun i m H => m = xs.length - i ∧ i ≤ xs.length ∧ ∃ ys vs, Trn ms ps cs H0 H1 L eb i ys vs H ∧ Keep (L :: ms) (upd H1 L (.lst [])) H ∧ mapC body (items.drop i) ys KM, ⟨_, rfl, Nat.zero_le _, [], [], Trn.start w nl, Keep.refl, hM⟩, ?_⟩
  rintro i m H ⟨rfl, hi', ys, vs, T, kp, q⟩
  have hA : H a = some (.lst xs) := kp a _ aM (by rw [upd_ne aL]; exact ha)
  by_cases hlt : i < xs.length
  · refine .inr ⟨⟨xs, xs[i], .inl (.inl hA), by simp [hlt]⟩, fun H' => i + 1 ≤ xs.length ∧ ∃ ys vs, Trn ms ps cs H0 H1 L eb (i + 1) ys vs H' ∧ Keep (L :: ms) (upd H1 L (.lst [])) H' ∧ mapC body (items.drop (i + 1)) ys KM, fun H' p' => ⟨_, by omega, rfl, p'⟩, fun x H' y => ?_⟩
    obtain ⟨e1, y⟩ := y
    subst e1
    have hxi := y xs (.inl (.inl hA))
    have hit : items[i]? = some (items[i]'(by omega)) := List.getElem?_eq_getElem (by omega)
    rw [drop_cons' hit] at q
    obtain ⟨v, hv, rv⟩ := repL_get (repL_keep kp hx1) (j := i) (d := e (items[i]'(by omega))) (by rw [List.getElem?_map, hit]; rfl)
    rw [hxi] at hv
    have ev : x = v := Option.some.inj hv
    subst ev
    refine hs _ x i ys vs _ H' (by omega) T rv q _ fun y vs' H'' k T' => ⟨hlt, _, _, T', fun b o n hb => ?_, k⟩
    by_cases e3 : b = L
    · exact absurd (by rw [e3]; exact List.mem_cons_self) n
    · rw [upd_ne e3] at hb
      exact T'.k b o n hb
  · have e1 : i = xs.length := by omega
    refine .inl ⟨⟨xs, .inl (.inl hA), by omega⟩, ?_⟩
    have q' : KM ys := by
      rw [List.drop_of_length_le (by omega)] at q
      exact q
    obtain ⟨w', k', r'⟩ := T.done w nl
    exact hd ys H q' w' k' r'
end

/-! ### comprehensions with a test -/
section
variable {α β : Type} {K : PySem.W.Frag} {ms ps : List Addr} {cs : List (Addr × List V)} {H0 H1 : Hp} {g : TG} {tt : TT} {te : TE} {vl : List Nat} {σ : L2.St} {Qd : Hp → Prop}
theorem Trn.skip {L : Addr} {eb : β → D} {n : Nat} {ys : List β} {vs : List V} {H : Hp} (t : Trn ms ps cs H0 H1 L eb n ys vs H) : Trn ms ps cs H0 H1 L eb (n + 1) ys vs H := ⟨t.w, t.k, t.r, Nat.le_succ_of_le t.n⟩
theorem lf_listC {items : List α} {a : Addr} {xs : List V} {L : Addr} {e : α → D} {eb : β → D} {body : α → (Option β → Prop) → Prop} {KM : List β → Prop} (w : Wd ms ps cs H0 H1) (an : a ∉ ms) (ha : H1 a = some (.lst xs)) (hx : repL ms H1 (items.map e) xs) (nl : H1 L = none) (hM : items.length < 100000 ∧ filC body items [] KM)
    (hs : ∀ (x : α) (u : V) (n : Nat) (ys : List β) (vs : List V) (k : Option β → Prop) (H : Hp), n < 100000 → Trn ms ps cs H0 H1 L eb n ys vs H → rep (L :: ms) H (e x) u → body x k → ∀ Nx : Hp → Prop,
        (∀ y vs' H', k (some y) → Trn ms ps cs H0 H1 L eb (n + 1) (ys ++ [y]) vs' H' → Nx H') → (∀ vs' H', k none → Trn ms ps cs H0 H1 L eb (n + 1) ys vs' H' → Nx H') →
      g u (wipe σ vl) H fun σ2 H2 => wipe σ2 vl = wipe σ vl ∧ tt σ2 H2 fun b H3 => if b = true then te σ2 H3 fun y H4 => ∃ acc, H4 L = some (.lst acc) ∧ acc.length < sizeLine ∧ Nx (upd H4 L (.lst (acc ++ [y]))) else Nx H3)
    (hd : ∀ ys H, KM ys → Wd ms ps cs H0 H → Keep ms H1 H → rep ms H (.lst (ys.map eb)) (.ref L) → Qd H) :
    ∃ W : Nat → Nat → Hp → Prop, (∃ m, W 0 m (upd H1 L (.lst []))) ∧ ∀ i m H, W i m H →
      ((Itl K a).stop i H ∧ Qd H) ∨ ((Itl K a).go i H ∧ ∃ Nx : Hp → Prop, (∀ H', Nx H' → ∃ m', m' < m ∧ W (i + 1) m' H') ∧ ∀ x H', (Itl K a).yld i H x H' → g x (wipe σ vl) H' fun σ2 H2 => wipe σ2 vl = wipe σ vl ∧ tt σ2 H2 fun b H3 =>
        if b = true then te σ2 H3 fun y H4 => ∃ acc, H4 L = some (.lst acc) ∧ acc.length < sizeLine ∧ Nx (upd H4 L (.lst (acc ++ [y]))) else Nx H3) := by
  obtain ⟨hn, hM⟩ := hM
  have hl : items.length = xs.length := by
    have := repL_len hx
    rwa [List.length_map] at this
  have aL : a ≠ L := ne_of_none ha nl
  have hx1 : repL (L :: ms) (upd H1 L (.lst [])) (items.map e) xs := repL_map (fun p o n hp => ⟨fun z => by
    rcases List.mem_cons.mp z with z | z
    · exact ne_of_none hp nl z
    · exact n z, by rw [upd_ne (ne_of_none hp nl)]; exact hp⟩) _ _ hx
  have aM : a ∉ L :: ms := fun z => by
    rcases List.mem_cons.mp z with z | z
    · exact aL z
    · exact an z
  refine ⟨fun i m H => m = xs.length - i ∧ i ≤ xs.length ∧ ∃ ys vs, Trn ms ps cs H0 H1 L eb i ys vs H ∧ Keep (L :: ms) (upd H1 L (.lst [])) H ∧ filC body (items.drop i) ys KM, ⟨_, rfl, Nat.zero_le _, [], [], Trn.start w nl, Keep.refl, hM⟩, ?_⟩
  rintro i m H ⟨rfl, hi', ys, vs, T, kp, q⟩
  have hA : H a = some (.lst xs) := kp a _ aM (by rw [upd_ne aL]; exact ha)
  by_cases hlt : i < xs.length
  · refine .inr ⟨⟨xs, xs[i], .inl (.inl hA), by simp [hlt]⟩, fun H' => i + 1 ≤ xs.length ∧ ∃ ys vs, Trn ms ps cs H0 H1 L eb (i + 1) ys vs H' ∧ Keep (L :: ms) (upd H1 L (.lst [])) H' ∧ filC body (items.drop (i + 1)) ys KM, fun H' p' => ⟨_, by omega, rfl, p'⟩, fun x H' y => ?_⟩
    obtain ⟨e1, y⟩ := y
    subst e1
    have hxi := y xs (.inl (.inl hA))
    have hit : items[i]? = some (items[i]'(by omega)) := List.getElem?_eq_getElem (by omega)
    rw [drop_cons' hit] at q
    obtain ⟨v, hv, rv⟩ := repL_get (repL_keep kp hx1) (j := i) (d := e (items[i]'(by omega))) (by rw [List.getElem?_map, hit]; rfl)
    rw [hxi] at hv
    have ev : x = v := Option.some.inj hv
    subst ev
    have kk : ∀ {ys'} {vs'} {H''}, Trn ms ps cs H0 H1 L eb (i + 1) ys' vs' H'' → Keep (L :: ms) (upd H1 L (.lst [])) H'' := fun {ys' vs' H''} T' b o n hb => by
      by_cases e3 : b = L
      · exact absurd (by rw [e3]; exact List.mem_cons_self) n
      · rw [upd_ne e3] at hb
        exact T'.k b o n hb
    exact hs _ x i ys vs _ H' (by omega) T rv q _ (fun y vs' H'' k T' => ⟨hlt, _, _, T', kk T', k⟩) (fun vs' H'' k T' => ⟨hlt, _, _, T', kk T', k⟩)
  · have e1 : i = xs.length := by omega
    refine .inl ⟨⟨xs, .inl (.inl hA), by omega⟩, ?_⟩
    have q' : KM ys := by
      rw [List.drop_of_length_le (by omega)] at q
      exact q
    obtain ⟨w', k', r'⟩ := T.done w nl
    exact hd ys H q' w' k' r'
/-- an element's end -/
theorem lc_end {L : Addr} {eb : β → D} {n : Nat} {ys : List β} {vs : List V} {H : Hp} {y : β} {u : V} {Nx : Hp → Prop} (hc : ∀ c ∈ cs, c.1 ≠ L) (hn : n < 100000) (w : Wd (L :: ms) ps ((L, vs) :: cs) H0 H) (k : Keep (L :: ms) H1 H) (r : repL (L :: ms) H (ys.map eb) vs) (hy : ys.length ≤ n) (hr : rep (L :: ms) H (eb y) u)
    (h : ∀ vs' H', Trn ms ps cs H0 H1 L eb (n + 1) (ys ++ [y]) vs' H' → Nx H') : ∃ acc, H L = some (.lst acc) ∧ acc.length < sizeLine ∧ Nx (upd H L (.lst (acc ++ [u]))) := by
  refine ⟨vs, (w.cel _ List.mem_cons_self).1, ?_, h _ _ (Trn.add hc w k r hy hr)⟩
  have q := repL_len r
  rw [List.length_map] at q
  have e : sizeLine = 16777216 := sizeLine_eq
  omega
end

/-! ### for -/
section
variable {α S : Type} {K : PySem.W.Frag} {ms ps : List Addr} {H0 H1 : Hp} {g : TG} {tb : TS} {D' : Ends} {σ : L2.St} {cs : S → List (Addr × List V)}
/-- for x in range(lo, hi) -/
theorem for_rangeC {lo hi : Int} {N : Nat} {body : Int → S → (S → Prop) → Prop} {KM : S → Prop} (SI : S → L2.St → Hp → Prop) (s0 : S) (hN : N = (hi - lo).toNat) (w : Wd ms ps (cs s0) H0 H1) (hM : forC body (rangeI lo hi) s0 KM) (h0 : SI s0 σ H1)
    (hs : ∀ (x : Int) (s : S) (k : S → Prop) (σ : L2.St) (H : Hp), Wd ms ps (cs s) H0 H → Keep ms H1 H → SI s σ H → body x s k → ∀ Nx : L2.St → Hp → Prop, (∀ s' σ' H', k s' → Wd ms ps (cs s') H0 H' → Keep ms H1 H' → SI s' σ' H' → Nx σ' H') →
      g (.int x) σ H fun σ2 H2 => tb { D' with nx := Nx, ct := Nx, bk := D'.nx } σ2 H2)
    (hd : ∀ s σ H, KM s → Wd ms ps (cs s) H0 H → Keep ms H1 H → SI s σ H → D'.nx σ H) :
    ∃ W : Nat → Nat → L2.St → Hp → Prop, (∃ m, W 0 m σ H1) ∧ ∀ i m σ H, W i m σ H →
      ((Itr lo N).stop i H ∧ D'.nx σ H) ∨ ((Itr lo N).go i H ∧ ∃ Nx : L2.St → Hp → Prop, (∀ σ' H', Nx σ' H' → ∃ m', m' < m ∧ W (i + 1) m' σ' H') ∧ ∀ x H', (Itr lo N).yld i H x H' → g x σ H' fun σ2 H2 => tb { D' with nx := Nx, ct := Nx, bk := D'.nx } σ2 H2) := by
  subst hN
  refine for_range (lo := lo) (n := (hi - lo).toNat) (D := D') (fun i σ H => ∃ s, Wd ms ps (cs s) H0 H ∧ Keep ms H1 H ∧ SI s σ H ∧ forC body ((rangeI lo hi).drop i) s KM) ⟨s0, w, Keep.refl, h0, hM⟩ (fun i σ H hi' ⟨s, w', k', si, q⟩ => ?_) (fun σ H ⟨s, w', k', si, q⟩ => ?_)
  · rw [drop_cons' (rangeI_get hi')] at q
    exact hs _ s _ σ H w' k' si q _ fun s' σ' H' hk w2 k2 si2 => ⟨s', w2, k2, si2, hk⟩
  · rw [List.drop_of_length_le (by rw [rangeI_len]; exact Nat.le_refl _)] at q
    exact hd s σ H q w' k' si
/-- for x in xs -/
theorem for_listC {items : List α} {e : α → D} {a : Addr} {xs : List V} {body : α → S → (S → Prop) → Prop} {KM : S → Prop} (SI : S → L2.St → Hp → Prop) (s0 : S) (w : Wd ms ps (cs s0) H0 H1) (an : a ∉ ms) (ha : H1 a = some (.lst xs)) (hx : repL ms H1 (items.map e) xs) (hM : forC body items s0 KM) (h0 : SI s0 σ H1)
    (hs : ∀ (x : α) (u : V) (s : S) (k : S → Prop) (σ : L2.St) (H : Hp), Wd ms ps (cs s) H0 H → Keep ms H1 H → SI s σ H → rep ms H (e x) u → body x s k → ∀ Nx : L2.St → Hp → Prop, (∀ s' σ' H', k s' → Wd ms ps (cs s') H0 H' → Keep ms H1 H' → SI s' σ' H' → Nx σ' H') →
      g u σ H fun σ2 H2 => tb { D' with nx := Nx, ct := Nx, bk := D'.nx } σ2 H2)
    (hd : ∀ s σ H, KM s → Wd ms ps (cs s) H0 H → Keep ms H1 H → SI s σ H → D'.nx σ H) :
    ∃ W : Nat → Nat → L2.St → Hp → Prop, (∃ m, W 0 m σ H1) ∧ ∀ i m σ H, W i m σ H →
      ((Itl K a).stop i H ∧ D'.nx σ H) ∨ ((Itl K a).go i H ∧ ∃ Nx : L2.St → Hp → Prop, (∀ σ' H', Nx σ' H' → ∃ m', m' < m ∧ W (i + 1) m' σ' H') ∧ ∀ x H', (Itl K a).yld i H x H' → g x σ H' fun σ2 H2 => tb { D' with nx := Nx, ct := Nx, bk := D'.nx } σ2 H2) := by
  have hl : items.length = xs.length := by
    have := repL_len hx
    rwa [List.length_map] at this
  refine for_list (xs := xs) (D := D') (fun i σ H => ∃ s, Wd ms ps (cs s) H0 H ∧ Keep ms H1 H ∧ SI s σ H ∧ forC body (items.drop i) s KM) ⟨s0, w, Keep.refl, h0, hM⟩ (fun i σ H _ ⟨s, w', k', _⟩ => .inl (.inl (k' a _ an ha))) (fun i x σ H hx' ⟨s, w', k', si, q⟩ => ?_) (fun σ H ⟨s, w', k', si, q⟩ => ?_)
  · have hi : i < xs.length := (List.getElem?_eq_some_iff.mp hx').1
    have hit : items[i]? = some (items[i]'(by omega)) := List.getElem?_eq_getElem (by omega)
    rw [drop_cons' hit] at q
    obtain ⟨v, hv, rv⟩ := repL_get (repL_keep k' hx) (j := i) (d := e (items[i]'(by omega))) (by rw [List.getElem?_map, hit]; rfl)
    rw [hx'] at hv
    have ev : x = v := Option.some.inj hv
    subst ev
    exact hs _ x s _ σ H w' k' si rv q _ fun s' σ' H' hk w2 k2 si2 => ⟨s', w2, k2, si2, hk⟩
  · rw [List.drop_of_length_le (by omega)] at q
    exact hd s σ H q w' k' si
/-- while -/
theorem while_C {c : TT} {fuel : Nat} {body : S → (S → Prop) → (S → Prop) → Prop} {KM : S → Prop} (SI : S → L2.St → Hp → Prop) (s0 : S) (w : Wd ms ps (cs s0) H0 H1) (hM : whileC body fuel s0 KM) (h0 : SI s0 σ H1)
    (hs : ∀ (s : S) (k1 k2 : S → Prop) (σ : L2.St) (H : Hp), Wd ms ps (cs s) H0 H → Keep ms H1 H → SI s σ H → body s k1 k2 → ∀ (Nx : L2.St → Hp → Prop) (Ex : L2.St → Hp → Prop), (∀ s' σ' H', k1 s' → Wd ms ps (cs s') H0 H' → Keep ms H1 H' → SI s' σ' H' → Nx σ' H') → (∀ s' σ' H', k2 s' → Wd ms ps (cs s') H0 H' → Keep ms H1 H' → SI s' σ' H' → Ex σ' H') →
      c σ H fun b H1 => if b = true then tb { D' with nx := Nx, ct := Nx, bk := D'.nx } σ H1 else Ex σ H1)
    (hd : ∀ s σ H, KM s → Wd ms ps (cs s) H0 H → Keep ms H1 H → SI s σ H → D'.nx σ H)
    (mono : ∀ σ H Q Q', (∀ b H1, Q b H1 → Q' b H1) → c σ H Q → c σ H Q') : tWhile c tb D' σ H1 := by
  refine ⟨fun m σ H => ∃ s, Wd ms ps (cs s) H0 H ∧ Keep ms H1 H ∧ SI s σ H ∧ whileC body m s KM, ⟨fuel, s0, w, Keep.refl, h0, hM⟩, ?_⟩
  rintro m σ H ⟨s, w', k', si, q⟩
  cases m with
  | zero => exact False.elim q
  | succ m =>
    refine mono _ _ _ _ (fun b H2 hb => ?_) (hs s _ _ σ H w' k' si q (fun σ' H' => ∃ s, Wd ms ps (cs s) H0 H' ∧ Keep ms H1 H' ∧ SI s σ' H' ∧ whileC body m s KM) D'.nx (fun s' σ' H' hk w2 k2 si2 => ⟨s', w2, k2, si2, hk⟩) fun s' σ' H' hk w2 k2 si2 => hd s' σ' H' hk w2 k2 si2)
    cases b with
    | true => exact ⟨_, fun σ' H' p => ⟨m, Nat.lt_succ_self m, p⟩, hb⟩
    | false => exact hb
end

section
variable {K : PySem.W.Frag} {ms : List Addr} {H : Hp} {d : D} {u x y : V}
theorem repL_uncons {ds : List D} {vs : List V} (h : repL ms H (d :: ds) vs) : ∃ u us, vs = u :: us ∧ rep ms H d u ∧ repL ms H ds us := by
  simp only [repL] at h
  exact h
theorem repL_empty {vs : List V} (h : repL ms H [] vs) : vs = [] := by
  simp only [repL] at h
  exact h
theorem repL_ints {ns : List Int} {vs : List V} (h : repL ms H (ns.map fun n => D.v (.int n)) vs) : vs = ns.map V.int := by
  have e : (ns.map fun n => D.v (.int n)) = (ns.map V.int).map D.v := by rw [List.map_map]; rfl
  rw [e] at h
  exact repL_flat.mp h
theorem repL_strs {ns : List Str} {vs : List V} (h : repL ms H (ns.map fun n => D.v (.str n)) vs) : vs = ns.map V.str := by
  have e : (ns.map fun n => D.v (.str n)) = (ns.map V.str).map D.v := by rw [List.map_map]; rfl
  rw [e] at h
  exact repL_flat.mp h
theorem repL_bls {ns : List Bool} {vs : List V} (h : repL ms H (ns.map fun n => D.v (.bl n)) vs) : vs = ns.map V.bl := by
  have e : (ns.map fun n => D.v (.bl n)) = (ns.map V.bl).map D.v := by rw [List.map_map]; rfl
  rw [e] at h
  exact repL_flat.mp h
theorem rep_join {a : Str} {ys : List Str} {P : Str → List Str → Prop} (h : rep ms H (.lst (ys.map fun n => D.v (.str n))) x) (hz : (ys.map (·.length)).sum + ys.length * a.length ≤ 16777216) (k : P a ys) :
    ∃ a' p, ∃ ys : List Str, V.str a = .str a' ∧ [x] = [.ref p] ∧ (SqL K H p (ys.map V.str) ∨ SqT K H p (ys.map V.str)) ∧ (ys.map (·.length)).sum + ys.length * a'.length ≤ 16777216 ∧ P a' ys := by
  simp only [rep] at h
  obtain ⟨p, vs, e, _, hp, hr⟩ := h
  have ev := repL_strs hr
  subst ev e
  exact ⟨a, p, ys, rfl, rfl, .inl (.inl (.inl hp)), hz, k⟩
theorem rep_all {ys : List Bool} {P : List Bool → Prop} (h : rep ms H (.lst (ys.map fun n => D.v (.bl n))) x) (k : P ys) : ∃ (a : Addr) (bs : List Bool), [x] = [V.ref a] ∧ SqL K H a (bs.map V.bl) ∧ P bs := by
  simp only [rep] at h
  obtain ⟨p, vs, e, _, hp, hr⟩ := h
  have ev := repL_bls hr
  subst ev e
  exact ⟨p, ys, rfl, .inl (.inl hp), k⟩
/-! data as the library data, for == -/
mutual
def pyOf : D → PyData
  | .v .non => .none
  | .v (.bl b) => .bool b
  | .v (.int i) => .int i
  | .v (.str z) => .str z
  | .v _ => .none
  | .lst ds => .list (pyL ds)
  | .tup ds => .tuple (pyL ds)
  | .ins _ _ _ => .none
  | .dct _ _ => .none
def pyL : List D → List PyData
  | [] => []
  | d :: ds => pyOf d :: pyL ds
def plainD : D → Bool
  | .v .non => true
  | .v (.bl _) => true
  | .v (.int _) => true
  | .v (.str _) => true
  | .v _ => false
  | .lst ds => plainL ds
  | .tup ds => plainL ds
  | .ins _ _ _ => false
  | .dct _ _ => false
def plainL : List D → Bool
  | [] => true
  | d :: ds => plainD d && plainL ds
end
mutual
theorem dp_of : ∀ (d : D) (u : V), plainD d = true → rep ms H d u → Dp K H u (pyOf d)
  | .v x, u, p, h => by
    have e := of_v h
    subst e
    cases u <;> simp only [pyOf, plainD] at p ⊢ <;> first | exact .non | exact .bl _ | exact .int _ | exact .str _ | cases p
  | .lst ds, u, p, h => by
    simp only [rep] at h
    obtain ⟨a, vs, e, _, hp, hr⟩ := h
    subst e
    simp only [pyOf, plainD] at p ⊢
    exact .lst (.inl (.inl hp)) (dpL_of ds vs p hr)
  | .tup ds, u, p, h => by
    simp only [rep] at h
    obtain ⟨a, vs, e, _, hp, hr⟩ := h
    subst e
    simp only [pyOf, plainD] at p ⊢
    exact .tup (.inl (.inl hp)) (dpL_of ds vs p hr)
  | .ins _ _ _, u, p, h => by
    simp only [plainD] at p
    cases p
  | .dct _ _, u, p, h => by
    simp only [plainD] at p
    cases p
theorem dpL_of : ∀ (ds : List D) (vs : List V), plainL ds = true → repL ms H ds vs → DpAll K H vs (pyL ds)
  | [], vs, p, h => by
    have e := repL_empty h
    subst e
    simp only [pyL]
    exact .nil
  | d :: ds, vs, p, h => by
    obtain ⟨u, us, e, h1, h2⟩ := repL_uncons h
    subst e
    simp only [plainL, Bool.and_eq_true] at p
    simp only [pyL]
    exact .cons (dp_of d u p.1 h1) (dpL_of ds us p.2 h2)
end
theorem rep_eqD {d e : D} {Q : VK} (h1 : rep ms H d x) (h2 : rep ms H e y) (p1 : plainD d = true) (p2 : plainD e = true) (s1 : SeqAt.shaped (pyOf d) = true) (s2 : SeqAt.shaped (pyOf e) = true) (k : Q (.bl (PyData.eqv (pyOf d) (pyOf e))) H) : rEqD K x y H Q :=
  ⟨_, _, dp_of d x p1 h1, dp_of e y p2 h2, s1, s2, k⟩
theorem rep_neD {d e : D} {Q : VK} (h1 : rep ms H d x) (h2 : rep ms H e y) (p1 : plainD d = true) (p2 : plainD e = true) (s1 : SeqAt.shaped (pyOf d) = true) (s2 : SeqAt.shaped (pyOf e) = true) (k : Q (.bl (!PyData.eqv (pyOf d) (pyOf e))) H) : rNeD K x y H Q :=
  ⟨_, _, dp_of d x p1 h1, dp_of e y p2 h2, s1, s2, k⟩
end

section
variable {ms : List Addr} {H H' H1 : Hp} {d : D} {u : V} {l : Addr}
theorem Keep.trans (a : Keep ms H1 H) (b : Keep ms H H') : Keep ms H1 H' := fun x o n h => b x o n (a x o n h)
theorem Keep.new (k : Keep ms H1 H) : Keep (l :: ms) H1 H := fun x o n h => k x o (fun z => n (List.mem_cons_of_mem _ z)) h
theorem rep_new (nl : H l = none) (h : rep ms H d u) : rep (l :: ms) H d u := rep_map (fun p o n hp => ⟨fun z => by
  rcases List.mem_cons.mp z with z | z
  · exact ne_of_none hp nl z
  · exact n z, hp⟩) d u h
theorem repL_new {ds : List D} {us : List V} (nl : H l = none) (h : repL ms H ds us) : repL (l :: ms) H ds us := repL_map (fun p o n hp => ⟨fun z => by
  rcases List.mem_cons.mp z with z | z
  · exact ne_of_none hp nl z
  · exact n z, hp⟩) ds us h
end

/-! ### a method called by keywords alone -/
def tMethK (C : Addr) (m : Str) (n : Nat) (gV : List V → List V → List V) (sp : Sp) (E : XK) (ta : TE) (tk : TA) : TE := fun σ H Q => ta σ H fun x H1 => ∃ a dx fs, x = .ref a ∧ H1 a = some (.ins C dx fs) ∧ fs.lookup m = none ∧
  tk σ H1 fun zs H2 => zs.length = n ∧ sp (gV [x] zs) H2 Q E
section
variable {X : Cx} {CX : CXT} {k : Nat} {f C : Addr} {fd : FuncData} {ps ks : List Str} {sp : Sp} {E : XK} {m : Str} {apos pos : Pos} {o : Expr} {kws : List Keyword} {ta : TE} {tk : TA} {g : List Value → List Value → List Value} {gV : List V → List V → List V}
theorem pe_methK0 {pl : Sem Bool} (he : PE X o ta) (c : Cls X.K C) (hm : Meth X.K C m f) (F : FnOk X.prog X.w X.K X.mg X.base CX k f fd ps sp) (hr : Room k X.A) (hb : KBn X.K fd ps 1 ks g gV) (hx : Passes CX X E) (hkw : PK X kws tk)
    (hall : (backToKw pos (keywordEach kws X.env)).all (·.1.isSome) = true := by rfl) (hks : (backToKw pos (keywordEach kws X.env)).filterMap (·.1) = ks := by rfl)
    (hpl : ((backTo pos (starEach [] X.env)).any (·.1) || (backToKw pos (keywordEach kws X.env)).any (·.1.isNone)) = false := by rfl)
    (ht : eval (.Call (.Attribute o m apos) [] kws pos) X.env = (do
      let ov ← eval o X.env
      standAt apos.atName
      let (f, first) ← holding [ov] (getMethod ov m pl)
      callWith pos f first (backTo pos (starEach [] X.env)) (backToKw pos (keywordEach kws X.env))) := by rfl) :
    PE X (.Call (.Attribute o m apos) [] kws pos) (tMethK C m ks.length gV sp E ta tk) := by
  refine ⟨fun pins s σ H Q I h => ?_⟩
  refine PySem.W.methodCall_KW (pl := pl) (thn (he.run pins s σ H _ I h) fun u s1 ⟨x, H1, I1, rx, a, dx, fs, ex, ea, l, q⟩ => ?_) ht
  subst ex
  obtain rfl : u = Value.ref a := rx
  refine getmeth_ok I1 ea c hm l ?_
  refine PySem.W.callWith_KW0 (first := [.ref a]) (h₀ := X.base) I.ok.mod.kin hm.kp hall ?_ hpl
  refine thn (hkw.run pos pins s1 σ H1 _ I1 q) fun ws s2 ⟨zs, H2, I2, rz, l2, q2⟩ => ⟨I2.kIn, ?_⟩
  rw [hks]
  exact run_fnN (us := [.ref a]) (vs := [.ref a]) F hr hb hx I2 (.cons rfl .nil) rz rfl l2 q2
end
end Rx
namespace Rx
open PySem PySem.Spec PyProof.Rows L2
theorem vals_getD : ∀ {zs : List V} {ws : List Value}, Vals zs ws → ∀ j : Nat, RelV (zs.getD j .non) (ws.getD j .none)
  | _, _, .nil, _ => rfl
  | _, _, .cons r _, 0 => r
  | _, _, .cons _ t, j + 1 => vals_getD t j
theorem tyes_of {σ : L2.St} {H : Hp} {A B : Hp → Prop} (h : A H) : tYes σ H fun b H3 => if b = true then A H3 else B H3 := by
  show (if true = true then A H else B H)
  rw [if_pos rfl]
  exact h
theorem Ret.keep {H H' : Hp} (e : Ret [] H H') {a : Addr} {o : HO} (h : H a = some o) : H' a = some o := e.kp a o (by simp) h
end Rx
namespace Rx
open PySem PySem.Spec PyProof.Rows L2
section
variable {X : Cx}
def rMulS : R2 := fun x y H Q => ∃ (a : Str) (k : Int), x = .str a ∧ y = .int k ∧ MulOk a k ∧ Q (.str (Txt.mul a k)) H
theorem op_mulS : OpR X (binaryOp .Mult) rMulS := by
  intro pins s σ H x y v u Q I rx ry h
  obtain ⟨a, k, rfl, rfl, ok, q⟩ := h
  obtain ⟨t, rfl⟩ := rx
  obtain ⟨t', rfl⟩ := ry
  exact SB.mul ok fun t' tk => ⟨.str (Txt.mul a k), H, I.tok _, ⟨_, rfl⟩, q⟩
end

/-! own == -/
def rOwnEq (C : Addr) (sp : Sp) (E : XK) : R2 := fun x y H Q => ∃ a b dx dy fs gs, x = .ref a ∧ y = .ref b ∧ H a = some (.ins C dx fs) ∧ H b = some (.ins C dy gs) ∧ sp [x, y] H (fun v H' => ∃ r : Bool, v = .bl r ∧ Q v H') E
structure OwnEq (K : PySem.W.Frag) (C f : Addr) : Prop where
  hs : PySem.W.findIn K (.ref C) "__eq__" = some (some (.ref f))
  hf : PySem.W.isFn K (.ref f) = true
theorem op_eqOwn {X : Cx} {n : Nat} {CX : CXT} {C f : Addr} {fd : FuncData} {ps : List Str} {sp : Sp} {E : XK} (F : FnOk X.prog X.w X.K X.mg X.base CX n f fd ps sp) (hr : Room n X.A)
    (o : OwnEq X.K C f) (hb : Binds X.K fd ps []) (hx : Passes CX X E) : OpR X (compareOp .Eq) (rOwnEq C sp E) := by
  intro pins s σ H x y v u Q I rx ry d
  show wpAny (model X.prog X.w) X.A (richCompare .Eq v u) (EP X pins σ Q) X.xe s
  obtain ⟨a, b, dx, dy, fs, gs, rfl, rfl, ha, hb', hsp⟩ := d
  cases rx
  cases ry
  obtain ⟨mA, J, _⟩ := ins_get I.hok ha
  obtain ⟨mB, J', _⟩ := ins_get I.hok hb'
  obtain ⟨od, J, _⟩ := J.look
  obtain ⟨od', J', _⟩ := J'.look
  obtain ⟨m, hF⟩ := I.fr
  refine PySem.W.cmp_K (op := .Eq) (tb := .ref C) hr.units0 hF I.ok.mod.kin J J'.type (by simp [PySem.W.notFirst]) o.hs o.hf ?_
  have hl := F.len _ _ _ _ hsp
  have r2 : Vals [V.ref a, V.ref b] [Value.ref a, Value.ref b] := .cons rfl (.cons rfl .nil)
  refine wpAny_call (codeAny_mono (F.run X.A X.stack s H ⟨[.ref a, .ref b], []⟩ [.ref a, .ref b] [.ref a, .ref b] _ E hr I.env0 (by
    have := hb s [.ref a, .ref b] I.kIn (by simpa using hl)
    simpa using this) r2 hsp) fun r s' hq => ?_)
  cases r with
  | error e => exact hx pins σ H s e s' I hq
  | ok fl =>
    cases fl with
    | ret w =>
      obtain ⟨z, H', I', rz, ⟨r, ez, q⟩⟩ := I.after hq
      subst ez
      cases (show w = Value.bool r from rz)
      exact ⟨.bl r, H', I', rfl, q⟩
    | next => exact False.elim hq
    | brk => exact False.elim hq
    | cont => exact False.elim hq
section
variable {K : PySem.W.Frag} {ms ps : List Addr} {cs : List (Addr × List V)} {H H0 H1 : Hp} {d : D} {u x y : V}
theorem rep_ins {C : Addr} {ns : List Str} {ds : List D} (h : rep ms H (.ins C ns ds) u) : ∃ p dx fs, u = .ref p ∧ H p = some (.ins C dx fs) := by
  simp only [rep] at h
  obtain ⟨p, dx, vs, e, _, hp, _⟩ := h
  exact ⟨p, dx, _, e, hp⟩
theorem rep_eqOwn {C : Addr} {ns ns' : List Str} {ds ds' : List D} {sp : Sp} {E : XK} {Q : VK} (h1 : rep ms H (.ins C ns ds) x) (h2 : rep ms H (.ins C ns' ds') y) (k : sp [x, y] H (fun v H' => ∃ r : Bool, v = .bl r ∧ Q v H') E) : rOwnEq C sp E x y H Q := by
  obtain ⟨p, dx, fs, e, hp⟩ := rep_ins h1
  obtain ⟨q, dy, gs, e', hq⟩ := rep_ins h2
  subst e e'
  exact ⟨p, q, dx, dy, fs, gs, rfl, rfl, hp, hq, k⟩
/-! list + list -/
theorem rep_cat {α : Type} {xs ys : List α} {e : α → D} {Q : VK} (w : Wd ms ps cs H0 H) (h1 : rep ms H (.lst (xs.map e)) x) (h2 : rep ms H (.lst (ys.map e)) y) (hz : xs.length + ys.length ≤ sizeLine)
    (k : ∀ p H', Ret [] H H' → rep ms H' (.lst ((xs ++ ys).map e)) (.ref p) → Q (.ref p) H') : rCat x y H Q := by
  simp only [rep] at h1 h2
  obtain ⟨p, vs, rfl, np, hp, r1⟩ := h1
  obtain ⟨q, us, rfl, nq, hq, r2⟩ := h2
  have l1 := repL_len r1
  have l2 := repL_len r2
  rw [List.length_map] at l1 l2
  refine ⟨p, q, vs, us, rfl, rfl, hp, hq, by rw [← l1, ← l2]; exact hz, fun a na => ?_⟩
  have ee : Ret [] H (upd H a (.lst (vs ++ us))) := Ext.new na
  refine k a _ ee ?_
  simp only [rep]
  refine ⟨a, vs ++ us, rfl, fun z => w.tr a z na, upd_same, ?_⟩
  rw [List.map_append]
  exact repL_app (repL_ext ee r1) (repL_ext ee r2)
/-! isinstance(x, C), x of the class C -/
structure IsC (K : PySem.W.Frag) (C : Addr) : Prop where
  cl : Cls K C
  ha : PySem.W.findIn K (.ref C) "__class__" = some (some (.builtin "object.__class__"))
  hn : PySem.W.specialIn K (.builtin "object.__class__") "__get__" = some (some (.builtin "getset_descriptor.__get__"))
  tk : PySem.W.takesIn K (.builtin "object.__class__") = some true
  hm : PySem.W.mroIn K C (.type "object") = some true
theorem rep_isi {C : Addr} {ns : List Str} {ds : List D} {P : Bool → Prop} (h : rep ms H (.ins C ns ds) x) (c : IsC K C) (k : P true) :
    ∃ (x' c : V) (t u : Value) (b : Bool), [x, .ref C] = [x', c] ∧ ClsV c u ∧ TyX K H x' t ∧ PySem.W.kitOne K t u = some b ∧ P b := by
  obtain ⟨p, dx, fs, e, hp⟩ := rep_ins h
  subst e
  refine ⟨_, _, _, _, true, rfl, .own C, .base (.ins hp c.cl c.ha c.hn c.tk c.hm), ?_, k⟩
  simp [PySem.W.kitOne]
/-! list.count of texts -/
def rCntS (K : PySem.W.Frag) : V → List V → Hp → VK → Prop := fun x xs H Q => ∃ (p : Addr) (ns : List Str) (k : Str), x = .ref p ∧ xs = [.str k] ∧ SqL K H p (ns.map V.str) ∧ Q (.int (ns.count k : Nat)) H
def eqs (k : Str) (v : Value) : Bool := match v with
  | .str n _ => n == k
  | _ => false
theorem eqs_at {A : Around} {s : Shared} {k : Str} {t : Tok} : ∀ {ns : List Str} {us : List Value}, Vals (ns.map V.str) us → ∀ y ∈ us, SeqAt.EqAt A s y (.str k t) (eqs k y)
  | [], _, .nil => fun y hy => by cases hy
  | n :: ns, _, .cons r h => fun y hy => by
    rcases List.mem_cons.mp hy with e | e
    · subst e
      obtain ⟨t', rfl⟩ := r
      exact SeqAt.EqAt.str_str n t' k t
    · exact eqs_at h y e
theorem eqs_count {k : Str} : ∀ {ns : List Str} {us : List Value}, Vals (ns.map V.str) us → us.countP (eqs k) = ns.count k
  | [], _, .nil => rfl
  | n :: ns, _, .cons r h => by
    have ih := eqs_count (k := k) h
    obtain ⟨t', rfl⟩ := r
    rw [List.countP_cons, List.count_cons, ih] <;> rfl
theorem mt_lcountS {X : Cx} : MtR X "list.count" (rCntS X.K) := by
  intro pins s σ H x xs v us Q I rx rxs h
  obtain ⟨p, ns, k, rfl, rfl, hs, q⟩ := h
  cases rx
  obtain ⟨u, rfl, ru⟩ := rxs.one
  obtain ⟨t, rfl⟩ := ru
  obtain ⟨its, rv, ⟨⟨cls, dd, data, sl⟩, n, ho, hc, hdn, hd⟩, hlen⟩ := I.list hs
  simp only at hc hd
  subst hc hd
  refine call_meets PySem.F.slot_list_count ⟨_, ho, rfl⟩ PySem.F.entry_list_count (PySem.F.args_list_count_2 _ _)
    (SeqAt.list_countAt p its.toArray n dd sl (.str k t) (eqs k)) ⟨ho, fun y hy => eqs_at rv y (by simpa using hy), ?_⟩
  have ec : its.toArray.toList.countP (eqs k) = ns.count k := eqs_count rv
  refine ⟨.int (ns.count k : Nat), H, I.tok _, ⟨s.toks, ?_⟩, q⟩
  show Value.int ((its.toArray.toList.countP (eqs k) : Nat) : Int) s.toks = Value.int ((ns.count k : Nat) : Int) s.toks
  rw [ec]
theorem rep_lcountS {ns : List Str} {k : Str} {P : List Str → Str → Prop} (h : rep ms H (.lst (ns.map fun n => D.v (.str n))) x) (q : P ns k) :
    ∃ (p : Addr) (ns : List Str) (k' : Str), x = .ref p ∧ [V.str k] = [.str k'] ∧ SqL K H p (ns.map V.str) ∧ P ns k' := by
  simp only [rep] at h
  obtain ⟨p, vs, e, _, hp, hr⟩ := h
  have ev := repL_strs hr
  subst ev e
  exact ⟨p, ns, k, rfl, rfl, .inl (.inl hp), q⟩
/-! written dicts of texts -/
theorem kd_nil {w : World} {a : Addr} : ∀ z c : Str, ([] : List (Str × Str)).lookup z = some c → KDct K w a z (.str c) := fun _ _ h => by cases h
theorem kd_cons {w : World} {a : Addr} {k v : Str} {l : List (Str × Str)} (h : KDct K w a k (.str v)) (t : ∀ z c : Str, l.lookup z = some c → KDct K w a z (.str c)) : ∀ z c : Str, ((k, v) :: l).lookup z = some c → KDct K w a z (.str c) := by
  intro z c e
  rw [List.lookup_cons] at e
  by_cases q : (z == k) = true
  · rw [q] at e
    have e1 : v = c := Option.some.inj e
    subst e1
    rw [eq_of_beq q]
    exact h
  · have q' : (z == k) = false := by simpa using q
    rw [q'] at e
    exact t z c e
theorem rep_ixD {w : World} {a : Addr} {l : List (Str × Str)} {z c : Str} {Q : VK} (t : ∀ z c : Str, l.lookup z = some c → KDct K w a z (.str c)) (h : l.lookup z = some c) (q : Q (.str c) H) : rIxD K w (.ref a) (.str z) H Q :=
  ⟨a, z, .str c, rfl, rfl, t z c h, q⟩
theorem ix_kdictW {X : Cx} {w : World} (hK : X.K = K) (hw : X.w = w) : IxR X (rIxD K w) := by
  subst hK hw
  exact ix_kdict
theorem rep_tyL {ds : List D} (h : rep ms H (.lst ds) x) : tyV K "list" x H := by
  simp only [rep] at h
  obtain ⟨p, vs, e, _, hp, hr⟩ := h
  subst e
  exact .inl ⟨rfl, vs, .inl (.inl hp)⟩
end
/-! the signs of a text -/
def signs (x : Str) : List Str := x.cps.toList.map fun c => ⟨#[c]⟩
theorem signs_len {x : Str} : (signs x).length = x.cps.size := by simp [signs]
theorem signs_get {x : Str} {i : Nat} {c : Nat} (h : x.cps[i]? = some c) : (signs x)[i]? = some ⟨#[c]⟩ := by
  simp only [signs, List.getElem?_map, Array.getElem?_toList, h]
  rfl
section
variable {β : Type} {K : PySem.W.Frag} {ms ps : List Addr} {cs : List (Addr × List V)} {H0 H1 : Hp} {g : TG} {tt : TT} {te : TE} {vl : List Nat} {σ : L2.St} {Qd : Hp → Prop}
/-- [e for x in text] -/
theorem lc_strC {z : Str} {L : Addr} {eb : β → D} {body : Str → (β → Prop) → Prop} {KM : List β → Prop} (w : Wd ms ps cs H0 H1) (nl : H1 L = none) (hM : (signs z).length < 100000 ∧ mapC body (signs z) [] KM)
    (hs : ∀ (x : Str) (n : Nat) (ys : List β) (vs : List V) (k : β → Prop) (H : Hp), n < 100000 → Trn ms ps cs H0 H1 L eb n ys vs H → body x k → ∀ Nx : Hp → Prop, (∀ y vs' H', k y → Trn ms ps cs H0 H1 L eb (n + 1) (ys ++ [y]) vs' H' → Nx H') →
      g (.str x) (wipe σ vl) H fun σ2 H2 => wipe σ2 vl = wipe σ vl ∧ tt σ2 H2 fun b H3 => if b = true then te σ2 H3 fun y H4 => ∃ acc, H4 L = some (.lst acc) ∧ acc.length < sizeLine ∧ Nx (upd H4 L (.lst (acc ++ [y]))) else Nx H3)
    (hd : ∀ ys H, KM ys → Wd ms ps cs H0 H → Keep ms H1 H → rep ms H (.lst (ys.map eb)) (.ref L) → Qd H) :
    ∃ W : Nat → Nat → Hp → Prop, (∃ m, W 0 m (upd H1 L (.lst []))) ∧ ∀ i m H, W i m H →
      ((Its z).stop i H ∧ Qd H) ∨ ((Its z).go i H ∧ ∃ Nx : Hp → Prop, (∀ H', Nx H' → ∃ m', m' < m ∧ W (i + 1) m' H') ∧ ∀ x H', (Its z).yld i H x H' → g x (wipe σ vl) H' fun σ2 H2 => wipe σ2 vl = wipe σ vl ∧ tt σ2 H2 fun b H3 =>
        if b = true then te σ2 H3 fun y H4 => ∃ acc, H4 L = some (.lst acc) ∧ acc.length < sizeLine ∧ Nx (upd H4 L (.lst (acc ++ [y]))) else Nx H3) := by
  obtain ⟨hn, hM⟩ := hM
  rw [signs_len] at hn
  refine ⟨fun i m H => m = z.cps.size - i ∧ i ≤ z.cps.size ∧ ∃ ys vs, Trn ms ps cs H0 H1 L eb i ys vs H ∧ mapC body ((signs z).drop i) ys KM, ⟨_, rfl, Nat.zero_le _, [], [], Trn.start w nl, hM⟩, ?_⟩
  rintro i m H ⟨rfl, hi', ys, vs, T, q⟩
  by_cases hlt : i < z.cps.size
  · refine .inr ⟨hlt, fun H' => i + 1 ≤ z.cps.size ∧ ∃ ys vs, Trn ms ps cs H0 H1 L eb (i + 1) ys vs H' ∧ mapC body ((signs z).drop (i + 1)) ys KM, fun H' p' => ⟨_, by omega, rfl, p'⟩, fun x H' y => ?_⟩
    obtain ⟨e, c, hc, y⟩ := y
    subst e y
    rw [drop_cons' (signs_get hc)] at q
    exact hs _ i ys vs _ H' (by omega) T q _ fun y vs' H' k T' => ⟨hlt, _, _, T', k⟩
  · have e : i = z.cps.size := by omega
    refine .inl ⟨by rw [e]; exact Nat.le_refl _, ?_⟩
    have q' : KM ys := by
      rw [List.drop_of_length_le (by rw [signs_len]; omega)] at q
      exact q
    obtain ⟨w', k', r'⟩ := T.done w nl
    exact hd ys H q' w' k' r'
end
/-! != by the text's own == -/
section
variable {M : Model} {prog : Program} {w : World} {A : Around} {E : Value → Shared → Prop} {s : Shared} {K : PySem.W.Frag} {x y C : Addr} {ox : Obj} {od : Option Obj}
theorem entry_objNe {Q : Fin → Shared → Prop} (hu : A.units < cLine) (hcall : wpAny M A (callSpecialIfBound? (.ref x) (Str.ofString "__eq__") [.ref y]) (fun r s' => ∃ b, r = some (.bool b) ∧ Q (.done (.ret (.bool (!b)))) s') E s) :
    wpAny M A (Builtin.«object.__ne__» ⟨[.ref x, .ref y], []⟩) Q E s := by
  unfold Builtin.«object.__ne__»
  repeat (first
    | with_reducible refine wpAny_cRoomFor hu ?_
    | (refine wpAny_bind (m := callSpecialIfBound? (.ref x) (Str.ofString "__eq__") [.ref y])
        (wpAny_mono hcall (fun r s' hr => by
          obtain ⟨b, rfl, hq⟩ := hr
          repeat (first | exact hq | exact wpAny_pure hq | exact wpAny_truthy_bool hq | (refine wpAny_bind (m := truthy (.bool _)) (wpAny_truthy_bool ?_)) | wp_step)) fun _ _ e => e))
    | wp_step)
theorem call_objNe {Q : Value → Shared → Prop} (X : K.In s.heap) (I : PySem.W.InstAt s.heap x ox C od) (hm : PySem.W.mroIn K C (.type "object") = some true) (hu : A.in1.units < cLine)
    (hcall : wpAny (model prog w) A.in1 (callSpecialIfBound? (.ref x) (Str.ofString "__eq__") [.ref y]) (fun r s' => ∃ b, r = some (.bool b) ∧ Q (.bool (!b)) s') E s) :
    wpAny (model prog w) A (call (.builtin "object.__ne__") [.ref x, .ref y]) Q E s := by
  refine wpAny_call (codeAny_call_builtin F.cmp_object.ne.plain F.cmpEntry_ne (PySem.W.check_slot F.cmpKind_ne F.cmpSplit_ne (I.type.andThen (PySem.W.looks_mroIn X hm)) (F.cmpArgs_ne _ _) (entry_objNe hu (wpAny_mono hcall (fun r s' hr => ?_) fun _ _ e => e))))
  obtain ⟨b, rfl, hq⟩ := hr
  first | exact ⟨b, rfl, hq⟩ | exact ⟨b, rfl, wpAny_pure hq⟩
theorem ifBound_objNe {args : List Value} {Q : Option Value → Shared → Prop} (X : K.In s.heap) (I : PySem.W.InstAt s.heap x ox C od) (hs : PySem.W.findIn K (.ref C) "__ne__" = some (some (.builtin "object.__ne__")))
    (h : wpAny M A (call (.builtin "object.__ne__") (.ref x :: args)) (fun v => Q (some v)) E s) : wpAny M A (callSpecialIfBound? (.ref x) "__ne__" args) Q E s := by
  simp only [callSpecialIfBound?, bindSpecialIfBound?]
  refine wpAny_holding (wpAny_bind (wpAny_bind (wpAny_bind (I.type.here ((PySem.W.looks_findIn X hs).here ?_)))))
  refine wpAny_bind (wpAny_askSetting (wpAny_ite ?_))
  have fin : wpAny M A (call (.builtin "object.__ne__") ([.ref x] ++ args) >>= fun v => pure (some v)) Q E s := wpAny_bind (wpAny_mono h (fun v s' h' => wpAny_pure h') fun _ _ h' => h')
  split
  · exact wpAny_bind (wpAny_of_eq (F.cmp_object.ne.bind _) (wpAny_pure (by exact fin)))
  · exact wpAny_tryCatch (wpAny_bind (wpAny_of_eq (F.cmp_object.ne.bind _) (wpAny_pure (by exact fin))))
end
structure OwnNe (K : PySem.W.Frag) (C : Addr) : Prop where
  hne : PySem.W.findIn K (.ref C) "__ne__" = some (some (.builtin "object.__ne__"))
  hm : PySem.W.mroIn K C (.type "object") = some true
def rOwnNe (C : Addr) (sp : Sp) (E : XK) : R2 := fun x y H Q => ∃ a b dx dy fs gs, x = .ref a ∧ y = .ref b ∧ H a = some (.ins C dx fs) ∧ H b = some (.ins C dy gs) ∧ sp [x, y] H (fun v H' => ∃ r : Bool, v = .bl r ∧ Q (.bl (!r)) H') E
theorem op_neOwn {X : Cx} {n : Nat} {CX : CXT} {C f : Addr} {fd : FuncData} {ps : List Str} {sp : Sp} {E : XK} (F : FnOk X.prog X.w X.K X.mg X.base CX n f fd ps sp) (hr : Room (n + 1) X.A)
    (o : OwnEq X.K C f) (o' : OwnNe X.K C) (hb : Binds X.K fd ps []) (hx : Passes CX X E) : OpR X (compareOp .NotEq) (rOwnNe C sp E) := by
  intro pins s σ H x y v u Q I rx ry d
  show wpAny (model X.prog X.w) X.A (richCompare .NotEq v u) (EP X pins σ Q) X.xe s
  obtain ⟨a, b, dx, dy, fs, gs, rfl, rfl, ha, hb', hsp⟩ := d
  cases rx
  cases ry
  obtain ⟨mA, J, _⟩ := ins_get I.hok ha
  obtain ⟨mB, J', _⟩ := ins_get I.hok hb'
  obtain ⟨od, J, _⟩ := J.look
  obtain ⟨od', J', _⟩ := J'.look
  have hl := F.len _ _ _ _ hsp
  have r2 : Vals [V.ref a, V.ref b] [Value.ref a, Value.ref b] := .cons rfl (.cons rfl .nil)
  have one : wpAny (model X.prog X.w) X.A (tryCompare (.ref a) (cmpInfo .NotEq).2.1 (.ref b)) (fun r s' => ∃ v, r = some v ∧ EP X pins σ Q v s') X.xe s := by
    unfold tryCompare
    refine wpAny_bind (ifBound_objNe I.kIn J o'.hne (call_objNe I.kIn J o'.hm hr.in1.units0 (PySem.W.ifBound_K I.kIn J o.hs o.hf ?_)))
    refine wpAny_call (codeAny_mono (F.run X.A.in1 X.stack s H ⟨[.ref a, .ref b], []⟩ [.ref a, .ref b] [.ref a, .ref b] _ E hr.in1 I.env0.in1 (by
      have := hb s [.ref a, .ref b] I.kIn (by simpa using hl)
      simpa using this) r2 hsp) fun r s' hq => ?_)
    cases r with
    | error e => exact hx pins σ H s e s' I hq
    | ok fl =>
      cases fl with
      | ret w =>
        obtain ⟨z, H', I', rz, ⟨r, ez, q⟩⟩ := I.after hq
        subst ez
        cases (show w = Value.bool r from rz)
        exact ⟨r, rfl, wpAny_pure ⟨_, rfl, .bl (!r), H', I', rfl, q⟩⟩
      | next => exact False.elim hq
      | brk => exact False.elim hq
      | cont => exact False.elim hq
  unfold richCompare
  simp only [oneThing_ref]
  refine wpAny_holding (wpAny_bind (wpAny_cRoomFor hr.units0 ?_))
  refine wpAny_bind (J.type.here (wpAny_bind (J'.type.here ?_)))
  rw [show (Value.ref C != Value.ref C) = false from by simp]
  refine wpAny_bind (wpAny_pure ?_)
  simp only [Bool.false_eq_true, if_false]
  refine wpAny_bind (wpAny_mono one (fun r s' z => ?_) fun _ _ e => e)
  obtain ⟨v, rfl, hq⟩ := z
  exact wpAny_pure hq
theorem rep_neOwn {ms : List Addr} {H : Hp} {x y : V} {C : Addr} {ns ns' : List Str} {ds ds' : List D} {sp : Sp} {E : XK} {Q : VK} (h1 : rep ms H (.ins C ns ds) x) (h2 : rep ms H (.ins C ns' ds') y) (k : sp [x, y] H (fun v H' => ∃ r : Bool, v = .bl r ∧ Q (.bl (!r)) H') E) : rOwnNe C sp E x y H Q := by
  obtain ⟨p, dx, fs, e, hp⟩ := rep_ins h1
  obtain ⟨q, dy, gs, e', hq⟩ := rep_ins h2
  subst e e'
  exact ⟨p, q, dx, dy, fs, gs, rfl, rfl, hp, hq, k⟩
/-! a local list that grows -/
mutual
def noL : D → Bool
  | .v _ => true
  | .lst _ => false
  | .tup ds => noLs ds
  | .ins _ _ ds => noLs ds
  | .dct _ ds => noLs ds
def noLs : List D → Bool
  | [] => true
  | d :: ds => noL d && noLs ds
end
section
variable {ms ps : List Addr} {cs : List (Addr × List V)} {H0 H H' : Hp} {L : Addr} {vs : List V}
mutual
theorem rep_lift0 (hL : H L = some (.lst vs)) : ∀ (d : D) (u : V), noL d = true → rep ms H d u → rep (L :: ms) H d u
  | .v x, u, _, h => by
    simp only [rep] at h ⊢
    exact h
  | .lst ds, u, n, h => by
    simp only [noL] at n
    cases n
  | .tup ds, u, n, h => by
    simp only [noL] at n
    simp only [rep] at h ⊢
    obtain ⟨p, us, e, np, hp, hl⟩ := h
    refine ⟨p, us, e, fun z => ?_, hp, repL_lift0 hL ds us n hl⟩
    rcases List.mem_cons.mp z with z | z
    · rw [z, hL] at hp
      cases hp
    · exact np z
  | .ins C ns ds, u, n, h => by
    simp only [noL] at n
    simp only [rep] at h ⊢
    obtain ⟨p, dx, us, e, np, hp, hn, hl⟩ := h
    refine ⟨p, dx, us, e, fun z => ?_, hp, hn, repL_lift0 hL ds us n hl⟩
    rcases List.mem_cons.mp z with z | z
    · rw [z, hL] at hp
      cases hp
    · exact np z
  | .dct ks ds, u, n, h => by
    simp only [noL] at n
    simp only [rep] at h ⊢
    obtain ⟨p, us, e, np, hp, hn, hl⟩ := h
    refine ⟨p, us, e, fun z => ?_, hp, hn, repL_lift0 hL ds us n hl⟩
    rcases List.mem_cons.mp z with z | z
    · rw [z, hL] at hp
      cases hp
    · exact np z
theorem repL_lift0 (hL : H L = some (.lst vs)) : ∀ (ds : List D) (us : List V), noLs ds = true → repL ms H ds us → repL (L :: ms) H ds us
  | [], us, _, h => by
    simp only [repL] at h ⊢
    exact h
  | d :: ds, us, n, h => by
    simp only [noLs, Bool.and_eq_true] at n
    simp only [repL] at h ⊢
    obtain ⟨u, ws, e, h1, h2⟩ := h
    exact ⟨u, ws, e, rep_lift0 hL d u n.1 h1, repL_lift0 hL ds ws n.2 h2⟩
end
structure Mut (ms ps : List Addr) (cs : List (Addr × List V)) (H0 H : Hp) (L : Addr) (ds : List D) : Prop where
  hp : L ∉ ps
  h0 : H0 L = none
  hc : ∀ c ∈ cs, c.1 ≠ L
  nm : L ∉ ms
  val : ∃ vs, H L = some (.lst vs) ∧ repL (L :: ms) H ds vs
variable {ds : List D} {d : D} {u : V}
theorem mut_new (w : Wd ms ps cs H0 H) (nl : H L = none) (r : repL ms H ds vs) : Wd (L :: ms) ps cs H0 (upd H L (.lst vs)) ∧ Mut ms ps cs H0 (upd H L (.lst vs)) L ds := by
  have wc := Wd.cell (xs := vs) w nl
  have nL : L ∉ ms := fun z => w.tr L z nl
  refine ⟨⟨wc.kp, wc.grow, wc.tr, wc.pot, wc.pm, fun c h => wc.cel c (List.mem_cons_of_mem _ h)⟩, (wc.cel _ List.mem_cons_self).2.2.1, (wc.cel _ List.mem_cons_self).2.2.2, new_ne w nl, nL, vs, upd_same, ?_⟩
  exact repL_map (fun p o n hp => ⟨fun z => by
    rcases List.mem_cons.mp z with z | z
    · exact ne_of_none hp nl z
    · exact n z, by rw [upd_ne (ne_of_none hp nl)]; exact hp⟩) _ _ r
theorem mut_ret (w : Wd (L :: ms) ps cs H0 H) (e : Ret ps H H') (m : Mut ms ps cs H0 H L ds) : Mut ms ps cs H0 H' L ds := by
  obtain ⟨vs, h1, h2⟩ := m.val
  exact ⟨m.hp, m.h0, m.hc, m.nm, vs, e.kp L _ m.hp h1, repL_ret w e h2⟩
theorem mut_ext (e : Ret [] H H') (m : Mut ms ps cs H0 H L ds) : Mut ms ps cs H0 H' L ds := by
  obtain ⟨vs, h1, h2⟩ := m.val
  exact ⟨m.hp, m.h0, m.hc, m.nm, vs, e.kp L _ (by simp) h1, repL_ext e h2⟩
theorem mut_drop (m : Mut ms ps cs H0 H L ds) (w : Wd (L :: ms) ps cs H0 H) : Wd ms ps cs H0 H := by
  refine ⟨w.kp, w.grow, fun a h => w.tr a (List.mem_cons_of_mem _ h), w.pot, fun a h => ?_, fun c h => ?_⟩
  · rcases List.mem_cons.mp (w.pm a h) with z | z
    · rw [z] at h
      exact absurd h m.hp
    · exact z
  · obtain ⟨h1, h2, h3, h4⟩ := w.cel c h
    refine ⟨h1, ?_, h3, h4⟩
    rcases List.mem_cons.mp h2 with z | z
    · exact absurd z (m.hc c h)
    · exact z
theorem mut_rep (m : Mut ms ps cs H0 H L ds) : rep ms H (.lst ds) (.ref L) := by
  obtain ⟨vs, h1, h2⟩ := m.val
  simp only [rep]
  exact ⟨L, vs, rfl, m.nm, h1, repL_weak h2⟩
theorem rep_lift (m : Mut ms ps cs H0 H L ds) (n : noL d = true) (h : rep ms H d u) : rep (L :: ms) H d u := by
  obtain ⟨vs, h1, _⟩ := m.val
  exact rep_lift0 h1 d u n h
theorem mut_app {P : Addr → List V → V → Prop} (m : Mut ms ps cs H0 H L ds) (hl : ds.length < 16777216) (k : ∀ vs, H L = some (.lst vs) → repL (L :: ms) H ds vs → P L vs u) :
    ∃ (l : Addr) (xs : List V) (y : V), V.ref L = .ref l ∧ [u] = [y] ∧ H l = some (.lst xs) ∧ xs.length < sizeLine ∧ P l xs y := by
  obtain ⟨vs, h1, h2⟩ := m.val
  refine ⟨L, vs, u, rfl, rfl, h1, ?_, k vs h1 h2⟩
  rw [← repL_len h2, sizeLine_eq]
  exact hl
theorem mut_upd (w : Wd (L :: ms) ps cs H0 H) (m : Mut ms ps cs H0 H L ds) (hv : H L = some (.lst vs)) (h2 : repL (L :: ms) H ds vs) (r : rep (L :: ms) H d u) :
    Wd (L :: ms) ps cs H0 (upd H L (.lst (vs ++ [u]))) ∧ Mut ms ps cs H0 (upd H L (.lst (vs ++ [u]))) L (ds ++ [d]) ∧ (∀ d' u', rep (L :: ms) H d' u' → rep (L :: ms) (upd H L (.lst (vs ++ [u]))) d' u') ∧ True := by
  refine ⟨⟨fun a o n h => ?_, fun a h => ?_, fun a h => ?_, fun a h => ?_, w.pm, fun c h => ?_⟩, ⟨m.hp, m.h0, m.hc, m.nm, _, upd_same, ?_⟩, fun d u' h => ?_, trivial⟩
  · rw [upd_ne (ne_of_none h m.h0)]
    exact w.kp a o n h
  · by_cases e : a = L
    · rw [e, upd_same]
      exact fun z => nomatch z
    · rw [upd_ne e]
      exact w.grow a h
  · by_cases e : a = L
    · rw [e, upd_same]
      exact fun z => nomatch z
    · rw [upd_ne e]
      exact w.tr a h
  · obtain ⟨i, j, h1, h3⟩ := w.pot a h
    exact ⟨i, j, by rw [upd_ne (fun z => m.hp (by rw [← z]; exact h))]; exact h1, h3⟩
  · obtain ⟨h1, h3, h4, h5⟩ := w.cel c h
    exact ⟨by rw [upd_ne (m.hc c h)]; exact h1, h3, h4, h5⟩
  · exact repL_put List.mem_cons_self (repL_app h2 (repL_one r))
  · exact rep_put List.mem_cons_self h
end
section
variable {ms ps : List Addr} {cs : List (Addr × List V)} {H0 H H1 H' : Hp} {L : Addr} {K : PySem.W.Frag} {x : V}
theorem keep_none {w : Wd ms ps cs H0 H} (nl : H L = none) (k : Keep ms H1 H) : H1 L = none := by
  have nL : L ∉ ms := fun z => w.tr L z nl
  cases q : H1 L with
  | none => rfl
  | some o =>
    have := k L o nL q
    rw [nl] at this
    cases this
theorem keep_frz (n : H1 L = none) (k : Keep (L :: ms) H1 H) : Keep ms H1 H := fun a o na h => k a o (fun z => by
  rcases List.mem_cons.mp z with z | z
  · rw [z, n] at h
    cases h
  · exact na z) h
theorem rep_ixN {α : Type} {e : α → D} {xs : List α} {i : Int} {y : α} {Q : VK} (h : rep ms H (.lst (xs.map e)) x) (hi : atI xs i = some y) (k : ∀ v, rep ms H (e y) v → Q v H) : rIxL K x (.int i) H Q := by
  simp only [rep] at h
  obtain ⟨p, vs, e', _, hp, hr⟩ := h
  have hl := repL_len hr
  rw [List.length_map] at hl
  unfold atI at hi
  cases hx : ixN xs.length i with
  | none =>
    rw [hx] at hi
    cases hi
  | some j =>
    rw [hx] at hi
    have hj : xs[j]? = some y := hi
    obtain ⟨v, hv, rv⟩ := repL_get (d := e y) (j := j) hr (by rw [List.getElem?_map, hj]; rfl)
    refine ⟨p, vs, i, v, e', rfl, .inl (.inl hp), ?_, k v rv⟩
    unfold atI
    rw [← hl, hx]
    exact hv
theorem rep_rg_mk {p : Addr} {a b : Int} (w : Wd ms ps cs H0 H) (np : H p = none) (e : Ret [] H H') (hp : H' p = some (.lst (rgV a b))) : rep ms H' (.lst ((rangeI a b).map fun n => D.v (.int n))) (.ref p) := by
  simp only [rep]
  refine ⟨p, rgV a b, rfl, fun z => w.tr p z np, hp, ?_⟩
  have e1 : (rangeI a b).map (fun n => D.v (.int n)) = (rgV a b).map D.v := by
    unfold rangeI rgV
    rw [List.map_map, List.map_map]
    rfl
  rw [e1]
  exact repL_flat.mpr rfl
end
/-! ranges of any size -/
theorem turn_long {P : Program} {w : World} {K : PySem.W.Frag} {tg : Expr} (it : Addr) (lo : Int) (n : Nat) : Turn P w K tg (Itr lo n) [it] it (fun i h => IsLongIter h it (lo + (i : Nat) * 1) ((n : Int) - (i : Nat)) 1) where
  mem := by simp
  obj := fun i h st b hb => by
    have e : b = it := by simpa using hb
    subst e
    exact ⟨_, st, fun v z => by
      have z' : Data.fields _ = Data.cell v := z
      cases z'⟩
  keep := fun i h h' st k => k it (by simp) _ st
  item := by
    intro X hP hw hK hc i pins s σ H E I hf st hg
    subst hP hw hK
    obtain ⟨f0, f1, f2, f3, f4, f5⟩ := hf it (by simp)
    have W := Walks.longrange (prog := X.prog) (w := X.w) (I.ok.hd hc) it lo 1 n
    refine W.item i s _ _ hg st fun v h' tk hv st' kk => ?_
    obtain ⟨t, rfl⟩ := hv
    have I1 : Inv X pins σ H { s with heap := h', toks := tk } := I.turned (fun b o hb e => kk b o (by simpa using hb) e) f0 f1 f3 f4 f5
    refine ⟨_, rfl, go_of (s := { s with heap := h', toks := tk }) (n := "longrange_iterator") st' rfl rfl (by decide) ⟨.int (lo + i), H, I1, ⟨t, ?_⟩, ⟨rfl, rfl⟩, st', fun b hb => (hf b hb).1⟩⟩
    rw [Int.mul_one]
  done := by
    intro X hP hw hK hc i pins s σ H E I hf st hg
    subst hP hw hK
    obtain ⟨f0, f1, f2, f3, f4, f5⟩ := hf it (by simp)
    exact wpAny_pyNext_long_end (I.ok.hd hc) st (by have : n ≤ i := hg; omega) fun h' eb => ⟨rfl, I.turned (t' := s.toks) (fun b o hb e => eb b o hb e) f0 f1 f3 f4 f5⟩
  self := fun _ _ _ _ _ st h => wpAny_pyIter_longiter st h
section
variable {X : Cx} {tg : Expr}
theorem range_itW {pins : List (Addr × Obj)} {σ : L2.St} {H : Hp} {s : Shared} {R : It → Hp → Prop} {E : Value → Shared → Prop} {lo hi : Int} {t u v : Tok} {tk : Nat} (I : Inv X pins σ H s)
    (q : R (Itr lo (hi - lo).toNat) H) : wpAny (model X.prog X.w) X.A (pyIter (.ref s.heap.objs.size)) (PIE X pins σ tg R) E { s with heap := s.heap.push { cls := .type "range", data := .fields #[.int lo t, .int hi u, .int 1 v] }, toks := tk } := by
  have I1 : Inv X pins σ H { s with heap := s.heap.push { cls := .type "range", data := .fields #[.int lo t, .int hi u, .int 1 v] }, toks := tk } := I.kept fun b o e => Heap.get?_push_of_some _ e
  have e1 : lo + ((0 : Nat) : Int) * 1 = lo := by simp
  have e2 : (((hi - lo).toNat : Nat) : Int) - ((0 : Nat) : Int) = Builtin.Range.rangeSize lo hi 1 := by rw [rangeSize_one]; split <;> omega
  cases hs : Builtin.Range.small lo hi 1 with
  | true =>
    refine wpAny_pyIter_range (IsRange.new ..) hs ?_
    refine ⟨(s.heap.push { cls := .type "range", data := .fields #[.int lo t, .int hi u, .int 1 v] }).objs.size, [(s.heap.push { cls := .type "range", data := .fields #[.int lo t, .int hi u, .int 1 v] }).objs.size], _, _, H, rfl,
      I1.kept (t' := tk) fun b o e => Heap.get?_push_of_some _ e, turn_range _ lo (hi - lo).toNat, ?_, fun b hb => ?_, q⟩
    · show IsRangeIter _ _ (lo + ((0 : Nat) : Int) * 1) ((((hi - lo).toNat : Nat) : Int) - ((0 : Nat) : Int)) 1
      rw [e1, e2]
      exact Heap.get?_push_size _ rfl
    · have e : b = (s.heap.push { cls := .type "range", data := .fields #[.int lo t, .int hi u, .int 1 v] }).objs.size := by simpa using hb
      subst e
      exact I1.fpOk (Nat.le_refl _) (I1.hok.fresh (Nat.le_refl _))
  | false =>
    refine wpAny_pyIter_longrange (IsRange.new ..) hs ?_
    refine ⟨(s.heap.push { cls := .type "range", data := .fields #[.int lo t, .int hi u, .int 1 v] }).objs.size, [(s.heap.push { cls := .type "range", data := .fields #[.int lo t, .int hi u, .int 1 v] }).objs.size], _, _, H, rfl,
      I1.kept (t' := tk) fun b o e => Heap.get?_push_of_some _ e, turn_long _ lo (hi - lo).toNat, ?_, fun b hb => ?_, q⟩
    · show IsLongIter _ _ (lo + ((0 : Nat) : Int) * 1) ((((hi - lo).toNat : Nat) : Int) - ((0 : Nat) : Int)) 1
      rw [e1, e2]
      exact Heap.get?_push_size _ rfl
    · have e : b = (s.heap.push { cls := .type "range", data := .fields #[.int lo t, .int hi u, .int 1 v] }).objs.size := by simpa using hb
      subst e
      exact I1.fpOk (Nat.le_refl _) (I1.hok.fresh (Nat.le_refl _))
def iRngW1 (ta : TA) : TI := fun σ H R => ta σ H fun vs H1 => ∃ j : Int, vs = [.int j] ∧ R (Itr 0 j.toNat) H1
def iRngW2 (ta : TA) : TI := fun σ H R => ta σ H fun vs H1 => ∃ i j : Int, vs = [.int i, .int j] ∧ R (Itr i (j - i).toNat) H1
theorem pi_rangeW1 {a : Expr} {ta : TA} {p pos : Pos} (hg : Gl X "range") (hm : X.mg "range" = none) (ha : PA X [a] ta) (hs : starEach [a] X.env = [(false, eval a X.env)] := by rfl) : PI X tg (.Call (.Name "range" p) [a] [] pos) (iRngW1 ta) := by
  refine ⟨fun pins s σ H R I h => ?_⟩
  refine Call_ (ld_blt I hg hm boot_range (PyProof.Rows.callWith_type1 (thn (ha.run pos pins s σ H _ I h) fun us s1 ⟨vs, H1, I1, r1, q1⟩ => ?_) hs rfl))
  obtain ⟨j, e, q⟩ := q1
  subst e
  cases r1 with
  | cons r rr =>
    cases rr
    obtain ⟨t, rfl⟩ := r
    exact call_range_1 (range_itW I1 (by simpa using q))
theorem pi_rangeW2 {a b : Expr} {ta : TA} {p pos : Pos} (hg : Gl X "range") (hm : X.mg "range" = none) (ha : PA X [a, b] ta) (hs : starEach [a, b] X.env = [(false, eval a X.env), (false, eval b X.env)] := by rfl) (hs2 : starEach [b] X.env = [(false, eval b X.env)] := by rfl) :
    PI X tg (.Call (.Name "range" p) [a, b] [] pos) (iRngW2 ta) := by
  refine ⟨fun pins s σ H R I h => ?_⟩
  refine Call_ (ld_blt I hg hm boot_range (PyProof.Rows.callWith_type1 (thn (ha.run pos pins s σ H _ I h) fun us s1 ⟨vs, H1, I1, r1, q1⟩ => ?_) (by rw [hs, hs2]) (by rw [hs2]; rfl)))
  obtain ⟨i, j, e, q⟩ := q1
  subst e
  cases r1 with
  | cons r rr =>
    cases rr with
    | cons r' rr =>
      cases rr
      obtain ⟨t, rfl⟩ := r
      obtain ⟨t', rfl⟩ := r'
      exact call_range_2 (range_itW I1 q)
end
end Rx
namespace Rx
open PySem PySem.Spec PyProof.Rows L2
/-- a def's promise, asked only where no text is under way -/
structure FnG (P : Program) (w : World) (K : PySem.W.Frag) (mg : Str → Option Value) (base : Heap) (k : Nat) (f : Addr) (fd : FuncData) (ps : List Str) (sp : Sp) : Prop where
  len : ∀ vs H Q E, sp vs H Q E → vs.length = ps.length
  run : ∀ (A : Around), A.guards = some [] → Room k A → ∀ (outer : List Env) (s : Shared) (H : Hp) (args : Args) (us : List Value) (vs : List V) (Q : VK) (E : XK), Env0 P w K mg base A outer s H → BindsTo s fd args (ps.zip us) → Vals vs us → sp vs H Q E →
    codeAny (model P w) A (.call (.ref f) args) (CR CX0 outer P w H s Q E) s
theorem FnG.of {P : Program} {w : World} {K : PySem.W.Frag} {mg : Str → Option Value} {base : Heap} {k : Nat} {f : Addr} {fd : FuncData} {ps : List Str} {sp : Sp} (F : FnOk P w K mg base CX0 k f fd ps sp) : FnG P w K mg base k f fd ps sp :=
  ⟨F.len, fun A _ hr outer s H args us vs Q E => F.run A outer s H args us vs Q E hr⟩
section
variable {X : Cx} {k : Nat} {f : Addr} {fd : FuncData} {ps : List Str} {sp : Sp} {x : Str} {e : Expr} {es : List Expr} {p pos : Pos} {t : TA}
theorem runG {pins : List (Addr × Obj)} {σ : L2.St} {H : Hp} {s : Shared} {Q : VK} {us : List Value} {vs : List V} (F : FnG X.prog X.w X.K X.mg X.base k f fd ps sp) (hg : X.A.guards = some []) (hr : Room k X.A) (hb : Binds X.K fd ps [])
    (I : Inv X pins σ H s) (r : Vals vs us) (h : sp vs H Q E0) : wpAny (model X.prog X.w) X.A (call (.ref f) us) (EP X pins σ Q) X.xe s := by
  have hl : us.length = ps.length := r.length.symm.trans (F.len _ _ _ _ h)
  have bt := hb s us I.kIn (by rw [List.append_nil]; exact hl)
  rw [List.append_nil] at bt
  refine wpAny_call (codeAny_mono (F.run X.A hg hr X.stack s H ⟨us, []⟩ us vs Q E0 I.env0 bt r h) fun out s' hq => ?_)
  rcases out with err | fl
  · exact pass0 pins σ H s err s' I hq
  · rcases fl with _ | _ | _ | u
    all_goals first | exact I.after hq | exact hq.elim
/-- f(e, ..) -/
theorem pe_callG (F : FnG X.prog X.w X.K X.mg X.base k f fd ps sp) (gu : X.A.guards = some []) (hr : Room k X.A) (hg : Gl X x) (hm : X.mg x = some (.ref f)) (hk : PySem.W.keepIn X.K (.ref f) = true) (hb : Binds X.K fd ps []) (ha : PA X (e :: es) t)
    (hdb : (x == ("__debug__" : Str)) = false := by decide) (he : starEach (e :: es) X.env = (false, eval e X.env) :: starEach es X.env := by rfl) (hpl : (backTo pos (starEach es X.env)).any (·.1) = false := by rfl) :
    PE X (.Call (.Name x p) (e :: es) [] pos) (tCall sp [] E0 t) :=
  ⟨fun pins s σ H Q I h => wpAny_Call_Name_kw (ld_glob I hg hm (PySem.W.callWith_K (h₀ := X.base) I.ok.mod.kin hk (thn (ha.run pos pins s σ H _ I h) fun us s1 ⟨vs, H1, I1, r, q⟩ => ⟨I1.kIn, runG F gu hr hb I1 r (by have q' : sp (vs ++ []) H1 Q E0 := q; rwa [List.append_nil] at q')⟩) he hpl) hdb)⟩
end
section
variable {P : Program} {w : World} {K : PySem.W.Frag} {mg : Str → Option Value} {base : Heap}
/-- a def whose body is read where no text is under way -/
theorem okG {x qual : Str} {st : Stmt} {f : Addr} {fd : FuncData} {N ps : List Str} {k : Nat} {sp : Sp} (F : Fun K x qual st f fd) (S : FnScope N ps (defScope st)) (len : ∀ vs H Q E, sp vs H Q E → vs.length = ps.length)
    (hbody : ∀ (cdv : Value) (A : Around) (outer : List Env) (s : Shared) (H : Hp) (vs : List V) (Q : VK) (E : XK), A.guards = some [] → Room k (A.deeper (envOfC qual (defScope st) s.heap.objs.size f cdv)) → sp vs H Q E →
      ∃ t, PSs (cxOf CX0 P w K mg base N qual (defScope st) f cdv A outer s H E).nox (defBody st) t ∧ t { nx := fun _ H' => Q .non H', rt := Q } (start N vs) H) : FnG P w K mg base (k + 1) f fd ps sp := by
  obtain ⟨oc, od, kV, doc, pm, an, cdv, ct, osl, rfl, lk, hcd⟩ := F.ex
  refine ⟨len, fun A gu hr outer s H args us vs Q E en bt rv hs => ?_⟩
  have inK : K.In s.heap := en.mod.kin.keeps fun b o h => (en.bs b o h).1
  have names : ∀ y ∈ ps.zip us, (defScope st).names.lookup y.1 = some .local ∨ ((defScope st).names.lookup y.1 = some .cell ∧ ((cellsFrom (s.heap.objs.size + 1) (defScope st).names []).lookup y.1).isSome = true) := by
    rintro ⟨n, v⟩ hy
    exact (S.par n (List.of_mem_zip hy).1).imp id fun q => ⟨q, PySem.W.cellsFrom_some _ _ _ (.inl q)⟩
  refine codeAny_call_function hr.depth (inK _ _ lk) rfl S.co S.gen rfl (PySem.W.codeRec_of inK hcd) (bt _ _ _ _ (wpAny_newFunctionEnv_cells S.kind names fun env he s1 inner => ?_))
  subst he
  refine ⟨(en.mod.nolimit.keeps fun b o h => (en.bs b o h).1).keeps inner.toInCall.keep, codeAny_func ?_⟩
  obtain ⟨t, ht, hq⟩ := hbody cdv A outer s H vs Q E gu (hr.deeper _) hs
  have start0 : Inv (cxOf CX0 P w K mg base N qual (defScope st) f cdv A outer s H E) [] (start N vs) H s1 := inv_start S hr.hd en (len _ _ _ _ hs) rv inner
  have leave : ∀ {σ' : L2.St} {H' : Hp} {v : V} {u : Value} {s' : Shared}, Inv (cxOf CX0 P w K mg base N qual (defScope st) f cdv A outer s H E) [] σ' H' s' → RelV v u → Q v H' → CE outer P w H s Q u s' :=
    fun {σ' H' v u s'} J r q => ⟨v, H', J.os, J.bare, J.base, J.hok, r, q⟩
  refine wpAny_mono (ht.nox.run [] s1 (start N vs) H _ start0 hq) (fun fl s' hs' => ?_) fun _ _ h => h
  rcases fl with _ | _ | _ | u
  · obtain ⟨σ', H', J, q⟩ := hs'
    exact leave (v := V.non) (u := Value.none) J rfl q
  · obtain ⟨_, _, _, q⟩ := hs'
    exact q.elim
  · obtain ⟨_, _, _, q⟩ := hs'
    exact q.elim
  · obtain ⟨v, σ', H', J, r, q⟩ := hs'
    exact leave J r q
end
/-! the law's own call, where nothing is under way -/
section
variable {P : Program} {w : World} {K : PySem.W.Frag} {mg mb : Str → Option Value} {k : Nat} {fa a : Addr} {fd : FuncData} {x : Str} {sp : Sp} {s1 : Shared} {vs : List Value} {ns : List Int}
abbrev EndG (h : Heap) (os : OsState) (r : Result) (s' : Shared) : Prop := r = .ok (.ret (.bool true)) ∧ OldK h s'.heap ∧ s'.os = os ∧ AllBare s'.gens
/-- from one abstract heap that tells the script alone, if at all -/
theorem callG_at (inK : K.In s1.heap) (top : s1.heap.Ns mainGlobals mg) (bl : s1.heap.Ns builtinsNs mb) (blb : ∀ x : Str, x ≠ "__name__" → mb x = bootBuiltins x) (nl : s1.heap.NoLimit) (ng : s1.gens = #[])
    (obj : s1.heap.get? a = some { cls := .type "list", data := .seq vs.toArray }) (hr : Room k callerA) (F : ∀ base : Heap, K.In base → base.Ns mainGlobals mg → FnG P w K mg base k fa fd [x] sp) (bind : ∀ (s : Shared) (u : Value), BindsTo s fd ⟨[u], []⟩ [(x, u)])
    {H : Hp} (only : Only H) (ok : HOk P w H s1.heap) (at_a : ∀ b, H b ≠ none → b = a) (own : H a ≠ none → K.lookup a = none) (q : sp [.ref a] H (fun v _ => v = .bl true) E0) :
    codeAny (model P w) callerA (.call (.ref fa) ⟨[.ref a], []⟩) (EndG s1.heap s1.os) s1 := by
  have told : ∀ b, H b = none ∨ b = a := fun b => (Classical.em (H b = none)).imp id (at_a b)
  have keepN : ∀ {b : Addr} {m : Str → Option Value}, s1.heap.Ns b m → (hidT s1.heap H).Ns b m := fun {b m} ⟨o, es, ep, e, d, r⟩ => ⟨o, es, ep, hidT_get e ((told b).elim id fun z => by
    subst z
    rw [obj] at e
    cases e
    cases (show Data.seq vs.toArray _ = Data.dict es ep from d)), d, r⟩
  have keepK : K.In (hidT s1.heap H) := fun b o e => hidT_get (inK b o e) ((told b).elim id fun z => by
    subst z
    exact Classical.byContradiction fun n => by
      rw [own n] at e
      cases e)
  have md : Mod K mg (hidT s1.heap H) := ⟨keepK, keepN top, ⟨mb, keepN bl, blb⟩, nl.imp fun _ h => ⟨keepN h.1, h.2⟩⟩
  have en : Env0 P w K mg (hidT s1.heap H) callerA [] s1 H := ⟨rfl, md, fun b o e => of_hidT e, Nat.le_of_eq (hidT_size _ _), trivial, fun b hb => (List.not_mem_nil hb).elim, ok, .of_eq ng⟩
  refine codeAny_mono ((F _ keepK (keepN top)).run callerA rfl hr [] s1 H ⟨[.ref a], []⟩ [.ref a] [.ref a] _ _ en (bind s1 (.ref a)) (.cons rfl .nil) q) fun r s' h => ?_
  rcases r with e | fl
  · exact (show False from h).elim
  · rcases fl with _ | _ | _ | u
    · exact (show False from h).elim
    · exact (show False from h).elim
    · exact (show False from h).elim
    · obtain ⟨v, H', os, bare, un, ok', rv, qv⟩ := h
      cases (show v = .bl true from qv)
      cases (show u = Value.bool true from rv)
      refine ⟨rfl, OldK.of_keep fun b o e => ?_, os, bare⟩
      rcases only b with z | ⟨ob, xs, z⟩
      · exact un.keep b o e z (List.not_mem_nil) (List.not_mem_nil)
      · have e1 := (ok b _ z).1
        have e2 := (ok' b _ (un.frzs b ob _ z)).1
        exact (Option.some.inj (e.symm.trans e1)) ▸ e2
theorem callG (inK : K.In s1.heap) (top : s1.heap.Ns mainGlobals mg) (bl : s1.heap.Ns builtinsNs mb) (blb : ∀ x : Str, x ≠ "__name__" → mb x = bootBuiltins x) (nl : s1.heap.NoLimit) (ng : s1.gens = #[])
    (obj : s1.heap.get? a = some { cls := .type "list", data := .seq vs.toArray }) (its0 : IntsAre vs ns) (small : ns.length ≤ sizeLine) (hr : Room k callerA) (F : ∀ base : Heap, K.In base → base.Ns mainGlobals mg → FnG P w K mg base k fa fd [x] sp)
    (bind : ∀ (s : Shared) (u : Value), BindsTo s fd ⟨[u], []⟩ [(x, u)]) (q : ∀ H : Hp, Only H → SqL K H a (ns.map V.int) → sp [.ref a] H (fun v _ => v = .bl true) E0) :
    codeAny (model P w) callerA (.call (.ref fa) ⟨[.ref a], []⟩) (EndG s1.heap s1.os) s1 := by
  have rv := vals_ints its0
  have lv := its0.length
  cases hk : K.lookup a with
  | some o =>
    have e := inK a o hk
    rw [obj] at e
    cases e
    have sq : SqL K (fun _ => none) a (ns.map V.int) := .inr ⟨_, vs.toArray, _, hk, rfl, rfl, rfl, by rw [List.size_toArray, lv]; exact small, by simpa using rv⟩
    exact callG_at inK top bl blb nl ng obj hr F bind (H := fun _ => none) (fun _ => .inl rfl) (fun b u z => nomatch (show (none : Option HO) = some u from z)) (fun b z => absurd rfl z) (fun z => absurd rfl z) (q _ (fun _ => .inl rfl) sq)
  | none =>
    generalize hH : (fun b => if b = a then some (HO.frz { cls := .type "list", data := .seq vs.toArray } (.lst (ns.map V.int))) else none : Hp) = H
    have here : H a = some (.frz { cls := .type "list", data := .seq vs.toArray } (.lst (ns.map V.int))) := by rw [← hH]; exact if_pos rfl
    have else_ : ∀ b, b ≠ a → H b = none := fun b n => by rw [← hH]; exact if_neg n
    have only : Only H := fun b => (Classical.em (b = a)).elim (fun e => .inr ⟨{ cls := .type "list", data := .seq vs.toArray }, ns.map V.int, by rw [e]; exact here⟩) fun n => .inl (else_ b n)
    refine callG_at inK top bl blb nl ng obj hr F bind only (fun b u z => ?_) (fun b z => Classical.byContradiction fun n => z (else_ b n)) (fun _ => hk) (q _ only (.inl (.inr ⟨_, here⟩)))
    by_cases e : b = a
    · subst e
      rw [here] at z
      cases z
      exact ⟨obj, by rw [List.length_map]; exact small, vs, _, rv, obj⟩
    · rw [else_ b e] at z
      cases z
end
/-- the goal behind the head of an open law, by a promise that may tell texts of lists -/
theorem walk_ofG {l : PySem.W.OpenLaw} {n k : Nat} {q : Program} {loose : List Str} {XP : (Str → Option Value) → Heap → Prop} {YP : World → Heap → Prop} {d : DefRec} {K : Params → PySem.W.Frag} {sp : World → Sp} {x : Str}
    (most : l.most = some n) (small : n ≤ sizeLine) (plain : d.params.defaults = []) (hr : Room k callerA) (inK : ∀ (w : World) (h : Heap), YP w h → (K w.params).In h)
    (F : ∀ (w : World) (mg : Str → Option Value) (fa : Addr) (h : Heap), (K w.params).In h → h.Ns mainGlobals mg → mg d.name = some (.ref fa) →
      ∃ fd : FuncData, (∀ (s : Shared) (u : Value), BindsTo s fd ⟨[u], []⟩ [(x, u)]) ∧ ∀ base : Heap, (K w.params).In base → base.Ns mainGlobals mg → FnG l.prog w (K w.params) mg base k fa fd [x] (sp w))
    (enter : ∀ (w : World) (H : Hp) (a : Addr) (ns : List Int), ns.length ≤ n → Only H → SqL (K w.params) H a (ns.map V.int) → sp w [.ref a] H (fun v _ => v = .bl true) E0) :
    PySem.W.WalkO q loose XP YP l.row.toRowW d [] (fun f vs => PySem.call f vs) := by
  refine Att.attach_call most plain fun w s₀ s₁ mg mb fa o pm cd doc a vs ns G Y ho hd hcd hmg obj its0 len ng => ?_
  obtain ⟨fd, bind, hF⟩ := F w mg fa _ (inK w _ Y) G.T.g hmg
  exact callG (inK w _ Y) G.T.g G.T.b G.T.builtins G.T.nolimit ng obj its0 (Nat.le_trans len small) hr hF bind fun H only sq => enter w H a ns len only sq
/-! repr of lists and tuples -/
def rReprD (K : PySem.W.Frag) : List V → Hp → VK → Prop := fun xs H Q => ∃ (a : Addr) (d : PyData), xs = [.ref a] ∧ Dp K H (.ref a) d ∧ d.showable = true ∧ d.hasDict = false ∧ d.depth ≤ 60 ∧ d.shown.length ≤ sizeLine ∧ Q (.str d.shown) H
theorem call_reprD {X : Cx} {k : Nat} (gu : X.A.guards = some []) (hr : Room k X.A) : CallR X (.builtin "repr") (rReprD X.K) := by
  intro pins s σ H xs us Q I r h
  obtain ⟨a, d, rfl, dp, sh, nd, dep, len, q⟩ := h
  obtain ⟨u, rfl, ru⟩ := r.one
  cases ru
  obtain ⟨as, rd⟩ := Dp.reads I d _ _ dp rfl
  have un := hr.un
  refine repr_of_reads' (h₀ := s.heap) rd sh (fun z => by rw [nd] at z; cases z) gu (by omega) (fun _ _ h => h) (fun h' u tk keep => ?_) len
  exact ⟨.str d.shown, H, I.kept keep, ⟨u, rfl⟩, q⟩
/-- repr of any plain data -/
def rReprA (K : PySem.W.Frag) : List V → Hp → VK → Prop := fun xs H Q => ∃ (x : V) (d : PyData), xs = [x] ∧ Dp K H x d ∧ d.showable = true ∧ d.hasDict = false ∧ d.depth ≤ 60 ∧ d.shown.length ≤ sizeLine ∧ Q (.str d.shown) H
theorem call_reprA {X : Cx} {k : Nat} (gu : X.A.guards = some []) (hr : Room k X.A) : CallR X (.builtin "repr") (rReprA X.K) := by
  intro pins s σ H xs us Q I r h
  obtain ⟨x, d, rfl, dp, sh, nd, dep, len, q⟩ := h
  have big : ∀ a, x = .ref a → wpAny (model X.prog X.w) X.A (call (.builtin "repr") us) (EP X pins σ Q) X.xe s := fun a e => by
    subst e
    exact call_reprD gu hr pins s σ H _ us Q I r ⟨a, d, rfl, dp, sh, nd, dep, len, q⟩
  cases dp with
  | non =>
    obtain ⟨u, rfl, ru⟩ := r.one
    cases (show u = Value.none from ru)
    exact P.repr_of_none ⟨.str PyData.none.shown, H, I.tok _, ⟨_, rfl⟩, q⟩
  | bl b =>
    obtain ⟨u, rfl, ru⟩ := r.one
    cases (show u = Value.bool b from ru)
    exact P.repr_of_bool ⟨.str (PyData.bool b).shown, H, I.tok _, ⟨_, rfl⟩, q⟩
  | int i =>
    obtain ⟨u, rfl, t, rfl⟩ := r.one
    exact P.repr_of_int (of_decide_eq_true sh) ⟨.str (PyData.int i).shown, H, I.tok _, ⟨_, rfl⟩, q⟩
  | str z =>
    obtain ⟨u, rfl, t, rfl⟩ := r.one
    exact P.repr_of_str ⟨.str (PyData.str z).shown, H, I.tok _, ⟨_, rfl⟩, q⟩ len
  | lst _ _ => exact big _ rfl
  | tup _ _ => exact big _ rfl
section
variable {K : PySem.W.Frag} {ms : List Addr} {H : Hp} {d : D} {x : V}
theorem rep_repr {P : PyData → Prop} (h : rep ms H d x) (p : plainD d = true) (sh : (pyOf d).showable = true) (nd : (pyOf d).hasDict = false) (dep : (pyOf d).depth ≤ 60) (len : (pyOf d).shown.length ≤ sizeLine) (q : P (pyOf d)) :
    ∃ (x' : V) (d : PyData), [x] = [x'] ∧ Dp K H x' d ∧ d.showable = true ∧ d.hasDict = false ∧ d.depth ≤ 60 ∧ d.shown.length ≤ sizeLine ∧ P d :=
  ⟨x, _, rfl, dp_of (K := K) d x p h, sh, nd, dep, len, q⟩
end
/-! [e for x in range(lo, hi) if test]; min and max of a list of ints -/
section
variable {β : Type} {K : PySem.W.Frag} {ms ps : List Addr} {cs : List (Addr × List V)} {H0 H1 : Hp} {g : TG} {tt : TT} {te : TE} {vl : List Nat} {σ : L2.St} {Qd : Hp → Prop}
theorem lf_rangeC {lo hi : Int} {N : Nat} {L : Addr} {eb : β → D} {body : Int → (Option β → Prop) → Prop} {KM : List β → Prop} (hN : N = (hi - lo).toNat) (w : Wd ms ps cs H0 H1) (nl : H1 L = none) (hM : (rangeI lo hi).length < 100000 ∧ filC body (rangeI lo hi) [] KM)
    (hs : ∀ (x : Int) (n : Nat) (ys : List β) (vs : List V) (k : Option β → Prop) (H : Hp), n < 100000 → Trn ms ps cs H0 H1 L eb n ys vs H → body x k → ∀ Nx : Hp → Prop,
        (∀ y vs' H', k (some y) → Trn ms ps cs H0 H1 L eb (n + 1) (ys ++ [y]) vs' H' → Nx H') → (∀ vs' H', k none → Trn ms ps cs H0 H1 L eb (n + 1) ys vs' H' → Nx H') →
      g (.int x) (wipe σ vl) H fun σ2 H2 => wipe σ2 vl = wipe σ vl ∧ tt σ2 H2 fun b H3 => if b = true then te σ2 H3 fun y H4 => ∃ acc, H4 L = some (.lst acc) ∧ acc.length < sizeLine ∧ Nx (upd H4 L (.lst (acc ++ [y]))) else Nx H3)
    (hd : ∀ ys H, KM ys → Wd ms ps cs H0 H → Keep ms H1 H → rep ms H (.lst (ys.map eb)) (.ref L) → Qd H) :
    ∃ W : Nat → Nat → Hp → Prop, (∃ m, W 0 m (upd H1 L (.lst []))) ∧ ∀ i m H, W i m H →
      ((Itr lo N).stop i H ∧ Qd H) ∨ ((Itr lo N).go i H ∧ ∃ Nx : Hp → Prop, (∀ H', Nx H' → ∃ m', m' < m ∧ W (i + 1) m' H') ∧ ∀ x H', (Itr lo N).yld i H x H' → g x (wipe σ vl) H' fun σ2 H2 => wipe σ2 vl = wipe σ vl ∧ tt σ2 H2 fun b H3 =>
        if b = true then te σ2 H3 fun y H4 => ∃ acc, H4 L = some (.lst acc) ∧ acc.length < sizeLine ∧ Nx (upd H4 L (.lst (acc ++ [y]))) else Nx H3) := by
  obtain ⟨hn, hM⟩ := hM
  subst hN
  rw [rangeI_len] at hn
  refine ⟨fun i m H => m = (hi - lo).toNat - i ∧ i ≤ (hi - lo).toNat ∧ ∃ ys vs, Trn ms ps cs H0 H1 L eb i ys vs H ∧ filC body ((rangeI lo hi).drop i) ys KM, ⟨_, rfl, Nat.zero_le _, [], [], Trn.start w nl, hM⟩, ?_⟩
  rintro i m H ⟨rfl, hi', ys, vs, T, q⟩
  by_cases hlt : i < (hi - lo).toNat
  · refine .inr ⟨hlt, fun H' => i + 1 ≤ (hi - lo).toNat ∧ ∃ ys vs, Trn ms ps cs H0 H1 L eb (i + 1) ys vs H' ∧ filC body ((rangeI lo hi).drop (i + 1)) ys KM, fun H' p' => ⟨_, by omega, rfl, p'⟩, fun x H' y => ?_⟩
    obtain ⟨e, y⟩ := y
    subst e y
    rw [drop_cons' (rangeI_get hlt)] at q
    exact hs _ i ys vs _ H' (by omega) T q _ (fun y vs' H' k T' => ⟨hlt, _, _, T', k⟩) fun vs' H' k T' => ⟨hlt, _, _, T', k⟩
  · have e : i = (hi - lo).toNat := by omega
    refine .inl ⟨by rw [e]; exact Nat.le_refl _, ?_⟩
    have q' : KM ys := by
      rw [List.drop_of_length_le (by rw [rangeI_len]; omega)] at q
      exact q
    obtain ⟨w', k', r'⟩ := T.done w nl
    exact hd ys H q' w' k' r'
variable {x : V} {H : Hp}
theorem rep_minL {ns : List Int} {P : List Int → Prop} (h : rep ms H (.lst (ns.map fun n => D.v (.int n))) x) (ne : 0 < ns.length) (q : P ns) :
    ∃ (a : Addr) (ns : List Int), [x] = [V.ref a] ∧ SqL K H a (ns.map V.int) ∧ 0 < ns.length ∧ P ns := by
  simp only [rep] at h
  obtain ⟨p, vs, e, _, hp, hr⟩ := h
  have ev := repL_ints hr
  subst ev e
  exact ⟨p, ns, rfl, .inl (.inl hp), ne, q⟩
end
/-! repr and str of own instances, by the class's own def -/
def rOwnText (C : Addr) (sp : Sp) (E : XK) : List V → Hp → VK → Prop := fun xs H Q => ∃ (x : V) (a dx : Addr) (fs : List (Str × V)), xs = [x] ∧ x = .ref a ∧ H a = some (.ins C dx fs) ∧ sp [x] H (fun v H' => ∃ z : Str, v = .str z ∧ Q v H') E
structure OwnText (K : PySem.W.Frag) (C : Addr) (name : Str) (f : Addr) : Prop where
  hs : PySem.W.findIn K (.ref C) name = some (some (.ref f))
  hf : PySem.W.isFn K (.ref f) = true
section
variable {X : Cx} {n : Nat} {CX : CXT} {C f : Addr} {fd : FuncData} {ps : List Str} {sp : Sp} {E : XK}
theorem ownText_run (F : FnOk X.prog X.w X.K X.mg X.base CX n f fd ps sp) {A : Around} (hr : Room n A) (hb : Binds X.K fd ps []) (hx : Passes CX X E) {pins : List (Addr × Obj)} {σ : L2.St} {H : Hp} {s : Shared} {a : Addr} {Q : VK} (I : Inv X pins σ H s)
    (en : Env0 X.prog X.w X.K X.mg X.base A X.stack s H) (h : sp [.ref a] H (fun v H' => ∃ z : Str, v = .str z ∧ Q v H') E) : wpAny (model X.prog X.w) A (call (.ref f) [.ref a]) (PySem.W.StrBack (EP X pins σ Q)) X.xe s := by
  have hl := F.len _ _ _ _ h
  have bt := hb s [.ref a] I.kIn (by rw [List.append_nil]; exact hl)
  rw [List.append_nil] at bt
  refine wpAny_call (codeAny_mono (F.run A X.stack s H ⟨[.ref a], []⟩ [.ref a] [.ref a] _ E hr en bt (.cons rfl .nil) h) fun out s' hq => ?_)
  rcases out with err | fl
  · exact hx pins σ H s err s' I hq
  · rcases fl with _ | _ | _ | u
    · exact hq.elim
    · exact hq.elim
    · exact hq.elim
    · obtain ⟨v, H', I', rv, z, ez, q⟩ := I.after hq
      subst ez
      obtain ⟨t, rfl⟩ := rv
      exact ⟨.str z, H', I', ⟨t, rfl⟩, q⟩
theorem call_reprOwn (F : FnOk X.prog X.w X.K X.mg X.base CX n f fd ps sp) (hr : Room (n + 1) X.A) (o : OwnText X.K C "__repr__" f) (hb : Binds X.K fd ps []) (hx : Passes CX X E) : CallR X (.builtin "repr") (rOwnText C sp E) := by
  intro pins s σ H xs us Q I r h
  obtain ⟨x, a, dx, fs, rfl, rfl, ha, hsp⟩ := h
  obtain ⟨u, rfl, ru⟩ := r.one
  cases ru
  obtain ⟨mA, J, _⟩ := ins_get I.hok ha
  obtain ⟨od, J, _⟩ := J.look
  obtain ⟨m, hF⟩ := I.fr
  exact PySem.W.repr_K hr.in1.units0 hF I.ok.mod.kin J o.hs o.hf (ownText_run F hr.in1 hb hx I I.env0.in1 hsp)
theorem call_strOwn (F : FnOk X.prog X.w X.K X.mg X.base CX n f fd ps sp) (hr : Room (n + 2) X.A) (o : OwnText X.K C "__str__" f) (hb : Binds X.K fd ps []) (hx : Passes CX X E) : CallR X (.type "str") (rOwnText C sp E) := by
  intro pins s σ H xs us Q I r h
  obtain ⟨x, a, dx, fs, rfl, rfl, ha, hsp⟩ := h
  obtain ⟨u, rfl, ru⟩ := r.one
  cases ru
  obtain ⟨mA, J, _⟩ := ins_get I.hok ha
  obtain ⟨od, J, _⟩ := J.look
  exact PySem.W.kso_call hr.in1.in1.units0 I.kIn J o.hs o.hf (ownText_run F hr.in1.in1 hb hx I I.env0.in1.in1 hsp)
end
theorem rep_ownText {ms : List Addr} {H : Hp} {C : Addr} {ns : List Str} {ds : List D} {u : V} {P : V → Prop} (h : rep ms H (.ins C ns ds) u) (k : P u) :
    ∃ (x : V) (a dx : Addr) (fs : List (Str × V)), [u] = [x] ∧ x = .ref a ∧ H a = some (.ins C dx fs) ∧ P x := by
  obtain ⟨p, dx, fs, e, hp⟩ := rep_ins h
  exact ⟨u, p, dx, fs, rfl, e, hp, k⟩
/-! results that may be None -/
def encO {α : Type} (e : α → D) : Option α → D
  | none => .v .non
  | some y => e y
theorem rep_isN {α : Type} {e : α → D} {ms : List Addr} {H : Hp} {m : Option α} {u : V} (he : ∀ y, ∃ ds, e y = .tup ds) (h : rep ms H (encO e m) u) : decide (u = .non) = m.isNone := by
  cases m with
  | none =>
    rw [of_v h]
    rfl
  | some y =>
    obtain ⟨ds, ed⟩ := he y
    have h' : rep ms H (e y) u := h
    rw [ed] at h'
    simp only [rep] at h'
    obtain ⟨p, _, e1, _⟩ := h'
    rw [e1]
    rfl
theorem rep_isSome {α : Type} {e : α → D} {ms : List Addr} {H : Hp} {m : Option α} {u : V} (he : ∀ y, ∃ ds, e y = .tup ds) (h : rep ms H (encO e m) u) : (!decide (u = .non)) = m.isSome := by
  rw [rep_isN he h]
  cases m <;> rfl
theorem rep_some {α : Type} {e : α → D} {ms : List Addr} {H : Hp} {m : Option α} {u : V} {y : α} (hy : m = some y) (h : rep ms H (encO e m) u) : rep ms H (e y) u := by
  subst hy
  exact h
/-! a def called by keywords alone -/
def tCallKw (n : Nat) (gV : List V → List V → List V) (sp : Sp) (E : XK) (tk : TA) : TE := fun σ H Q => tk σ H fun zs H1 => zs.length = n ∧ sp (gV [] zs) H1 Q E
theorem pe_callKw {X : Cx} {CX : CXT} {k : Nat} {f : Addr} {fd : FuncData} {ps ks : List Str} {sp : Sp} {E : XK} {x : Str} {p pos : Pos} {kws : List Keyword} {tk : TA} {g : List Value → List Value → List Value} {gV : List V → List V → List V}
    (F : FnOk X.prog X.w X.K X.mg X.base CX k f fd ps sp) (hr : Room k X.A) (hg : Gl X x) (hm : X.mg x = some (.ref f)) (hk : PySem.W.keepIn X.K (.ref f) = true) (hb : KBn X.K fd ps 0 ks g gV) (hx : Passes CX X E) (hkw : PK X kws tk)
    (hall : (backToKw pos (keywordEach kws X.env)).all (·.1.isSome) = true := by rfl) (hks : (backToKw pos (keywordEach kws X.env)).filterMap (·.1) = ks := by rfl) (hdb : (x == ("__debug__" : Str)) = false := by decide)
    (hpl : ((backTo pos (starEach [] X.env)).any (·.1) || (backToKw pos (keywordEach kws X.env)).any (·.1.isNone)) = false := by rfl) : PE X (.Call (.Name x p) [] kws pos) (tCallKw ks.length gV sp E tk) :=
  ⟨fun pins s σ H Q I h => wpAny_Call_Name_kw (ld_glob I hg hm (PySem.W.callWith_KW0 (first := []) (h₀ := X.base) I.ok.mod.kin hk hall (thn (hkw.run pos pins s σ H _ I h) fun ws s2 ⟨zs, H2, I2, rz, l2, q2⟩ => ⟨I2.kIn, by
    rw [hks]
    exact run_fnN (us := []) (vs := []) F hr hb hx I2 .nil rz rfl l2 q2⟩) hpl) hdb)⟩
end Rx
namespace Rx
open PySem PySem.Spec PyProof.Rows L2
section
variable {K : PySem.W.Frag} {ms ps : List Addr} {cs : List (Addr × List V)} {H0 H H1 H' : Hp} {x : V} {ds : List D}
theorem wd_none {p : Addr} (w : Wd ms ps cs H0 H) (np : H p = none) : H0 p = none := by
  cases q : H0 p with
  | none => rfl
  | some o => exact absurd np (w.grow p (by rw [q]; exact fun z => nomatch z))
def rLstOf (K : PySem.W.Frag) : List V → Hp → VK → Prop := fun xs H Q => ∃ p ys, xs = [.ref p] ∧ (SqL K H p ys ∨ SqT K H p ys) ∧ ∀ l, H l = none → Q (.ref l) (upd H l (.lst ys))
theorem rep_listT {P : List V → Prop} (h : rep ms H (.tup ds) x) (k : ∀ ys, repL ms H ds ys → P ys) :
    ∃ p ys, [x] = [.ref p] ∧ (SqL K H p ys ∨ SqT K H p ys) ∧ P ys := by
  simp only [rep] at h
  obtain ⟨p, vs, rfl, _, hp, hr⟩ := h
  exact ⟨p, vs, rfl, .inr (.inl (.inl hp)), k vs hr⟩
theorem rep_listL {P : List V → Prop} (h : rep ms H (.lst ds) x) (k : ∀ ys, repL ms H ds ys → P ys) :
    ∃ p ys, [x] = [.ref p] ∧ (SqL K H p ys ∨ SqT K H p ys) ∧ P ys := by
  simp only [rep] at h
  obtain ⟨p, vs, rfl, _, hp, hr⟩ := h
  exact ⟨p, vs, rfl, .inl (.inl (.inl hp)), k vs hr⟩
mutual
theorem rep_noL {L : Addr} {vs vs' : List V} (hL : H L = some (.lst vs)) : ∀ (d : D) (u : V), noL d = true → rep ms H d u → rep ms (upd H L (.lst vs')) d u
  | .v x, u, _, h => by
    simp only [rep] at h ⊢
    exact h
  | .lst ds, u, n, h => by
    simp only [noL] at n
    cases n
  | .tup ds, u, n, h => by
    simp only [noL] at n
    simp only [rep] at h ⊢
    obtain ⟨p, us, e, np, hp, hl⟩ := h
    refine ⟨p, us, e, np, ?_, repL_noL hL ds us n hl⟩
    rw [upd_ne (fun z => by rw [z, hL] at hp; cases hp)]
    exact hp
  | .ins C ns ds, u, n, h => by
    simp only [noL] at n
    simp only [rep] at h ⊢
    obtain ⟨p, dx, us, e, np, hp, hn, hl⟩ := h
    refine ⟨p, dx, us, e, np, ?_, hn, repL_noL hL ds us n hl⟩
    rw [upd_ne (fun z => by rw [z, hL] at hp; cases hp)]
    exact hp
  | .dct ks ds, u, n, h => by
    simp only [noL] at n
    simp only [rep] at h ⊢
    obtain ⟨p, us, e, np, hp, hn, hl⟩ := h
    refine ⟨p, us, e, np, ?_, hn, repL_noL hL ds us n hl⟩
    rw [upd_ne (fun z => by rw [z, hL] at hp; cases hp)]
    exact hp
theorem repL_noL {L : Addr} {vs vs' : List V} (hL : H L = some (.lst vs)) : ∀ (ds : List D) (us : List V), noLs ds = true → repL ms H ds us → repL ms (upd H L (.lst vs')) ds us
  | [], us, _, h => by
    simp only [repL] at h ⊢
    exact h
  | d :: ds, us, n, h => by
    simp only [noLs, Bool.and_eq_true] at n
    simp only [repL] at h ⊢
    obtain ⟨u, ws, e, h1, h2⟩ := h
    exact ⟨u, ws, e, rep_noL hL d u n.1 h1, repL_noL hL ds ws n.2 h2⟩
end
theorem noLs_map {α : Type} {e : α → D} (hn : ∀ x, noL (e x) = true) : ∀ xs : List α, noLs (xs.map e) = true
  | [] => rfl
  | x :: xs => by
    show (noL (e x) && noLs (xs.map e)) = true
    rw [hn x, noLs_map hn xs]
    rfl
theorem repL_set {α : Type} {e : α → D} {y : α} {v : V} : ∀ {xs : List α} {vs : List V} (j : Nat), repL ms H (xs.map e) vs → rep ms H (e y) v → repL ms H ((xs.set j y).map e) (vs.set j v)
  | [], vs, j, h, r => by
    have ev : vs = [] := by
      simp only [List.map_nil, repL] at h
      exact h
    subst ev
    simpa using h
  | x :: xs, vs, 0, h, r => by
    simp only [List.map_cons, repL] at h
    obtain ⟨u, us, rfl, h1, h2⟩ := h
    exact repL_cons r h2
  | x :: xs, vs, j + 1, h, r => by
    simp only [List.map_cons, repL] at h
    obtain ⟨u, us, rfl, h1, h2⟩ := h
    exact repL_cons h1 (repL_set j h2 r)
/-- L, a list of this def's own, may be told anew -/
theorem wd_own {L : Addr} {vs vs' : List V} (w : Wd ms ps cs H0 H) (nm : L ∉ ms) (hL : H L = some (.lst vs)) (o : H0 L = none) : Wd ms ps cs H0 (upd H L (.lst vs')) := by
  refine ⟨fun a o' n h => ?_, fun a h => ?_, fun m h => ?_, fun a h => ?_, w.pm, fun c h => ?_⟩
  · rw [upd_ne (ne_of_none h o)]
    exact w.kp a o' n h
  · by_cases e : a = L
    · rw [e, upd_same]
      exact fun z => nomatch z
    · rw [upd_ne e]
      exact w.grow a h
  · rw [upd_ne (fun z => nm (by rw [← z]; exact h))]
    exact w.tr m h
  · obtain ⟨i, j, h1, h3⟩ := w.pot a h
    exact ⟨i, j, by rw [upd_ne (fun z => nm (by rw [← z]; exact w.pm a h))]; exact h1, h3⟩
  · obtain ⟨h1, h3, h4, h5⟩ := w.cel c h
    exact ⟨by rw [upd_ne (fun z => nm (by rw [← z]; exact h3))]; exact h1, h3, h4, h5⟩
theorem rep_setL {α : Type} {e : α → D} {xs : List α} {y : α} {k : Int} {v : V} {L : Addr} {Q : Hp → Prop} (w : Wd ms ps cs H0 H) (h : rep ms H (.lst (xs.map e)) (.ref L)) (o : H0 L = none) (hn : ∀ x, noL (e x) = true)
    (h0 : 0 ≤ k) (hj : k.toNat < xs.length) (r : rep ms H (e y) v)
    (kk : ∀ H', Wd ms ps cs H0 H' → rep ms H' (.lst ((xs.set k.toNat y).map e)) (.ref L) → (∀ d u, noL d = true → rep ms H d u → rep ms H' d u) → Q H') : rSetL (.ref L) (.int k) v H Q := by
  simp only [rep] at h
  obtain ⟨p, vs, e1, np, hp, hr⟩ := h
  cases e1
  have hl := repL_len hr
  rw [List.length_map] at hl
  refine ⟨L, vs, k, k.toNat, rfl, rfl, hp, ?_, kk _ (wd_own w np hp o) ?_ fun d u n h => rep_noL hp d u n h⟩
  · unfold ixN
    rw [if_pos h0, if_pos (by omega)]
  · simp only [rep]
    exact ⟨L, _, rfl, np, upd_same, repL_set _ (repL_noL hp _ _ (noLs_map hn xs) hr) (rep_noL hp _ _ (hn y) r)⟩
end

/-! rules whose reading names the frame itself (within a comprehension its context is not known to the reading) -/
section
variable {X : Cx} {K : PySem.W.Frag}
theorem ix_listK (hK : X.K = K) : IxR X (rIxL K) := by
  subst hK
  exact ix_list
theorem ix_tupK (hK : X.K = K) : IxR X (rIxT K) := by
  subst hK
  exact ix_tup
end
end Rx
namespace Rx
open PySem PySem.Spec PyProof.Rows L2
section
variable {K : PySem.W.Frag} {ms ms' ps : List Addr} {H0 H H' H1 : Hp} {L L' : Addr} {d d' : D} {ds : List D} {u x : V} {vs : List V}
/-- what stands at L -/
def valO (ms : List Addr) (H : Hp) (L : Addr) : D → Prop
  | .lst ds => ∃ vs, H L = some (.lst vs) ∧ repL ms H ds vs
  | .dct ks ds => ∃ vs, H L = some (.dK (ks.zip vs)) ∧ ks.length = vs.length ∧ repL ms H ds vs
  | _ => False
theorem valO_map (f : ∀ p o, p ∉ ms → H p = some o → p ∉ ms' ∧ H' p = some o) (g : ∀ o, H L = some o → H' L = some o) : ∀ d : D, valO ms H L d → valO ms' H' L d
  | .lst ds, ⟨vs, h1, h2⟩ => ⟨vs, g _ h1, repL_map f ds vs h2⟩
  | .dct ks ds, ⟨vs, h1, h2, h3⟩ => ⟨vs, g _ h1, h2, repL_map f ds vs h3⟩
  | .v _, h => h
  | .tup _, h => h
  | .ins _ _ _, h => h
structure MutO (ms ps : List Addr) (H0 H : Hp) (L : Addr) (d : D) : Prop where
  im : L ∈ ms
  hp : L ∉ ps
  h0 : H0 L = none
  val : valO ms H L d
theorem MutO.some (m : MutO ms ps H0 H L d) : ∃ o, H L = some o := by
  have h := m.val
  cases d with
  | lst ds => exact ⟨_, h.choose_spec.1⟩
  | dct ks ds => exact ⟨_, h.choose_spec.1⟩
  | v _ => exact h.elim
  | tup _ => exact h.elim
  | ins _ _ _ => exact h.elim
theorem mo_ret (w : Wd ms ps [] H0 H) (e : Ret ps H H') (m : MutO ms ps H0 H L d) : MutO ms ps H0 H' L d :=
  ⟨m.im, m.hp, m.h0, valO_map (fun p o n hp => ⟨n, e.kp p o (fun z => n (w.pm p z)) hp⟩) (fun o h => e.kp L o m.hp h) d m.val⟩
theorem mo_ext (e : Ret [] H H') (m : MutO ms ps H0 H L d) : MutO ms ps H0 H' L d :=
  ⟨m.im, m.hp, m.h0, valO_map (fun p o n hp => ⟨n, e.kp p o (by simp) hp⟩) (fun o h => e.kp L o (by simp) h) d m.val⟩
theorem mo_ne (nl : H L = none) (m : MutO ms ps H0 H L' d) : L' ≠ L := fun z => by
  obtain ⟨o, h⟩ := m.some
  rw [z, nl] at h
  cases h
theorem mo_cell {o : HO} (nl : H L = none) (m : MutO ms ps H0 H L' d) : MutO (L :: ms) ps H0 (upd H L o) L' d :=
  ⟨List.mem_cons_of_mem _ m.im, m.hp, m.h0, valO_map (fun p o n hp => ⟨fun z => by
    rcases List.mem_cons.mp z with z | z
    · exact ne_of_none hp nl z
    · exact n z, by rw [upd_ne (ne_of_none hp nl)]; exact hp⟩) (fun o h => by rw [upd_ne (mo_ne nl m)]; exact h) d m.val⟩
theorem mo_put {o : HO} (lm : L ∈ ms) (ne : L' ≠ L) (m : MutO ms ps H0 H L' d) : MutO ms ps H0 (upd H L o) L' d :=
  ⟨m.im, m.hp, m.h0, valO_map (fun p o n hp => ⟨n, by rw [upd_ne (fun z => n (by rw [z]; exact lm))]; exact hp⟩) (fun o h => by rw [upd_ne ne]; exact h) d m.val⟩
theorem mo_sub (s : ∀ a ∈ ms', a ∈ ms) (i : L ∈ ms') (m : MutO ms ps H0 H L d) : MutO ms' ps H0 H L d :=
  ⟨i, m.hp, m.h0, valO_map (fun p o n hp => ⟨fun z => n (s p z), hp⟩) (fun o h => h) d m.val⟩
theorem rep_sub (s : ∀ a ∈ ms', a ∈ ms) (h : rep ms H d u) : rep ms' H d u := rep_map (fun p o n hp => ⟨fun z => n (s p z), hp⟩) d u h
theorem wd_sub (s : ∀ a ∈ ms', a ∈ ms) (hp : ∀ a ∈ ps, a ∈ ms') (w : Wd ms ps [] H0 H) : Wd ms' ps [] H0 H :=
  ⟨w.kp, w.grow, fun m h => w.tr m (s m h), w.pot, hp, fun _ h => absurd h List.not_mem_nil⟩
theorem keep_sub (h : ∀ a ∈ ms, a ∈ ms' ∨ H1 a = none) (k : Keep ms H1 H) : Keep ms' H1 H := fun a o n e => k a o (fun z => by
  rcases h a z with z | z
  · exact n z
  · rw [z] at e
    cases e) e
theorem mo_rep (n : L ∉ ms') (s : ∀ a ∈ ms', a ∈ ms) (m : MutO ms ps H0 H L d) : rep ms' H d (.ref L) := by
  have h := m.val
  cases d with
  | lst ds =>
    obtain ⟨vs, h1, h2⟩ := h
    simp only [rep]
    exact ⟨L, vs, rfl, n, h1, repL_map (fun p o n hp => ⟨fun z => n (s p z), hp⟩) ds vs h2⟩
  | dct ks ds =>
    obtain ⟨vs, h1, h2, h3⟩ := h
    simp only [rep]
    exact ⟨L, vs, rfl, n, h1, h2, repL_map (fun p o n hp => ⟨fun z => n (s p z), hp⟩) ds vs h3⟩
  | v _ => exact h.elim
  | tup _ => exact h.elim
  | ins _ _ _ => exact h.elim
/-- a new thing of one's own -/
theorem wd_cell {o : HO} (w : Wd ms ps [] H0 H) (nl : H L = none) : Wd (L :: ms) ps [] H0 (upd H L o) := by
  have w1 := w.ret0 (Ext.new (o := o) nl)
  refine ⟨w1.kp, w1.grow, fun m h => ?_, w1.pot, fun a h => List.mem_cons_of_mem _ (w.pm a h), fun _ h => absurd h List.not_mem_nil⟩
  rcases List.mem_cons.mp h with rfl | h
  · rw [upd_same]
    exact fun z => nomatch z
  · exact w1.tr m h
theorem pot_new (w : Wd ms ps [] H0 H) (nl : H L = none) : L ∉ ps := fun z => by
  obtain ⟨i, j, h, _⟩ := w.pot L z
  rw [nl] at h
  cases h
theorem nm_new (w : Wd ms ps [] H0 H) (nl : H L = none) : L ∉ ms := fun z => w.tr L z nl
theorem mo_newL (w : Wd ms ps [] H0 H) (nl : H L = none) (r : repL ms H ds vs) : MutO (L :: ms) ps H0 (upd H L (.lst vs)) L (.lst ds) :=
  ⟨List.mem_cons_self, pot_new w nl, wd_none w nl, vs, upd_same, repL_map (fun p o n hp => ⟨fun z => by
    rcases List.mem_cons.mp z with z | z
    · exact ne_of_none hp nl z
    · exact n z, by rw [upd_ne (ne_of_none hp nl)]; exact hp⟩) _ _ r⟩
theorem mo_newD {ks : List Key} (w : Wd ms ps [] H0 H) (nl : H L = none) (hl : ks.length = vs.length) (r : repL ms H ds vs) : MutO (L :: ms) ps H0 (upd H L (.dK (ks.zip vs))) L (.dct ks ds) :=
  ⟨List.mem_cons_self, pot_new w nl, wd_none w nl, vs, upd_same, hl, repL_map (fun p o n hp => ⟨fun z => by
    rcases List.mem_cons.mp z with z | z
    · exact ne_of_none hp nl z
    · exact n z, by rw [upd_ne (ne_of_none hp nl)]; exact hp⟩) _ _ r⟩
/-- told anew -/
theorem wd_put {o : HO} (w : Wd ms ps [] H0 H) (m : MutO ms ps H0 H L d) : Wd ms ps [] H0 (upd H L o) := by
  refine ⟨fun a o' n h => ?_, fun a h => ?_, fun a h => ?_, fun a h => ?_, w.pm, fun _ h => absurd h List.not_mem_nil⟩
  · rw [upd_ne (ne_of_none h m.h0)]
    exact w.kp a o' n h
  · by_cases e : a = L
    · rw [e, upd_same]
      exact fun z => nomatch z
    · rw [upd_ne e]
      exact w.grow a h
  · by_cases e : a = L
    · rw [e, upd_same]
      exact fun z => nomatch z
    · rw [upd_ne e]
      exact w.tr a h
  · obtain ⟨i, j, h1, h3⟩ := w.pot a h
    exact ⟨i, j, by rw [upd_ne (fun z => m.hp (by rw [← z]; exact h))]; exact h1, h3⟩
theorem mo_setL (m : MutO ms ps H0 H L d) (r : repL ms H ds vs) : MutO ms ps H0 (upd H L (.lst vs)) L (.lst ds) :=
  ⟨m.im, m.hp, m.h0, vs, upd_same, repL_put m.im r⟩
theorem mo_appU {P : Addr → List V → V → Prop} (m : MutO ms ps H0 H L (.lst ds)) (hl : ds.length < 16777216) (k : ∀ vs, repL ms H ds vs → P L vs u) :
    ∃ (l : Addr) (xs : List V) (y : V), V.ref L = .ref l ∧ [u] = [y] ∧ H l = some (.lst xs) ∧ xs.length < sizeLine ∧ P l xs y := by
  obtain ⟨vs, h1, h2⟩ := m.val
  refine ⟨L, vs, u, rfl, rfl, h1, ?_, k vs h2⟩
  rw [← repL_len h2, sizeLine_eq]
  exact hl
theorem mo_tyL (m : MutO ms ps H0 H L (.lst ds)) : tyV K "list" (.ref L) H := by
  obtain ⟨vs, h1, h2⟩ := m.val
  exact .inl ⟨rfl, vs, .inl (.inl h1)⟩
theorem mo_setU {α : Type} {e : α → D} {xs : List α} {k : Int} {v : V} {Q : Hp → Prop} (m : MutO ms ps H0 H L (.lst (xs.map e))) (h0 : 0 ≤ k) (hj : k.toNat < xs.length)
    (kk : ∀ vs, repL ms H (xs.map e) vs → Q (upd H L (.lst (vs.set k.toNat v)))) : rSetL (.ref L) (.int k) v H Q := by
  obtain ⟨vs, h1, h2⟩ := m.val
  have hl := repL_len h2
  rw [List.length_map] at hl
  refine ⟨L, vs, k, k.toNat, rfl, rfl, h1, ?_, kk vs h2⟩
  unfold ixN
  rw [if_pos h0, if_pos (by omega)]
/-- a list of one's own, as the comprehension's end wants it -/
theorem mo_end {n : Nat} {Nx : Hp → Prop} (m : MutO ms ps H0 H L (.lst ds)) (hn : n < 100000) (hy : ds.length ≤ n) (h : ∀ vs, repL ms H ds vs → Nx (upd H L (.lst (vs ++ [u])))) :
    ∃ acc, H L = some (.lst acc) ∧ acc.length < sizeLine ∧ Nx (upd H L (.lst (acc ++ [u]))) := by
  obtain ⟨vs, h1, h2⟩ := m.val
  refine ⟨vs, h1, ?_, h vs h2⟩
  have q := repL_len h2
  have e : sizeLine = 16777216 := sizeLine_eq
  omega
theorem repL_snoc {α : Type} {e : α → D} {xs : List α} {y : α} (r : repL ms H (xs.map e) vs) (h : rep ms H (e y) u) : repL ms H ((xs ++ [y]).map e) (vs ++ [u]) := by
  rw [List.map_append]
  exact repL_app r (repL_one h)
theorem repL_cat {α : Type} {e : α → D} {xs ys : List α} {us : List V} (r : repL ms H (xs.map e) vs) (h : repL ms H (ys.map e) us) : repL ms H ((xs ++ ys).map e) (vs ++ us) := by
  rw [List.map_append]
  exact repL_app r h
end

/-! loops by any invariant -/
section
variable {α S : Type} {K : PySem.W.Frag} {H1 : Hp} {g : TG} {tb : TS} {D' : Ends} {σ : L2.St}
theorem for_rangeG {lo hi : Int} {N : Nat} {body : Int → S → (S → Prop) → Prop} {KM : S → Prop} (SI : S → L2.St → Hp → Prop) (s0 : S) (hN : N = (hi - lo).toNat) (hM : forC body (rangeI lo hi) s0 KM) (h0 : SI s0 σ H1)
    (hs : ∀ (x : Int) (s : S) (k : S → Prop) (σ : L2.St) (H : Hp), SI s σ H → body x s k → ∀ Nx : L2.St → Hp → Prop, (∀ s' σ' H', k s' → SI s' σ' H' → Nx σ' H') →
      g (.int x) σ H fun σ2 H2 => tb { D' with nx := Nx, ct := Nx, bk := D'.nx } σ2 H2)
    (hd : ∀ s σ H, KM s → SI s σ H → D'.nx σ H) :
    ∃ W : Nat → Nat → L2.St → Hp → Prop, (∃ m, W 0 m σ H1) ∧ ∀ i m σ H, W i m σ H →
      ((Itr lo N).stop i H ∧ D'.nx σ H) ∨ ((Itr lo N).go i H ∧ ∃ Nx : L2.St → Hp → Prop, (∀ σ' H', Nx σ' H' → ∃ m', m' < m ∧ W (i + 1) m' σ' H') ∧ ∀ x H', (Itr lo N).yld i H x H' → g x σ H' fun σ2 H2 => tb { D' with nx := Nx, ct := Nx, bk := D'.nx } σ2 H2) := by
  subst hN
  refine for_range (lo := lo) (n := (hi - lo).toNat) (D := D') (fun i σ H => ∃ s, SI s σ H ∧ forC body ((rangeI lo hi).drop i) s KM) ⟨s0, h0, hM⟩ (fun i σ H hi' ⟨s, si, q⟩ => ?_) (fun σ H ⟨s, si, q⟩ => ?_)
  · rw [drop_cons' (rangeI_get hi')] at q
    exact hs _ s _ σ H si q _ fun s' σ' H' hk si2 => ⟨s', si2, hk⟩
  · rw [List.drop_of_length_le (by rw [rangeI_len]; exact Nat.le_refl _)] at q
    exact hd s σ H q si
theorem for_listG {items : List α} {e : α → D} {ms : List Addr} {a : Addr} {xs : List V} {body : α → S → (S → Prop) → Prop} {KM : S → Prop} (SI : S → L2.St → Hp → Prop) (s0 : S) (an : a ∉ ms) (ha : H1 a = some (.lst xs)) (hx : repL ms H1 (items.map e) xs)
    (kp : ∀ s σ H, SI s σ H → Keep ms H1 H) (hM : forC body items s0 KM) (h0 : SI s0 σ H1)
    (hs : ∀ (x : α) (u : V) (s : S) (k : S → Prop) (σ : L2.St) (H : Hp), SI s σ H → rep ms H (e x) u → body x s k → ∀ Nx : L2.St → Hp → Prop, (∀ s' σ' H', k s' → SI s' σ' H' → Nx σ' H') →
      g u σ H fun σ2 H2 => tb { D' with nx := Nx, ct := Nx, bk := D'.nx } σ2 H2)
    (hd : ∀ s σ H, KM s → SI s σ H → D'.nx σ H) :
    ∃ W : Nat → Nat → L2.St → Hp → Prop, (∃ m, W 0 m σ H1) ∧ ∀ i m σ H, W i m σ H →
      ((Itl K a).stop i H ∧ D'.nx σ H) ∨ ((Itl K a).go i H ∧ ∃ Nx : L2.St → Hp → Prop, (∀ σ' H', Nx σ' H' → ∃ m', m' < m ∧ W (i + 1) m' σ' H') ∧ ∀ x H', (Itl K a).yld i H x H' → g x σ H' fun σ2 H2 => tb { D' with nx := Nx, ct := Nx, bk := D'.nx } σ2 H2) := by
  have hl : items.length = xs.length := by
    have := repL_len hx
    rwa [List.length_map] at this
  refine for_list (xs := xs) (D := D') (fun i σ H => ∃ s, SI s σ H ∧ forC body (items.drop i) s KM) ⟨s0, h0, hM⟩ (fun i σ H _ ⟨s, si, _⟩ => .inl (.inl (kp s σ H si a _ an ha))) (fun i x σ H hx' ⟨s, si, q⟩ => ?_) (fun σ H ⟨s, si, q⟩ => ?_)
  · have hi : i < xs.length := (List.getElem?_eq_some_iff.mp hx').1
    have hit : items[i]? = some (items[i]'(by omega)) := List.getElem?_eq_getElem (by omega)
    rw [drop_cons' hit] at q
    obtain ⟨v, hv, rv⟩ := repL_get (repL_keep (kp s σ H si) hx) (j := i) (d := e (items[i]'(by omega))) (by rw [List.getElem?_map, hit]; rfl)
    rw [hx'] at hv
    have ev : x = v := Option.some.inj hv
    subst ev
    exact hs _ x s _ σ H si rv q _ fun s' σ' H' hk si2 => ⟨s', si2, hk⟩
  · rw [List.drop_of_length_le (by omega)] at q
    exact hd s σ H q si
theorem while_G {c : TT} {fuel : Nat} {body : S → (S → Prop) → (S → Prop) → Prop} {KM : S → Prop} (SI : S → L2.St → Hp → Prop) (s0 : S) (hM : whileC body fuel s0 KM) (h0 : SI s0 σ H1)
    (hs : ∀ (s : S) (k1 k2 : S → Prop) (σ : L2.St) (H : Hp), SI s σ H → body s k1 k2 → ∀ (Nx : L2.St → Hp → Prop) (Ex : L2.St → Hp → Prop), (∀ s' σ' H', k1 s' → SI s' σ' H' → Nx σ' H') → (∀ s' σ' H', k2 s' → SI s' σ' H' → Ex σ' H') →
      c σ H fun b H1 => if b = true then tb { D' with nx := Nx, ct := Nx, bk := D'.nx } σ H1 else Ex σ H1)
    (hd : ∀ s σ H, KM s → SI s σ H → D'.nx σ H)
    (mono : ∀ σ H Q Q', (∀ b H1, Q b H1 → Q' b H1) → c σ H Q → c σ H Q') : tWhile c tb D' σ H1 := by
  refine ⟨fun m σ H => ∃ s, SI s σ H ∧ whileC body m s KM, ⟨fuel, s0, h0, hM⟩, ?_⟩
  rintro m σ H ⟨s, si, q⟩
  cases m with
  | zero => exact False.elim q
  | succ m =>
    refine mono _ _ _ _ (fun b H2 hb => ?_) (hs s _ _ σ H si q (fun σ' H' => ∃ s, SI s σ' H' ∧ whileC body m s KM) D'.nx (fun s' σ' H' hk si2 => ⟨s', si2, hk⟩) fun s' σ' H' hk si2 => hd s' σ' H' hk si2)
    cases b with
    | true => exact ⟨_, fun σ' H' p => ⟨m, Nat.lt_succ_self m, p⟩, hb⟩
    | false => exact hb
end

/-! comprehensions by any invariant -/
section
variable {α β : Type} {K : PySem.W.Frag} {H1 H2 : Hp} {g : TG} {tt : TT} {te : TE} {vl : List Nat} {σ : L2.St} {Qd : Hp → Prop} {L : Addr}
/-- one turn -/
abbrev Turn (g : TG) (tt : TT) (te : TE) (vl : List Nat) (σ : L2.St) (L : Addr) (u : V) (H : Hp) (Nx : Hp → Prop) : Prop :=
  g u (wipe σ vl) H fun σ2 H2 => wipe σ2 vl = wipe σ vl ∧ tt σ2 H2 fun b H3 => if b = true then te σ2 H3 fun y H4 => ∃ acc, H4 L = some (.lst acc) ∧ acc.length < sizeLine ∧ Nx (upd H4 L (.lst (acc ++ [y]))) else Nx H3
theorem lc_rangeG {lo hi : Int} {N : Nat} {body : Int → (β → Prop) → Prop} {KM : List β → Prop} (SI : Nat → List β → Hp → Prop) (hN : N = (hi - lo).toNat) (hM : (rangeI lo hi).length < 100000 ∧ mapC body (rangeI lo hi) [] KM) (h0 : SI 0 [] (upd H1 L (.lst [])))
    (hs : ∀ (x : Int) (n : Nat) (ys : List β) (k : β → Prop) (H : Hp), n < 100000 → SI n ys H → body x k → ∀ Nx : Hp → Prop, (∀ y H', k y → SI (n + 1) (ys ++ [y]) H' → Nx H') → Turn g tt te vl σ L (.int x) H Nx)
    (hd : ∀ n ys H, KM ys → SI n ys H → Qd H) :
    ∃ W : Nat → Nat → Hp → Prop, (∃ m, W 0 m (upd H1 L (.lst []))) ∧ ∀ i m H, W i m H →
      ((Itr lo N).stop i H ∧ Qd H) ∨ ((Itr lo N).go i H ∧ ∃ Nx : Hp → Prop, (∀ H', Nx H' → ∃ m', m' < m ∧ W (i + 1) m' H') ∧ ∀ x H', (Itr lo N).yld i H x H' → g x (wipe σ vl) H' fun σ2 H2 => wipe σ2 vl = wipe σ vl ∧ tt σ2 H2 fun b H3 =>
        if b = true then te σ2 H3 fun y H4 => ∃ acc, H4 L = some (.lst acc) ∧ acc.length < sizeLine ∧ Nx (upd H4 L (.lst (acc ++ [y]))) else Nx H3) := by
  obtain ⟨hn, hM⟩ := hM
  subst hN
  rw [rangeI_len] at hn
  refine ⟨fun i m H => m = (hi - lo).toNat - i ∧ i ≤ (hi - lo).toNat ∧ ∃ ys, SI i ys H ∧ mapC body ((rangeI lo hi).drop i) ys KM, ⟨_, rfl, Nat.zero_le _, [], h0, hM⟩, ?_⟩
  rintro i m H ⟨rfl, hi', ys, T, q⟩
  by_cases hlt : i < (hi - lo).toNat
  · refine .inr ⟨hlt, fun H' => i + 1 ≤ (hi - lo).toNat ∧ ∃ ys, SI (i + 1) ys H' ∧ mapC body ((rangeI lo hi).drop (i + 1)) ys KM, fun H' p' => ⟨_, by omega, rfl, p'⟩, fun x H' y => ?_⟩
    obtain ⟨e, y⟩ := y
    subst e y
    rw [drop_cons' (rangeI_get hlt)] at q
    exact hs _ i ys _ H' (by omega) T q _ fun y H' k T' => ⟨hlt, _, T', k⟩
  · have e : i = (hi - lo).toNat := by omega
    refine .inl ⟨by rw [e]; exact Nat.le_refl _, ?_⟩
    rw [List.drop_of_length_le (by rw [rangeI_len]; omega)] at q
    exact hd _ ys H q T
theorem lf_rangeG {lo hi : Int} {N : Nat} {body : Int → (Option β → Prop) → Prop} {KM : List β → Prop} (SI : Nat → List β → Hp → Prop) (hN : N = (hi - lo).toNat) (hM : (rangeI lo hi).length < 100000 ∧ filC body (rangeI lo hi) [] KM) (h0 : SI 0 [] (upd H1 L (.lst [])))
    (hs : ∀ (x : Int) (n : Nat) (ys : List β) (k : Option β → Prop) (H : Hp), n < 100000 → SI n ys H → body x k → ∀ Nx : Hp → Prop, (∀ y H', k (some y) → SI (n + 1) (ys ++ [y]) H' → Nx H') → (∀ H', k none → SI (n + 1) ys H' → Nx H') → Turn g tt te vl σ L (.int x) H Nx)
    (hd : ∀ n ys H, KM ys → SI n ys H → Qd H) :
    ∃ W : Nat → Nat → Hp → Prop, (∃ m, W 0 m (upd H1 L (.lst []))) ∧ ∀ i m H, W i m H →
      ((Itr lo N).stop i H ∧ Qd H) ∨ ((Itr lo N).go i H ∧ ∃ Nx : Hp → Prop, (∀ H', Nx H' → ∃ m', m' < m ∧ W (i + 1) m' H') ∧ ∀ x H', (Itr lo N).yld i H x H' → g x (wipe σ vl) H' fun σ2 H2 => wipe σ2 vl = wipe σ vl ∧ tt σ2 H2 fun b H3 =>
        if b = true then te σ2 H3 fun y H4 => ∃ acc, H4 L = some (.lst acc) ∧ acc.length < sizeLine ∧ Nx (upd H4 L (.lst (acc ++ [y]))) else Nx H3) := by
  obtain ⟨hn, hM⟩ := hM
  subst hN
  rw [rangeI_len] at hn
  refine ⟨fun i m H => m = (hi - lo).toNat - i ∧ i ≤ (hi - lo).toNat ∧ ∃ ys, SI i ys H ∧ filC body ((rangeI lo hi).drop i) ys KM, ⟨_, rfl, Nat.zero_le _, [], h0, hM⟩, ?_⟩
  rintro i m H ⟨rfl, hi', ys, T, q⟩
  by_cases hlt : i < (hi - lo).toNat
  · refine .inr ⟨hlt, fun H' => i + 1 ≤ (hi - lo).toNat ∧ ∃ ys, SI (i + 1) ys H' ∧ filC body ((rangeI lo hi).drop (i + 1)) ys KM, fun H' p' => ⟨_, by omega, rfl, p'⟩, fun x H' y => ?_⟩
    obtain ⟨e, y⟩ := y
    subst e y
    rw [drop_cons' (rangeI_get hlt)] at q
    exact hs _ i ys _ H' (by omega) T q _ (fun y H' k T' => ⟨hlt, _, T', k⟩) fun H' k T' => ⟨hlt, _, T', k⟩
  · have e : i = (hi - lo).toNat := by omega
    refine .inl ⟨by rw [e]; exact Nat.le_refl _, ?_⟩
    rw [List.drop_of_length_le (by rw [rangeI_len]; omega)] at q
    exact hd _ ys H q T
theorem lc_strG {z : Str} {body : Str → (β → Prop) → Prop} {KM : List β → Prop} (SI : Nat → List β → Hp → Prop) (hM : (signs z).length < 100000 ∧ mapC body (signs z) [] KM) (h0 : SI 0 [] (upd H1 L (.lst [])))
    (hs : ∀ (x : Str) (n : Nat) (ys : List β) (k : β → Prop) (H : Hp), n < 100000 → SI n ys H → body x k → ∀ Nx : Hp → Prop, (∀ y H', k y → SI (n + 1) (ys ++ [y]) H' → Nx H') → Turn g tt te vl σ L (.str x) H Nx)
    (hd : ∀ n ys H, KM ys → SI n ys H → Qd H) :
    ∃ W : Nat → Nat → Hp → Prop, (∃ m, W 0 m (upd H1 L (.lst []))) ∧ ∀ i m H, W i m H →
      ((Its z).stop i H ∧ Qd H) ∨ ((Its z).go i H ∧ ∃ Nx : Hp → Prop, (∀ H', Nx H' → ∃ m', m' < m ∧ W (i + 1) m' H') ∧ ∀ x H', (Its z).yld i H x H' → g x (wipe σ vl) H' fun σ2 H2 => wipe σ2 vl = wipe σ vl ∧ tt σ2 H2 fun b H3 =>
        if b = true then te σ2 H3 fun y H4 => ∃ acc, H4 L = some (.lst acc) ∧ acc.length < sizeLine ∧ Nx (upd H4 L (.lst (acc ++ [y]))) else Nx H3) := by
  obtain ⟨hn, hM⟩ := hM
  rw [signs_len] at hn
  refine ⟨fun i m H => m = z.cps.size - i ∧ i ≤ z.cps.size ∧ ∃ ys, SI i ys H ∧ mapC body ((signs z).drop i) ys KM, ⟨_, rfl, Nat.zero_le _, [], h0, hM⟩, ?_⟩
  rintro i m H ⟨rfl, hi', ys, T, q⟩
  by_cases hlt : i < z.cps.size
  · refine .inr ⟨hlt, fun H' => i + 1 ≤ z.cps.size ∧ ∃ ys, SI (i + 1) ys H' ∧ mapC body ((signs z).drop (i + 1)) ys KM, fun H' p' => ⟨_, by omega, rfl, p'⟩, fun x H' y => ?_⟩
    obtain ⟨e, c, hc, y⟩ := y
    subst e y
    rw [drop_cons' (signs_get hc)] at q
    exact hs _ i ys _ H' (by omega) T q _ fun y H' k T' => ⟨hlt, _, T', k⟩
  · have e : i = z.cps.size := by omega
    refine .inl ⟨by rw [e]; exact Nat.le_refl _, ?_⟩
    rw [List.drop_of_length_le (by rw [signs_len]; omega)] at q
    exact hd _ ys H q T
/-- over a list; the items stand outside what changes -/
theorem lc_listG {items : List α} {e : α → D} {ms : List Addr} {a : Addr} {xs : List V} {body : α → (β → Prop) → Prop} {KM : List β → Prop} (SI : Nat → List β → Hp → Prop) (an : a ∉ ms) (ha : H1 a = some (.lst xs)) (hx : repL ms H1 (items.map e) xs) (nl : H1 L = none)
    (kp : ∀ n ys H, SI n ys H → Keep (L :: ms) H1 H) (hM : items.length < 100000 ∧ mapC body items [] KM) (h0 : SI 0 [] (upd H1 L (.lst [])))
    (hs : ∀ (x : α) (u : V) (n : Nat) (ys : List β) (k : β → Prop) (H : Hp), n < 100000 → SI n ys H → rep (L :: ms) H (e x) u → body x k → ∀ Nx : Hp → Prop, (∀ y H', k y → SI (n + 1) (ys ++ [y]) H' → Nx H') → Turn g tt te vl σ L u H Nx)
    (hd : ∀ n ys H, KM ys → SI n ys H → Qd H) :
    ∃ W : Nat → Nat → Hp → Prop, (∃ m, W 0 m (upd H1 L (.lst []))) ∧ ∀ i m H, W i m H →
      ((Itl K a).stop i H ∧ Qd H) ∨ ((Itl K a).go i H ∧ ∃ Nx : Hp → Prop, (∀ H', Nx H' → ∃ m', m' < m ∧ W (i + 1) m' H') ∧ ∀ x H', (Itl K a).yld i H x H' → g x (wipe σ vl) H' fun σ2 H2 => wipe σ2 vl = wipe σ vl ∧ tt σ2 H2 fun b H3 =>
        if b = true then te σ2 H3 fun y H4 => ∃ acc, H4 L = some (.lst acc) ∧ acc.length < sizeLine ∧ Nx (upd H4 L (.lst (acc ++ [y]))) else Nx H3) := by
  obtain ⟨hn, hM⟩ := hM
  have hl : items.length = xs.length := by
    have := repL_len hx
    rwa [List.length_map] at this
  have aM : a ∉ L :: ms := fun z => by
    rcases List.mem_cons.mp z with z | z
    · exact ne_of_none ha nl z
    · exact an z
  have hx1 : repL (L :: ms) H1 (items.map e) xs := repL_new nl hx
  refine ⟨fun i m H => m = xs.length - i ∧ i ≤ xs.length ∧ ∃ ys, SI i ys H ∧ mapC body (items.drop i) ys KM, ⟨_, rfl, Nat.zero_le _, [], h0, hM⟩, ?_⟩
  rintro i m H ⟨rfl, hi', ys, T, q⟩
  have hA : H a = some (.lst xs) := kp i ys H T a _ aM ha
  by_cases hlt : i < xs.length
  · refine .inr ⟨⟨xs, xs[i], .inl (.inl hA), by simp [hlt]⟩, fun H' => i + 1 ≤ xs.length ∧ ∃ ys, SI (i + 1) ys H' ∧ mapC body (items.drop (i + 1)) ys KM, fun H' p' => ⟨_, by omega, rfl, p'⟩, fun x H' y => ?_⟩
    obtain ⟨e1, y⟩ := y
    subst e1
    have hxi := y xs (.inl (.inl hA))
    have hit : items[i]? = some (items[i]'(by omega)) := List.getElem?_eq_getElem (by omega)
    rw [drop_cons' hit] at q
    obtain ⟨v, hv, rv⟩ := repL_get (repL_keep (kp i ys H' T) hx1) (j := i) (d := e (items[i]'(by omega))) (by rw [List.getElem?_map, hit]; rfl)
    rw [hxi] at hv
    have ev : x = v := Option.some.inj hv
    subst ev
    exact hs _ x i ys _ H' (by omega) T rv q _ fun y H'' k T' => ⟨hlt, _, T', k⟩
  · refine .inl ⟨⟨xs, .inl (.inl hA), by omega⟩, ?_⟩
    rw [List.drop_of_length_le (by omega)] at q
    exact hd _ ys H q T
theorem lf_listG {items : List α} {e : α → D} {ms : List Addr} {a : Addr} {xs : List V} {body : α → (Option β → Prop) → Prop} {KM : List β → Prop} (SI : Nat → List β → Hp → Prop) (an : a ∉ ms) (ha : H1 a = some (.lst xs)) (hx : repL ms H1 (items.map e) xs) (nl : H1 L = none)
    (kp : ∀ n ys H, SI n ys H → Keep (L :: ms) H1 H) (hM : items.length < 100000 ∧ filC body items [] KM) (h0 : SI 0 [] (upd H1 L (.lst [])))
    (hs : ∀ (x : α) (u : V) (n : Nat) (ys : List β) (k : Option β → Prop) (H : Hp), n < 100000 → SI n ys H → rep (L :: ms) H (e x) u → body x k → ∀ Nx : Hp → Prop, (∀ y H', k (some y) → SI (n + 1) (ys ++ [y]) H' → Nx H') → (∀ H', k none → SI (n + 1) ys H' → Nx H') → Turn g tt te vl σ L u H Nx)
    (hd : ∀ n ys H, KM ys → SI n ys H → Qd H) :
    ∃ W : Nat → Nat → Hp → Prop, (∃ m, W 0 m (upd H1 L (.lst []))) ∧ ∀ i m H, W i m H →
      ((Itl K a).stop i H ∧ Qd H) ∨ ((Itl K a).go i H ∧ ∃ Nx : Hp → Prop, (∀ H', Nx H' → ∃ m', m' < m ∧ W (i + 1) m' H') ∧ ∀ x H', (Itl K a).yld i H x H' → g x (wipe σ vl) H' fun σ2 H2 => wipe σ2 vl = wipe σ vl ∧ tt σ2 H2 fun b H3 =>
        if b = true then te σ2 H3 fun y H4 => ∃ acc, H4 L = some (.lst acc) ∧ acc.length < sizeLine ∧ Nx (upd H4 L (.lst (acc ++ [y]))) else Nx H3) := by
  obtain ⟨hn, hM⟩ := hM
  have hl : items.length = xs.length := by
    have := repL_len hx
    rwa [List.length_map] at this
  have aM : a ∉ L :: ms := fun z => by
    rcases List.mem_cons.mp z with z | z
    · exact ne_of_none ha nl z
    · exact an z
  have hx1 : repL (L :: ms) H1 (items.map e) xs := repL_new nl hx
  refine ⟨fun i m H => m = xs.length - i ∧ i ≤ xs.length ∧ ∃ ys, SI i ys H ∧ filC body (items.drop i) ys KM, ⟨_, rfl, Nat.zero_le _, [], h0, hM⟩, ?_⟩
  rintro i m H ⟨rfl, hi', ys, T, q⟩
  have hA : H a = some (.lst xs) := kp i ys H T a _ aM ha
  by_cases hlt : i < xs.length
  · refine .inr ⟨⟨xs, xs[i], .inl (.inl hA), by simp [hlt]⟩, fun H' => i + 1 ≤ xs.length ∧ ∃ ys, SI (i + 1) ys H' ∧ filC body (items.drop (i + 1)) ys KM, fun H' p' => ⟨_, by omega, rfl, p'⟩, fun x H' y => ?_⟩
    obtain ⟨e1, y⟩ := y
    subst e1
    have hxi := y xs (.inl (.inl hA))
    have hit : items[i]? = some (items[i]'(by omega)) := List.getElem?_eq_getElem (by omega)
    rw [drop_cons' hit] at q
    obtain ⟨v, hv, rv⟩ := repL_get (repL_keep (kp i ys H' T) hx1) (j := i) (d := e (items[i]'(by omega))) (by rw [List.getElem?_map, hit]; rfl)
    rw [hxi] at hv
    have ev : x = v := Option.some.inj hv
    subst ev
    exact hs _ x i ys _ H' (by omega) T rv q _ (fun y H'' k T' => ⟨hlt, _, T', k⟩) fun H'' k T' => ⟨hlt, _, T', k⟩
  · refine .inl ⟨⟨xs, .inl (.inl hA), by omega⟩, ?_⟩
    rw [List.drop_of_length_le (by omega)] at q
    exact hd _ ys H q T
end
end Rx
namespace Rx
open PySem PySem.Spec PyProof.Rows L2
/-! a thing of one's own is let go -/
structure Drop (ms : List Addr) (L : Addr) (ms' : List Addr) : Prop where
  sub : ∀ a ∈ ms', a ∈ ms
  ex : ∀ a ∈ ms, a ∈ ms' ∨ a = L
theorem dr_here {L : Addr} {ms : List Addr} : Drop (L :: ms) L ms := ⟨fun _ h => List.mem_cons_of_mem _ h, fun a h => (List.mem_cons.mp h).elim .inr .inl⟩
theorem dr_cons {L x : Addr} {ms ms' : List Addr} (d : Drop ms L ms') : Drop (x :: ms) L (x :: ms') :=
  ⟨fun a h => (List.mem_cons.mp h).elim (fun e => by rw [e]; exact List.mem_cons_self) fun h => List.mem_cons_of_mem _ (d.sub a h), fun a h => (List.mem_cons.mp h).elim (fun e => .inl (by rw [e]; exact List.mem_cons_self)) fun h => (d.ex a h).imp (List.mem_cons_of_mem _) id⟩
theorem nm_cons {L x : Addr} {ms : List Addr} (ne : L ≠ x) (n : L ∉ ms) : L ∉ x :: ms := fun z => (List.mem_cons.mp z).elim ne n
section
variable {K : PySem.W.Frag} {ms ms' ps : List Addr} {H0 H H' H1 : Hp} {L L' : Addr} {d d' : D} {ds : List D} {u x : V} {vs : List V}
theorem nm_dr (dr : Drop ms L ms') (n : L' ∉ ms) : L' ∉ ms' := fun z => n (dr.sub _ z)
theorem keep_dr (dr : Drop ms L ms') (n : H1 L = none) (k : Keep ms H1 H) : Keep ms' H1 H := fun a o na e => k a o (fun z => by
  rcases dr.ex a z with z | z
  · exact na z
  · rw [z, n] at e
    cases e) e
theorem wd_dr (dr : Drop ms L ms') (hp : L ∉ ps) (w : Wd ms ps [] H0 H) : Wd ms' ps [] H0 H := wd_sub dr.sub (fun a h => (dr.ex a (w.pm a h)).elim id fun e => absurd (by rw [← e]; exact h) hp) w
theorem rep_dr (dr : Drop ms L ms') (h : rep ms H d u) : rep ms' H d u := rep_sub dr.sub h
theorem repL_dr (dr : Drop ms L ms') (h : repL ms H ds vs) : repL ms' H ds vs := repL_map (fun p o n hp => ⟨fun z => n (dr.sub p z), hp⟩) ds vs h
theorem mo_dr (dr : Drop ms L ms') (ne : L' ≠ L) (m : MutO ms ps H0 H L' d) : MutO ms' ps H0 H L' d := mo_sub dr.sub ((dr.ex _ m.im).elim id fun e => absurd e ne) m
theorem mo_rep_dr (dr : Drop ms L ms') (n : L ∉ ms') (m : MutO ms ps H0 H L d) : rep ms' H d (.ref L) := mo_rep n dr.sub m
mutual
def noM : D → Bool
  | .v _ => true
  | .lst _ => false
  | .tup ds => noMs ds
  | .ins _ _ ds => noMs ds
  | .dct _ _ => false
def noMs : List D → Bool
  | [] => true
  | d :: ds => noM d && noMs ds
end
def isMo : Option HO → Prop
  | some (.lst _) => True
  | some (.dK _) => True
  | _ => False
theorem MutO.isMo (m : MutO ms ps H0 H L d) : isMo (H L) := by
  have h := m.val
  cases d with
  | lst ds =>
    rw [h.choose_spec.1]
    trivial
  | dct ks ds =>
    rw [h.choose_spec.1]
    trivial
  | v _ => exact h.elim
  | tup _ => exact h.elim
  | ins _ _ _ => exact h.elim
mutual
theorem rep_liftO (dr : Drop ms L ms') (hL : Rx.isMo (H L)) : ∀ (d : D) (u : V), noM d = true → rep ms' H d u → rep ms H d u
  | .v x, u, _, h => by
    simp only [rep] at h ⊢
    exact h
  | .lst ds, u, n, h => by
    simp only [noM] at n
    cases n
  | .dct _ ds, u, n, h => by
    simp only [noM] at n
    cases n
  | .tup ds, u, n, h => by
    simp only [noM] at n
    simp only [rep] at h ⊢
    obtain ⟨p, us, e, np, hp, hl⟩ := h
    refine ⟨p, us, e, fun z => ?_, hp, repL_liftO dr hL ds us n hl⟩
    rcases dr.ex p z with z | z
    · exact np z
    · rw [← z, hp] at hL
      exact hL
  | .ins C ns ds, u, n, h => by
    simp only [noM] at n
    simp only [rep] at h ⊢
    obtain ⟨p, dx, us, e, np, hp, hn, hl⟩ := h
    refine ⟨p, dx, us, e, fun z => ?_, hp, hn, repL_liftO dr hL ds us n hl⟩
    rcases dr.ex p z with z | z
    · exact np z
    · rw [← z, hp] at hL
      exact hL
theorem repL_liftO (dr : Drop ms L ms') (hL : Rx.isMo (H L)) : ∀ (ds : List D) (us : List V), noMs ds = true → repL ms' H ds us → repL ms H ds us
  | [], us, _, h => by
    simp only [repL] at h ⊢
    exact h
  | d :: ds, us, n, h => by
    simp only [noMs, Bool.and_eq_true] at n
    simp only [repL] at h ⊢
    obtain ⟨u, ws, e, h1, h2⟩ := h
    exact ⟨u, ws, e, rep_liftO dr hL d u n.1 h1, repL_liftO dr hL ds ws n.2 h2⟩
end
theorem mo_ixN {α : Type} {e : α → D} {xs : List α} {i : Int} {y : α} {Q : VK} (m : MutO ms ps H0 H L (.lst (xs.map e))) (hi : atI xs i = some y) (k : ∀ v, rep ms H (e y) v → Q v H) : rIxL K (.ref L) (.int i) H Q := by
  obtain ⟨vs, hp, hr⟩ := m.val
  have hl := repL_len hr
  rw [List.length_map] at hl
  unfold atI at hi
  cases hx : ixN xs.length i with
  | none =>
    rw [hx] at hi
    cases hi
  | some j =>
    rw [hx] at hi
    have hi' : xs[j]? = some y := hi
    obtain ⟨v, hv, rv⟩ := repL_get (d := e y) hr (by rw [List.getElem?_map, hi']; rfl)
    refine ⟨L, vs, i, v, rfl, rfl, .inl (.inl hp), ?_, k v rv⟩
    unfold atI
    rw [← hl, hx]
    exact hv
theorem mo_len {α : Type} {e : α → D} {xs : List α} {P : Nat → Prop} (m : MutO ms ps H0 H L (.lst (xs.map e))) (k : P xs.length) : ∃ y n, [V.ref L] = [y] ∧ LenV K y H n ∧ P n := by
  obtain ⟨vs, hp, hr⟩ := m.val
  have hl := repL_len hr
  rw [List.length_map] at hl
  exact ⟨_, xs.length, rfl, .inl ⟨vs, .inl (.inl hp), hl⟩, k⟩
end
end Rx
namespace Rx
open PySem PySem.Spec PyProof.Rows L2
section
variable {K : PySem.W.Frag} {ms ms' ps : List Addr} {H0 H H' H1 : Hp} {L L' : Addr} {d d' : D} {ds : List D} {u x : V} {vs : List V}
theorem mo_extU {α : Type} {e : α → D} {ys : List α} {P : Addr → List V → List V → Prop} (m : MutO ms ps H0 H L (.lst ds)) (h : rep ms H (.lst (ys.map e)) x) (hl : ds.length + ys.length ≤ 16777216) (k : ∀ vs us, repL ms H ds vs → repL ms H (ys.map e) us → P L vs us) :
    ∃ (l b : Addr) (xs zs : List V), V.ref L = .ref l ∧ [x] = [.ref b] ∧ H l = some (.lst xs) ∧ H b = some (.lst zs) ∧ xs.length + zs.length ≤ sizeLine ∧ P l xs zs := by
  obtain ⟨vs, h1, h2⟩ := m.val
  simp only [rep] at h
  obtain ⟨p, us, rfl, _, hp, hr⟩ := h
  have a := repL_len h2
  have b := repL_len hr
  rw [List.length_map] at b
  refine ⟨L, p, vs, us, rfl, rfl, h1, hp, ?_, k vs us h2 hr⟩
  rw [sizeLine_eq]
  omega
theorem repL_erase {α : Type} {e : α → D} : ∀ {xs : List α} {vs : List V} (k : Nat), repL ms H (xs.map e) vs → repL ms H ((xs.eraseIdx k).map e) (vs.eraseIdx k)
  | [], vs, k, h => by
    have ev : vs = [] := by
      simp only [List.map_nil, repL] at h
      exact h
    subst ev
    simpa using h
  | x :: xs, vs, 0, h => by
    simp only [List.map_cons, repL] at h
    obtain ⟨u, us, rfl, _, h2⟩ := h
    exact h2
  | x :: xs, vs, k + 1, h => by
    simp only [List.map_cons, repL] at h
    obtain ⟨u, us, rfl, h1, h2⟩ := h
    exact repL_cons h1 (repL_erase k h2)
theorem mo_popU {α : Type} {e : α → D} {xs : List α} {i : Int} {y : α} {P : Addr → List V → Nat → V → Prop} (m : MutO ms ps H0 H L (.lst (xs.map e))) (h0 : 0 ≤ i) (hi : xs[i.toNat]? = some y) (hb : i < 2 ^ 63) (k : ∀ vs v, repL ms H (xs.map e) vs → rep ms H (e y) v → P L vs i.toNat v) :
    ∃ (l : Addr) (xs : List V) (i' : Int) (k : Nat) (y : V), V.ref L = .ref l ∧ [V.int i] = [.int i'] ∧ H l = some (.lst xs) ∧ -(2 ^ 63) ≤ i' ∧ i' < 2 ^ 63 ∧ seqIndex? i' xs.length = some k ∧ xs[k]? = some y ∧ P l xs k y := by
  obtain ⟨vs, h1, h2⟩ := m.val
  have hl := repL_len h2
  rw [List.length_map] at hl
  obtain ⟨v, hv, rv⟩ := repL_get (d := e y) h2 (by rw [List.getElem?_map, hi]; rfl)
  have lt := (List.getElem?_eq_some_iff.mp hi).1
  refine ⟨L, vs, i, i.toNat, v, rfl, rfl, h1, by omega, hb, ?_, hv, k vs v h2 rv⟩
  unfold seqIndex?
  first
    | (simp only []; split <;> first | rfl | (exfalso; omega))
    | (rw [if_neg (by omega), if_pos (by omega)])
    | (simp; omega)
end
/-! a comprehension that changes things: its state is carried -/
def mapS {α β S : Type} (body : α → S → (β → S → Prop) → Prop) : List α → List β → S → (List β → S → Prop) → Prop
  | [], acc, s, k => k acc s
  | x :: xs, acc, s, k => body x s fun y s' => mapS body xs (acc ++ [y]) s' k
section
variable {α β S : Type} {K : PySem.W.Frag} {H1 H2 : Hp} {g : TG} {tt : TT} {te : TE} {vl : List Nat} {σ : L2.St} {Qd : Hp → Prop} {L : Addr}
theorem lc_rangeS {lo hi : Int} {N : Nat} {body : Int → S → (β → S → Prop) → Prop} {KM : List β → S → Prop} (SI : Nat → List β → S → Hp → Prop) (s0 : S) (hN : N = (hi - lo).toNat) (hM : (rangeI lo hi).length < 100000 ∧ mapS body (rangeI lo hi) [] s0 KM) (h0 : SI 0 [] s0 (upd H1 L (.lst [])))
    (hs : ∀ (x : Int) (n : Nat) (ys : List β) (s : S) (k : β → S → Prop) (H : Hp), n < 100000 → SI n ys s H → body x s k → ∀ Nx : Hp → Prop, (∀ y s' H', k y s' → SI (n + 1) (ys ++ [y]) s' H' → Nx H') → Turn g tt te vl σ L (.int x) H Nx)
    (hd : ∀ n ys s H, KM ys s → SI n ys s H → Qd H) :
    ∃ W : Nat → Nat → Hp → Prop, (∃ m, W 0 m (upd H1 L (.lst []))) ∧ ∀ i m H, W i m H →
      ((Itr lo N).stop i H ∧ Qd H) ∨ ((Itr lo N).go i H ∧ ∃ Nx : Hp → Prop, (∀ H', Nx H' → ∃ m', m' < m ∧ W (i + 1) m' H') ∧ ∀ x H', (Itr lo N).yld i H x H' → g x (wipe σ vl) H' fun σ2 H2 => wipe σ2 vl = wipe σ vl ∧ tt σ2 H2 fun b H3 =>
        if b = true then te σ2 H3 fun y H4 => ∃ acc, H4 L = some (.lst acc) ∧ acc.length < sizeLine ∧ Nx (upd H4 L (.lst (acc ++ [y]))) else Nx H3) := by
  obtain ⟨hn, hM⟩ := hM
  subst hN
  rw [rangeI_len] at hn
  refine ⟨fun i m H => m = (hi - lo).toNat - i ∧ i ≤ (hi - lo).toNat ∧ ∃ ys s, SI i ys s H ∧ mapS body ((rangeI lo hi).drop i) ys s KM, ⟨_, rfl, Nat.zero_le _, [], s0, h0, hM⟩, ?_⟩
  rintro i m H ⟨rfl, hi', ys, s, T, q⟩
  by_cases hlt : i < (hi - lo).toNat
  · refine .inr ⟨hlt, fun H' => i + 1 ≤ (hi - lo).toNat ∧ ∃ ys s, SI (i + 1) ys s H' ∧ mapS body ((rangeI lo hi).drop (i + 1)) ys s KM, fun H' p' => ⟨_, by omega, rfl, p'⟩, fun x H' y => ?_⟩
    obtain ⟨e, y⟩ := y
    subst e y
    rw [drop_cons' (rangeI_get hlt)] at q
    exact hs _ i ys s _ H' (by omega) T q _ fun y s' H' k T' => ⟨hlt, _, _, T', k⟩
  · have e : i = (hi - lo).toNat := by omega
    refine .inl ⟨by rw [e]; exact Nat.le_refl _, ?_⟩
    rw [List.drop_of_length_le (by rw [rangeI_len]; omega)] at q
    exact hd _ ys s H q T
end
end Rx
namespace Rx
open PySem PySem.Spec PyProof.Rows L2
section
variable {ms : List Addr} {H : Hp} {x y : V}
theorem rep_catU {α : Type} {xs ys : List α} {e : α → D} {P : List V → List V → Prop} (h1 : rep ms H (.lst (xs.map e)) x) (h2 : rep ms H (.lst (ys.map e)) y) (hz : xs.length + ys.length ≤ sizeLine)
    (k : ∀ vs us, repL ms H (xs.map e) vs → repL ms H (ys.map e) us → P vs us) : ∃ p q vs us, x = .ref p ∧ y = .ref q ∧ H p = some (.lst vs) ∧ H q = some (.lst us) ∧ vs.length + us.length ≤ sizeLine ∧ P vs us := by
  simp only [rep] at h1 h2
  obtain ⟨p, vs, rfl, np, hp, r1⟩ := h1
  obtain ⟨q, us, rfl, nq, hq, r2⟩ := h2
  have l1 := repL_len r1
  have l2 := repL_len r2
  rw [List.length_map] at l1 l2
  exact ⟨p, q, vs, us, rfl, rfl, hp, hq, by rw [← l1, ← l2]; exact hz, k vs us r1 r2⟩
end
end Rx
namespace Rx
open PySem PySem.Spec PyProof.Rows L2
section
variable {K : PySem.W.Frag} {ms : List Addr} {H : Hp} {x y : V} {ds : List D} {vs : List V}
/-- what a list holds -/
theorem rep_lsU {P : List V → Prop} (h : rep ms H (.lst ds) x) (k : ∀ vs, repL ms H ds vs → P vs) : ∃ a xs, x = .ref a ∧ SqL K H a xs ∧ P xs := by
  simp only [rep] at h
  obtain ⟨p, vs, rfl, np, hp, hr⟩ := h
  exact ⟨p, vs, rfl, .inl (.inl hp), k vs hr⟩
theorem rep_tpU {P : List V → Prop} (h : rep ms H (.tup ds) x) (k : ∀ vs, repL ms H ds vs → P vs) : ∃ a xs, x = .ref a ∧ SqT K H a xs ∧ P xs := by
  simp only [rep] at h
  obtain ⟨p, vs, rfl, np, hp, hr⟩ := h
  exact ⟨p, vs, rfl, .inl (.inl hp), k vs hr⟩
theorem rep_iterT {ds : List D} {P : Addr → Prop} (h : rep ms H (.tup ds) x) (k : ∀ a xs, x = .ref a → a ∉ ms → H a = some (.tup xs) → repL ms H ds xs → P a) : ∃ a, x = .ref a ∧ (∃ xs, SqT K H a xs) ∧ P a := by
  simp only [rep] at h
  obtain ⟨p, vs, e, n, hp, hr⟩ := h
  exact ⟨p, e, ⟨vs, .inl (.inl hp)⟩, k p vs e n hp hr⟩
theorem repL_rev : ∀ {ds : List D} {vs : List V}, repL ms H ds vs → repL ms H ds.reverse vs.reverse
  | [], vs, h => by
    have e := repL_empty h
    subst e
    exact repL_nil
  | d :: ds, vs, h => by
    obtain ⟨u, us, rfl, h1, h2⟩ := repL_uncons h
    rw [List.reverse_cons, List.reverse_cons]
    exact repL_app (repL_rev h2) (repL_one h1)
theorem repL_revM {α : Type} {e : α → D} {xs : List α} (h : repL ms H (xs.map e) vs) : repL ms H (xs.reverse.map e) vs.reverse := by
  rw [List.map_reverse]
  exact repL_rev h
theorem repL_take : ∀ (n : Nat) {ds : List D} {vs : List V}, repL ms H ds vs → repL ms H (ds.take n) (vs.take n)
  | 0, _, _, _ => by
    rw [List.take_zero, List.take_zero]
    exact repL_nil
  | n + 1, [], vs, h => by
    have e := repL_empty h
    subst e
    exact repL_nil
  | n + 1, d :: ds, vs, h => by
    obtain ⟨u, us, rfl, h1, h2⟩ := repL_uncons h
    exact repL_cons h1 (repL_take n h2)
theorem repL_drop : ∀ (n : Nat) {ds : List D} {vs : List V}, repL ms H ds vs → repL ms H (ds.drop n) (vs.drop n)
  | 0, _, _, h => h
  | n + 1, [], vs, h => by
    have e := repL_empty h
    subst e
    exact repL_nil
  | n + 1, d :: ds, vs, h => by
    obtain ⟨u, us, rfl, h1, h2⟩ := repL_uncons h
    exact repL_drop n h2
/-- a slice -/
def cutM {α : Type} (xs : List α) (lo hi : Option Int) : List α := (xs.drop (HT.sIx xs.length 0 lo)).take (HT.sIx xs.length xs.length hi - HT.sIx xs.length 0 lo)
theorem repL_cut {α : Type} {e : α → D} {xs : List α} {lo hi : Option Int} (h : repL ms H (xs.map e) vs) : repL ms H ((cutM xs lo hi).map e) (cutV vs lo hi) := by
  have hl := repL_len h
  rw [List.length_map] at hl
  unfold cutM cutV
  rw [List.map_take, List.map_drop, hl]
  exact repL_take _ (repL_drop _ h)
end
/-! walks over tuples -/
section
variable {α β S : Type} {K : PySem.W.Frag} {H1 : Hp} {g : TG} {tt : TT} {te : TE} {vl : List Nat} {σ : L2.St} {Qd : Hp → Prop} {L : Addr}
theorem lc_tupG {items : List α} {e : α → D} {ms : List Addr} {a : Addr} {xs : List V} {body : α → (β → Prop) → Prop} {KM : List β → Prop} (SI : Nat → List β → Hp → Prop) (an : a ∉ ms) (ha : H1 a = some (.tup xs)) (hx : repL ms H1 (items.map e) xs) (nl : H1 L = none)
    (kp : ∀ n ys H, SI n ys H → Keep (L :: ms) H1 H) (hM : items.length < 100000 ∧ mapC body items [] KM) (h0 : SI 0 [] (upd H1 L (.lst [])))
    (hs : ∀ (x : α) (u : V) (n : Nat) (ys : List β) (k : β → Prop) (H : Hp), n < 100000 → SI n ys H → rep (L :: ms) H (e x) u → body x k → ∀ Nx : Hp → Prop, (∀ y H', k y → SI (n + 1) (ys ++ [y]) H' → Nx H') → Turn g tt te vl σ L u H Nx)
    (hd : ∀ n ys H, KM ys → SI n ys H → Qd H) :
    ∃ W : Nat → Nat → Hp → Prop, (∃ m, W 0 m (upd H1 L (.lst []))) ∧ ∀ i m H, W i m H →
      ((Itt K a).stop i H ∧ Qd H) ∨ ((Itt K a).go i H ∧ ∃ Nx : Hp → Prop, (∀ H', Nx H' → ∃ m', m' < m ∧ W (i + 1) m' H') ∧ ∀ x H', (Itt K a).yld i H x H' → g x (wipe σ vl) H' fun σ2 H2 => wipe σ2 vl = wipe σ vl ∧ tt σ2 H2 fun b H3 =>
        if b = true then te σ2 H3 fun y H4 => ∃ acc, H4 L = some (.lst acc) ∧ acc.length < sizeLine ∧ Nx (upd H4 L (.lst (acc ++ [y]))) else Nx H3) := by
  obtain ⟨hn, hM⟩ := hM
  have hl : items.length = xs.length := by
    have := repL_len hx
    rwa [List.length_map] at this
  have aM : a ∉ L :: ms := fun z => by
    rcases List.mem_cons.mp z with z | z
    · exact ne_of_none ha nl z
    · exact an z
  have hx1 : repL (L :: ms) H1 (items.map e) xs := repL_new nl hx
  refine ⟨fun i m H => m = xs.length - i ∧ i ≤ xs.length ∧ ∃ ys, SI i ys H ∧ mapC body (items.drop i) ys KM, ⟨_, rfl, Nat.zero_le _, [], h0, hM⟩, ?_⟩
  rintro i m H ⟨rfl, hi', ys, T, q⟩
  have hA : H a = some (.tup xs) := kp i ys H T a _ aM ha
  by_cases hlt : i < xs.length
  · refine .inr ⟨⟨xs, xs[i], .inl (.inl hA), by simp [hlt]⟩, fun H' => i + 1 ≤ xs.length ∧ ∃ ys, SI (i + 1) ys H' ∧ mapC body (items.drop (i + 1)) ys KM, fun H' p' => ⟨_, by omega, rfl, p'⟩, fun x H' y => ?_⟩
    obtain ⟨e1, y⟩ := y
    subst e1
    have hxi := y xs (.inl (.inl hA))
    have hit : items[i]? = some (items[i]'(by omega)) := List.getElem?_eq_getElem (by omega)
    rw [drop_cons' hit] at q
    obtain ⟨v, hv, rv⟩ := repL_get (repL_keep (kp i ys H' T) hx1) (j := i) (d := e (items[i]'(by omega))) (by rw [List.getElem?_map, hit]; rfl)
    rw [hxi] at hv
    have ev : x = v := Option.some.inj hv
    subst ev
    exact hs _ x i ys _ H' (by omega) T rv q _ fun y H'' k T' => ⟨hlt, _, T', k⟩
  · refine .inl ⟨⟨xs, .inl (.inl hA), by omega⟩, ?_⟩
    rw [List.drop_of_length_le (by omega)] at q
    exact hd _ ys H q T
end
end Rx
namespace Rx
open PySem PySem.Spec PyProof.Rows L2
/-! the same rules, their readings without the context -/
section
variable {X : Cx} {K : PySem.W.Frag}
theorem call_lenK (hK : X.K = K) : CallR X (.builtin "len") (fun xs H Q => ∃ x n, xs = [x] ∧ LenV K x H n ∧ Q (.int n) H) := by
  subst hK
  exact call_len
theorem call_isiK (hK : X.K = K) : CallR X (.builtin "isinstance") (rIsi K) := by
  subst hK
  exact call_isi
theorem sl_listK (hK : X.K = K) : SlR X (rSlL K) := by
  subst hK
  exact sl_list
theorem call_list_ofK (hK : X.K = K) : CallR X (.type "list") (fun xs H Q => ∃ p ys, xs = [.ref p] ∧ (SqL K H p ys ∨ SqT K H p ys) ∧ ∀ l, H l = none → Q (.ref l) (upd H l (.lst ys))) := by
  subst hK
  exact call_list_of
theorem cr_maxK (hK : X.K = K) (hc : X.calm = true) : CallR X (.builtin "max") (rMax K) := by
  subst hK
  exact cr_max hc
theorem cr_minK (hK : X.K = K) (hc : X.calm = true) : CallR X (.builtin "min") (rMin K) := by
  subst hK
  exact cr_min hc
theorem cr_anyK (hK : X.K = K) (hc : X.calm = true) : CallR X (.builtin "any") (rAny K) := by
  subst hK
  exact cr_any hc
theorem cr_allK (hK : X.K = K) (hc : X.calm = true) : CallR X (.builtin "all") (rAll K) := by
  subst hK
  exact cr_all hc
theorem op_eqDK (hK : X.K = K) (hu : X.A.units + 64 < cLine) : OpR X (compareOp .Eq) (rEqD K) := by
  subst hK
  exact op_eqD hu
theorem op_neDK (hK : X.K = K) (hu : X.A.units + 64 < cLine) : OpR X (compareOp .NotEq) (rNeD K) := by
  subst hK
  exact op_neD hu
theorem call_reprAK {k : Nat} (hK : X.K = K) (gu : X.A.guards = some []) (hr : Room k X.A) : CallR X (.builtin "repr") (rReprA K) := by
  subst hK
  exact call_reprA gu hr
theorem mt_lcountSK (hK : X.K = K) : MtR X "list.count" (rCntS K) := by
  subst hK
  exact mt_lcountS
end
end Rx
namespace Rx
open PySem PySem.Spec PyProof.Rows L2
section
variable {X : Cx} {K : PySem.W.Frag} {T name id : String} {o e : Expr} {es : List Expr} {r : V → List V → Hp → VK → Prop} {to : TE} {t : TA} {apos cpos : Pos}
theorem pe_bmK (hK : X.K = K) (pa : PlainAttrs T) (slot : Slot T name id) (hty : typeOf (.builtin id) = pure (.type "method_descriptor")) (hm : MtR X id r) (ho : PE X o to) (ha : PA X (e :: es) t)
    (hbase : attributeBase o name X.env (eval o X.env) = eval o X.env := by rfl)
    (hfew : ((backTo cpos (starEach (e :: es) X.env)).all (fun x => !x.1) && (backToKw cpos (keywordEach [] X.env)).all (fun x => x.1.isSome)
      && decide ((e :: es).length + ([] : List Keyword).length + (if ([] : List Keyword).isEmpty then 0 else 1) < 30)) = true := by rfl)
    (hline : (apos.endLine == cpos.line) = true := by rfl) (hs : starEach (e :: es) X.env = (false, eval e X.env) :: starEach es X.env := by rfl) (hplain : (backTo cpos (starEach es X.env)).any (·.1) = false := by rfl) :
    PE X (.Call (.Attribute o name apos) (e :: es) [] cpos) (tBM K T r to t) := by
  subst hK
  exact pe_bm pa slot hty hm ho ha hbase hfew hline hs hplain
end
end Rx
namespace Rx
open PySem PySem.Spec PyProof.Rows L2
section
variable {M : Model} {s : Shared} {K : PySem.W.Frag} {C : Addr}
theorem looksT {v : Value} {T : String} (h : s.TypeIs v T) : PySem.W.Looks M s.heap (typeOf v) (.type T) := fun A Q E s' k q => wpAny_typeOf (by
  cases v with
  | ref a =>
    obtain ⟨o, e, c⟩ := h
    exact ⟨o, k _ _ e, c⟩
  | _ => exact h) q
theorem sub_non : PySem.W.subIn K (.type "NoneType") (.ref C) = some false := by
  show ((fastBuiltinMro "NoneType").map _) = _
  rw [show fastBuiltinMro "NoneType" = some [.type "NoneType", .type "object"] by decide +kernel]
  simp
theorem sub_bool : PySem.W.subIn K (.type "bool") (.ref C) = some false := by
  show ((fastBuiltinMro "bool").map _) = _
  rw [show fastBuiltinMro "bool" = some [.type "bool", .type "int", .type "object"] by decide +kernel]
  simp
theorem sub_int : PySem.W.subIn K (.type "int") (.ref C) = some false := by
  show ((fastBuiltinMro "int").map _) = _
  rw [show fastBuiltinMro "int" = some [.type "int", .type "object"] by decide +kernel]
  simp
theorem sub_str : PySem.W.subIn K (.type "str") (.ref C) = some false := by
  show ((fastBuiltinMro "str").map _) = _
  rw [show fastBuiltinMro "str" = some [.type "str", .type "object"] by decide +kernel]
  simp
theorem sub_list : PySem.W.subIn K (.type "list") (.ref C) = some false := by
  show ((fastBuiltinMro "list").map _) = _
  rw [show fastBuiltinMro "list" = some [.type "list", .type "object"] by decide +kernel]
  simp
theorem sub_tuple : PySem.W.subIn K (.type "tuple") (.ref C) = some false := by
  show ((fastBuiltinMro "tuple").map _) = _
  rw [show fastBuiltinMro "tuple" = some [.type "tuple", .type "object"] by decide +kernel]
  simp
theorem sub_dict : PySem.W.subIn K (.type "dict") (.ref C) = some false := by
  show ((fastBuiltinMro "dict").map _) = _
  rw [show fastBuiltinMro "dict" = some [.type "dict", .type "object"] by decide +kernel]
  simp
theorem sub_ty {H : Hp} {x : V} {T : String} (t : TyB K H x T) (nb : ∀ b, x ≠ .byt b) : PySem.W.subIn K (.type T) (.ref C) = some false := by
  cases t with
  | non => exact sub_non
  | bl b => exact sub_bool
  | int i => exact sub_int
  | str z => exact sub_str
  | byt b => exact absurd rfl (nb b)
  | lst h => exact sub_list
  | tup h => exact sub_tuple
  | dK h => exact sub_dict
end
section
variable {M : Model} {prog : Program} {w : World} {A : Around} {E : Value → Shared → Prop} {s : Shared} {K : PySem.W.Frag} {x C : Addr} {uy : Value} {ox : Obj} {od : Option Obj}
theorem entry_objNeA {Q : Fin → Shared → Prop} (hu : A.units < cLine) (hcall : wpAny M A (callSpecialIfBound? (.ref x) (Str.ofString "__eq__") [uy]) (fun r s' => ∃ b, r = some (.bool b) ∧ Q (.done (.ret (.bool (!b)))) s') E s) :
    wpAny M A (Builtin.«object.__ne__» ⟨[.ref x, uy], []⟩) Q E s := by
  unfold Builtin.«object.__ne__»
  repeat (first
    | with_reducible refine wpAny_cRoomFor hu ?_
    | (refine wpAny_bind (m := callSpecialIfBound? (.ref x) (Str.ofString "__eq__") [uy])
        (wpAny_mono hcall (fun r s' hr => by
          obtain ⟨b, rfl, hq⟩ := hr
          repeat (first | exact hq | exact wpAny_pure hq | exact wpAny_truthy_bool hq | (refine wpAny_bind (m := truthy (.bool _)) (wpAny_truthy_bool ?_)) | wp_step)) fun _ _ e => e))
    | wp_step)
theorem call_objNeA {Q : Value → Shared → Prop} (X : K.In s.heap) (I : PySem.W.InstAt s.heap x ox C od) (hm : PySem.W.mroIn K C (.type "object") = some true) (hu : A.in1.units < cLine)
    (hcall : wpAny (model prog w) A.in1 (callSpecialIfBound? (.ref x) (Str.ofString "__eq__") [uy]) (fun r s' => ∃ b, r = some (.bool b) ∧ Q (.bool (!b)) s') E s) :
    wpAny (model prog w) A (call (.builtin "object.__ne__") [.ref x, uy]) Q E s := by
  refine wpAny_call (codeAny_call_builtin F.cmp_object.ne.plain F.cmpEntry_ne (PySem.W.check_slot F.cmpKind_ne F.cmpSplit_ne (I.type.andThen (PySem.W.looks_mroIn X hm)) (F.cmpArgs_ne _ _) (entry_objNeA hu (wpAny_mono hcall (fun r s' hr => ?_) fun _ _ e => e))))
  obtain ⟨b, rfl, hq⟩ := hr
  first | exact ⟨b, rfl, hq⟩ | exact ⟨b, rfl, wpAny_pure hq⟩
end
/-- not an instance -/
def noI : D → Bool
  | .v .non => true
  | .v (.bl _) => true
  | .v (.int _) => true
  | .v (.str _) => true
  | .v _ => false
  | .ins _ _ _ => false
  | _ => true
theorem rep_TyB {K : PySem.W.Frag} {ms : List Addr} {H : Hp} {d : D} {u : V} (h : rep ms H d u) (n : noI d = true) : ∃ T, TyB K H u T ∧ (∀ b, u ≠ .byt b) ∧ TyX K H u (.type T) := by
  cases d with
  | v x =>
    obtain rfl := of_v h
    cases u <;> simp only [noI] at n
    · exact ⟨_, .non, (fun _ z => nomatch z), .base .non⟩
    · exact ⟨_, .bl _, (fun _ z => nomatch z), .base (.bl _)⟩
    · exact ⟨_, .int _, (fun _ z => nomatch z), .base (.int _)⟩
    · exact ⟨_, .str _, (fun _ z => nomatch z), .base (.str _)⟩
    all_goals cases n
  | lst ds =>
    simp only [rep] at h
    obtain ⟨p, vs, rfl, _, hp, _⟩ := h
    exact ⟨_, .lst (.inl (.inl hp)), (fun _ z => nomatch z), .base (.lst hp)⟩
  | tup ds =>
    simp only [rep] at h
    obtain ⟨p, vs, rfl, _, hp, _⟩ := h
    exact ⟨_, .tup (.inl (.inl hp)), (fun _ z => nomatch z), .base (.tup hp)⟩
  | dct ks ds =>
    simp only [rep] at h
    obtain ⟨p, vs, rfl, _, hp, _⟩ := h
    exact ⟨_, .dK hp, (fun _ z => nomatch z), .base (.dK hp)⟩
  | ins _ _ _ => cases n
/-- own == with any value that is no instance -/
def rOwnEqA (K : PySem.W.Frag) (C : Addr) (sp : Sp) (E : XK) : R2 := fun x y H Q => ∃ a dx fs T, x = .ref a ∧ H a = some (.ins C dx fs) ∧ TyB K H y T ∧ (∀ b, y ≠ .byt b) ∧ sp [x, y] H (fun v H' => ∃ r : Bool, v = .bl r ∧ Q v H') E
def rOwnNeA (K : PySem.W.Frag) (C : Addr) (sp : Sp) (E : XK) : R2 := fun x y H Q => ∃ a dx fs T, x = .ref a ∧ H a = some (.ins C dx fs) ∧ TyB K H y T ∧ (∀ b, y ≠ .byt b) ∧ sp [x, y] H (fun v H' => ∃ r : Bool, v = .bl r ∧ Q (.bl (!r)) H') E
theorem op_eqOwnA {X : Cx} {K : PySem.W.Frag} (hK : X.K = K) {n : Nat} {CX : CXT} {C f : Addr} {fd : FuncData} {ps : List Str} {sp : Sp} {E : XK} (F : FnOk X.prog X.w X.K X.mg X.base CX n f fd ps sp) (hr : Room n X.A)
    (o : OwnEq X.K C f) (hb : Binds X.K fd ps []) (hx : Passes CX X E) : OpR X (compareOp .Eq) (rOwnEqA K C sp E) := by
  subst hK
  intro pins s σ H x y v u Q I rx ry d
  show wpAny (model X.prog X.w) X.A (richCompare .Eq v u) (EP X pins σ Q) X.xe s
  obtain ⟨a, dx, fs, T, rfl, ha, ty, nb, hsp⟩ := d
  cases rx
  obtain ⟨mA, J, _⟩ := ins_get I.hok ha
  obtain ⟨od, J, _⟩ := J.look
  obtain ⟨m, hF⟩ := I.fr
  refine PySem.W.cmp_K (op := .Eq) (tb := .type T) hr.units0 hF I.ok.mod.kin J (looksT (ty.is I ry)) (by simp [PySem.W.notFirst, sub_ty ty nb]) o.hs o.hf ?_
  have hl := F.len _ _ _ _ hsp
  have r2 : Vals [V.ref a, y] [Value.ref a, u] := .cons rfl (.cons ry .nil)
  refine wpAny_call (codeAny_mono (F.run X.A X.stack s H ⟨[.ref a, u], []⟩ [.ref a, u] [.ref a, y] _ E hr I.env0 (by
    have := hb s [.ref a, u] I.kIn (by simpa using hl)
    simpa using this) r2 hsp) fun r s' hq => ?_)
  cases r with
  | error e => exact hx pins σ H s e s' I hq
  | ok fl =>
    cases fl with
    | ret w =>
      obtain ⟨z, H', I', rz, ⟨r, ez, q⟩⟩ := I.after hq
      subst ez
      cases (show w = Value.bool r from rz)
      exact ⟨.bl r, H', I', rfl, q⟩
    | next => exact False.elim hq
    | brk => exact False.elim hq
    | cont => exact False.elim hq
theorem op_neOwnA {X : Cx} {K : PySem.W.Frag} (hK : X.K = K) {n : Nat} {CX : CXT} {C f : Addr} {fd : FuncData} {ps : List Str} {sp : Sp} {E : XK} (F : FnOk X.prog X.w X.K X.mg X.base CX n f fd ps sp) (hr : Room (n + 1) X.A)
    (o : OwnEq X.K C f) (o' : OwnNe X.K C) (hb : Binds X.K fd ps []) (hx : Passes CX X E) : OpR X (compareOp .NotEq) (rOwnNeA K C sp E) := by
  subst hK
  intro pins s σ H x y v u Q I rx ry d
  show wpAny (model X.prog X.w) X.A (richCompare .NotEq v u) (EP X pins σ Q) X.xe s
  obtain ⟨a, dx, fs, T, rfl, ha, ty, nb, hsp⟩ := d
  cases rx
  obtain ⟨mA, J, _⟩ := ins_get I.hok ha
  obtain ⟨od, J, _⟩ := J.look
  have J' := looksT (M := model X.prog X.w) (ty.is I ry)
  have hl := F.len _ _ _ _ hsp
  have r2 : Vals [V.ref a, y] [Value.ref a, u] := .cons rfl (.cons ry .nil)
  have one : wpAny (model X.prog X.w) X.A (tryCompare (.ref a) (cmpInfo .NotEq).2.1 u) (fun r s' => ∃ v, r = some v ∧ EP X pins σ Q v s') X.xe s := by
    unfold tryCompare
    refine wpAny_bind (ifBound_objNe I.kIn J o'.hne (call_objNeA I.kIn J o'.hm hr.in1.units0 (PySem.W.ifBound_K I.kIn J o.hs o.hf ?_)))
    refine wpAny_call (codeAny_mono (F.run X.A.in1 X.stack s H ⟨[.ref a, u], []⟩ [.ref a, u] [.ref a, y] _ E hr.in1 I.env0.in1 (by
      have := hb s [.ref a, u] I.kIn (by simpa using hl)
      simpa using this) r2 hsp) fun r s' hq => ?_)
    cases r with
    | error e => exact hx pins σ H s e s' I hq
    | ok fl =>
      cases fl with
      | ret w =>
        obtain ⟨z, H', I', rz, ⟨r, ez, q⟩⟩ := I.after hq
        subst ez
        cases (show w = Value.bool r from rz)
        exact ⟨r, rfl, wpAny_pure ⟨_, rfl, .bl (!r), H', I', rfl, q⟩⟩
      | next => exact False.elim hq
      | brk => exact False.elim hq
      | cont => exact False.elim hq
  unfold richCompare
  simp only [oneThing_ref]
  refine wpAny_holding (wpAny_bind (wpAny_cRoomFor hr.units0 ?_))
  refine wpAny_bind (J.type.here (wpAny_bind (J'.here ?_)))
  rw [show (Value.ref C != Value.type T) = true from by simp]
  refine wpAny_bind ((PySem.W.looks_subIn I.kIn (sub_ty ty nb)).here ?_)
  simp only [Bool.false_eq_true, if_false]
  refine wpAny_bind (wpAny_mono one (fun r s' z => ?_) fun _ _ e => e)
  obtain ⟨v, rfl, hq⟩ := z
  exact wpAny_pure hq
section
variable {K : PySem.W.Frag} {ms : List Addr} {H : Hp} {x y : V} {d : D}
theorem rep_eqOwnA {C : Addr} {ns : List Str} {ds : List D} {sp : Sp} {E : XK} {Q : VK} (h1 : rep ms H (.ins C ns ds) x) (h2 : rep ms H d y) (n : noI d = true) (k : sp [x, y] H (fun v H' => ∃ r : Bool, v = .bl r ∧ Q v H') E) : rOwnEqA K C sp E x y H Q := by
  obtain ⟨p, dx, fs, e, hp⟩ := rep_ins h1
  obtain ⟨T, ty, nb, _⟩ := rep_TyB (K := K) h2 n
  subst e
  exact ⟨p, dx, fs, T, rfl, hp, ty, nb, k⟩
theorem rep_neOwnA {C : Addr} {ns : List Str} {ds : List D} {sp : Sp} {E : XK} {Q : VK} (h1 : rep ms H (.ins C ns ds) x) (h2 : rep ms H d y) (n : noI d = true) (k : sp [x, y] H (fun v H' => ∃ r : Bool, v = .bl r ∧ Q (.bl (!r)) H') E) : rOwnNeA K C sp E x y H Q := by
  obtain ⟨p, dx, fs, e, hp⟩ := rep_ins h1
  obtain ⟨T, ty, nb, _⟩ := rep_TyB (K := K) h2 n
  subst e
  exact ⟨p, dx, fs, T, rfl, hp, ty, nb, k⟩
/-- a class of the text's own, for isinstance that says no -/
structure IsN (K : PySem.W.Frag) (C : Addr) : Prop where
  ic : PySem.W.isClsIn K C = true
  ty : PySem.W.typeIn K (.ref C) = some (.type "type")
theorem rep_isN2 {C : Addr} {P : Bool → Prop} (h : rep ms H d x) (n : noI d = true) (c : IsN K C) (k : P false) :
    ∃ (x' c : V) (t u : Value) (b : Bool), [x, .ref C] = [x', c] ∧ ClsV c u ∧ TyX K H x' t ∧ PySem.W.kitOne K t u = some b ∧ P b := by
  obtain ⟨T, ty, nb, tx⟩ := rep_TyB (K := K) h n
  refine ⟨x, _, .type T, .ref C, false, rfl, .own C, tx, ?_, k⟩
  · unfold PySem.W.kitOne
    rw [if_neg (by simp)]
    show (if ((PySem.W.clsIn K C).isSome && PySem.W.typeIn K (.ref C) == some (.type "type")) = true then PySem.W.subIn K (.type T) (.ref C) else none) = some false
    rw [sub_ty ty nb]
    have h1 := c.ic
    unfold PySem.W.isClsIn at h1
    rw [h1, c.ty]
    simp
end
end Rx
namespace Rx
open PySem PySem.Spec PyProof.Rows L2
theorem pe_never {X : Cx} {e : Expr} : PE X e (fun _ _ _ => False) := ⟨fun _ _ _ _ _ _ h => h.elim⟩
section
variable {ms ps : List Addr} {cs : List (Addr × List V)} {H0 H H' : Hp} {u : V}
theorem rep_dynL {α : Type} {e : α → D} {xs : List α} (h : rep ms H (.lst (xs.map e)) u) : rep ms H (.lst ((xs.map e).map fun y : D => y)) u := by
  rw [List.map_id']
  exact h
theorem rep_dct0 {p : Addr} (w : Wd ms ps cs H0 H) (np : H p = none) (hp : H' p = some (.dK [])) : rep ms H' (.dct [] []) (.ref p) := by
  simp only [rep]
  exact ⟨p, [], rfl, fun z => w.tr p z np, hp, rfl, repL_nil⟩
end
end Rx
namespace Rx
open PySem PySem.Spec PyProof.Rows L2
section
variable {κ : Type} [DecidableEq κ]
theorem any_zip {k : κ} : ∀ {ks : List κ} {vs : List V}, ks.length = vs.length → ((ks.zip vs).any fun kv => decide (kv.1 = k)) = decide (k ∈ ks)
  | [], [], _ => by simp
  | k0 :: ks, v :: vs, h => by
    have ih := any_zip (k := k) (ks := ks) (vs := vs) (by simpa using h)
    rw [List.zip_cons_cons, List.any_cons, ih]
    by_cases e : k0 = k
    · subst e
      simp
    · have e' : k ≠ k0 := fun z => e z.symm
      simp [e, e']
  | [], _ :: _, h => by simp at h
  | _ :: _, [], h => by simp at h
theorem putK_new {k : κ} {v : V} {ks : List κ} {vs : List V} (h : ks.length = vs.length) (n : k ∉ ks) : putK (ks.zip vs) k v = (ks ++ [k]).zip (vs ++ [v]) := by
  unfold putK
  rw [any_zip h, if_neg (by simpa using n), List.zip_append h]
  rfl
theorem putK_old {k : κ} {v : V} : ∀ {ks : List κ} {vs : List V} {j : Nat}, ks.length = vs.length → ks.Nodup → ks[j]? = some k → putK (ks.zip vs) k v = ks.zip (vs.set j v) := by
  intro ks vs j h nd hj
  have hk : k ∈ ks := List.mem_of_getElem? hj
  unfold putK
  rw [any_zip h, if_pos (by simpa using hk)]
  induction ks generalizing vs j with
  | nil => simp at hj
  | cons k0 ks ih =>
    cases vs with
    | nil => simp at h
    | cons v0 vs =>
      have nd' := List.nodup_cons.mp nd
      cases j with
      | zero =>
        have e : k0 = k := Option.some.inj hj
        subst e
        rw [List.zip_cons_cons, List.map_cons, if_pos rfl, List.set_cons_zero, List.zip_cons_cons]
        congr 1
        conv => rhs; rw [← List.map_id (ks.zip vs)]
        refine List.map_congr_left fun q hq => ?_
        rw [if_neg]
        · rfl
        · intro z
          exact nd'.1 (by rw [← z]; exact (List.of_mem_zip (show (q.1, q.2) ∈ ks.zip vs from hq)).1)
      | succ j =>
        have hj' : ks[j]? = some k := by simpa using hj
        have ne : ¬ k0 = k := fun z => nd'.1 (by rw [z]; exact List.mem_of_getElem? hj')
        rw [List.zip_cons_cons, List.map_cons, if_neg ne, List.set_cons_succ, List.zip_cons_cons]
        congr 1
        exact ih (by simpa using h) nd'.2 hj' (List.mem_of_getElem? hj')
theorem valV_zip {k : κ} : ∀ {ks : List κ} {vs : List V} {j : Nat}, ks.Nodup → ks[j]? = some k → ks.length = vs.length → valV (ks.zip vs) k = vs[j]?
  | [], _, _, _, hj, _ => by simp at hj
  | k0 :: ks, [], _, _, _, h => by simp at h
  | k0 :: ks, v :: vs, 0, _, hj, _ => by
    have e : k0 = k := Option.some.inj hj
    subst e
    simp [valV]
  | k0 :: ks, v :: vs, j + 1, nd, hj, h => by
    have nd' := List.nodup_cons.mp nd
    have hj' : ks[j]? = some k := by simpa using hj
    have ne : ¬ k0 = k := fun z => nd'.1 (by rw [z]; exact List.mem_of_getElem? hj')
    rw [List.zip_cons_cons, valV_neg (p := (k0, v)) ne, valV_zip nd'.2 hj' (by simpa using h)]
    rfl
end
theorem mergeK_nodup : ∀ {more : List (Key × V)} {acc : List (Key × V)}, ((acc ++ more).map (·.1)).Nodup → mergeK acc more = acc ++ more
  | [], acc, _ => by simp [mergeK]
  | q :: more, acc, h => by
    have n : q.1 ∉ acc.map (·.1) := by
      rw [List.map_append, List.nodup_append] at h
      exact fun z => h.2.2 q.1 z q.1 (by simp) rfl
    have e : putK acc q.1 q.2 = acc ++ [q] := by
      unfold putK
      rw [if_neg]
      intro z
      obtain ⟨w, hw, ew⟩ := List.any_eq_true.mp z
      exact n (List.mem_map.mpr ⟨w, hw, of_decide_eq_true ew⟩)
    show mergeK (putK acc q.1 q.2) more = _
    rw [e, mergeK_nodup (by rw [List.append_assoc]; exact h), List.append_assoc]
    rfl
section
variable {K : PySem.W.Frag} {ms ps : List Addr} {H0 H H' H1 : Hp} {L : Addr} {d : D} {ds : List D} {u x y : V} {vs : List V} {ks : List Key} {k : Key}
theorem map_fst_zip' : ∀ {ks : List Key} {vs : List V}, ks.length = vs.length → (ks.zip vs).map (·.1) = ks
  | [], [], _ => rfl
  | k :: ks, v :: vs, h => by
    rw [List.zip_cons_cons, List.map_cons, map_fst_zip' (by simpa using h)]
  | [], _ :: _, h => by simp at h
  | _ :: _, [], h => by simp at h
theorem merge_zip (h : ks.length = vs.length) (nd : ks.Nodup) : mergeK [] (ks.zip vs) = ks.zip vs := by
  rw [mergeK_nodup (by rw [List.nil_append, map_fst_zip' h]; exact nd), List.nil_append]
/-- what a dict of one's own holds, as it is made -/
theorem mo_nilD (w : Wd ms ps [] H0 H) (nl : H L = none) : MutO (L :: ms) ps H0 (upd H L (.dK [])) L (.dct [] []) :=
  mo_newD (ks := []) (vs := []) (ds := []) w nl rfl repL_nil
theorem mo_dK0 (m : MutO ms ps H0 H L (.dct [] [])) : H L = some (.dK []) := by
  obtain ⟨vs, h1, h2, _⟩ := m.val
  rw [h1]
  simp
theorem mo_setD (m : MutO ms ps H0 H L d) (hl : ks.length = vs.length) (r : repL ms H ds vs) : MutO ms ps H0 (upd H L (.dK (ks.zip vs))) L (.dct ks ds) :=
  ⟨m.im, m.hp, m.h0, vs, upd_same, hl, repL_put m.im r⟩
/-- d[k] = v, a new key -/
theorem mo_putU {v : V} {Q : Hp → Prop} (m : MutO ms ps H0 H L (.dct ks ds)) (n : k ∉ ks) (hk : ks.length < 16777216)
    (q : ∀ vs, ks.length = vs.length → repL ms H ds vs → Q (upd H L (.dK ((ks ++ [k]).zip (vs ++ [v]))))) : rSetD (.ref L) (kV k) v H Q := by
  obtain ⟨vs, h1, h2, h3⟩ := m.val
  refine ⟨L, _, rfl, DPut.k h1 ?_, ?_⟩
  · rw [List.length_zip, ← h2, sizeLine_eq, Nat.min_self]
    exact hk
  · rw [putK_new h2 n]
    exact q vs h2 h3
/-- d[k] = v, a key that is there -/
theorem mo_putO {v : V} {Q : Hp → Prop} (j : Nat) (m : MutO ms ps H0 H L (.dct ks ds)) (nd : ks.Nodup) (hj : ks[j]? = some k) (hk : ks.length < 16777216)
    (q : ∀ vs, ks.length = (vs.set j v).length → repL ms H ds vs → Q (upd H L (.dK (ks.zip (vs.set j v))))) : rSetD (.ref L) (kV k) v H Q := by
  obtain ⟨vs, h1, h2, h3⟩ := m.val
  refine ⟨L, _, rfl, DPut.k h1 ?_, ?_⟩
  · rw [List.length_zip, ← h2, sizeLine_eq, Nat.min_self]
    exact hk
  · rw [putK_old h2 nd hj]
    exact q vs (by rw [List.length_set]; exact h2) h3
theorem repL_setD {v : V} {e : D} : ∀ {ds : List D} {vs : List V} (j : Nat), repL ms H ds vs → rep ms H e v → repL ms H (ds.set j e) (vs.set j v)
  | [], vs, j, h, r => by
    have ev := repL_empty h
    subst ev
    simpa using h
  | d :: ds, vs, 0, h, r => by
    obtain ⟨u, us, rfl, h1, h2⟩ := repL_uncons h
    exact repL_cons r h2
  | d :: ds, vs, j + 1, h, r => by
    obtain ⟨u, us, rfl, h1, h2⟩ := repL_uncons h
    exact repL_cons h1 (repL_setD j h2 r)
theorem dgetL (h1 : H L = some (.dK (ks.zip vs))) (nd : ks.Nodup) (hl : ks.length = vs.length) {j : Nat} (hj : ks[j]? = some k) {v : V} (hv : vs[j]? = some v) : DGet H L (kV k) (some v) := by
  have := DGet.k (k := k) h1
  rw [valV_zip nd hj hl, hv] at this
  exact this
/-- d[k], k a written key -/
theorem rep_dget {Q : VK} (j : Nat) (h : rep ms H (.dct ks ds) x) (nd : ks.Nodup) (hj : ks[j]? = some k) (hd : ds[j]? = some d) (q : ∀ v, rep ms H d v → Q v H) :
    ∃ a v, x = .ref a ∧ DGet H a (kV k) (some v) ∧ Q v H := by
  simp only [rep] at h
  obtain ⟨p, vs, rfl, _, hp, hl, hr⟩ := h
  obtain ⟨v, hv, rv⟩ := repL_get hr hd
  exact ⟨p, v, rfl, dgetL hp nd hl hj hv, q v rv⟩
theorem mo_dget {Q : VK} (j : Nat) (m : MutO ms ps H0 H L (.dct ks ds)) (nd : ks.Nodup) (hj : ks[j]? = some k) (hd : ds[j]? = some d) (q : ∀ v, rep ms H d v → Q v H) :
    ∃ a v, V.ref L = .ref a ∧ DGet H a (kV k) (some v) ∧ Q v H := by
  obtain ⟨vs, hp, hl, hr⟩ := m.val
  obtain ⟨v, hv, rv⟩ := repL_get hr hd
  exact ⟨L, v, rfl, dgetL hp nd hl hj hv, q v rv⟩
/-- d[k], any key: what is found -/
def getM {α : Type} (ks : List Key) (xs : List α) (k : Key) : Option α := ((ks.zip xs).find? fun q => decide (q.1 = k)).map (·.2)
theorem getM_at {α : Type} {y : α} : ∀ {ks : List Key} {xs : List α}, getM ks xs k = some y → ∃ j : Nat, ks[j]? = some k ∧ xs[j]? = some y
  | [], _, h => by simp [getM] at h
  | _ :: _, [], h => by simp [getM] at h
  | k0 :: ks, x :: xs, h => by
    by_cases e : k0 = k
    · subst e
      simp [getM] at h
      exact ⟨0, rfl, by rw [h]; rfl⟩
    · have h' : getM ks xs k = some y := by
        unfold getM at h ⊢
        rw [List.zip_cons_cons, List.find?_cons_of_neg (by simpa using e)] at h
        exact h
      obtain ⟨j, h1, h2⟩ := getM_at h'
      exact ⟨j + 1, by simpa using h1, by simpa using h2⟩
theorem rep_dgetM {α : Type} {e : α → D} {xs : List α} {y : α} {Q : VK} (h : rep ms H (.dct ks (xs.map e)) x) (nd : ks.Nodup) (hy : getM ks xs k = some y) (q : ∀ v, rep ms H (e y) v → Q v H) :
    ∃ a v, x = .ref a ∧ DGet H a (kV k) (some v) ∧ Q v H := by
  obtain ⟨j, h1, h2⟩ := getM_at hy
  exact rep_dget j h nd h1 (by rw [List.getElem?_map, h2]; rfl) q
/-- dict(list(d.items())) -/
theorem rep_items {Q : VK} (w : Wd ms ps [] H0 H) (h : rep ms H (.dct ks ds) x)
    (q : ∀ (H' : Hp) (p : Addr), Ret [] H H' → (∀ (r : List V → Hp → Prop), (∀ vs, ks.length = vs.length → repL ms H' ds vs → (∃ ps, SqL K H' p (ps.map V.ref) ∧ Paired (fun p kv => SqT K H' p [kV kv.1, kv.2]) ps (ks.zip vs)) → r vs H') → ∃ vs, ks.length = vs.length ∧ repL ms H' ds vs ∧ r vs H') → Q (.ref p) H') :
    ∃ (d : Addr) (kvs : List (Key × V)), x = .ref d ∧ H d = some (.dK kvs) ∧ ∀ (H' : Hp) (p : Addr) (ts : List Addr), (∀ b o, H b = some o → H' b = some o) → H p = none → (∀ t ∈ ts, H t = none) → p ∉ ts → H' p = some (.lst (ts.map V.ref)) → Paired (fun (t : Addr) (q : Key × V) => H' t = some (.tup [kV q.1, q.2])) ts kvs → Q (.ref p) H' := by
  simp only [rep] at h
  obtain ⟨d, vs, rfl, _, hp, hl, hr⟩ := h
  refine ⟨d, _, rfl, hp, fun H' p ts keep np nts pt hl' hpd => ?_⟩
  have e : Ret [] H H' := ⟨fun a o _ z => keep a o z, fun _ z => absurd z List.not_mem_nil, fun a z => by
    cases c : H a with
    | none => exact absurd c z
    | some o => rw [keep a o c]; exact fun z => nomatch z⟩
  refine q H' p e fun r hr' => ⟨vs, hl, repL_ext e hr, hr' vs hl (repL_ext e hr) ⟨ts, .inl (.inl hl'), ?_⟩⟩
  clear hr' hl' q hp
  generalize ks.zip vs = kvs at hpd
  induction hpd with
  | nil => exact .nil
  | cons a _ ih => exact .cons (.inl (.inl a)) (ih (fun t z => nts t (List.mem_cons_of_mem _ z)) fun z => pt (List.mem_cons_of_mem _ z))
end
end Rx
namespace Rx
open PySem PySem.Spec PyProof.Rows L2
section
variable {X : Cx} {K : PySem.W.Frag}
theorem call_dictPK (hK : X.K = K) (hcalm : X.calm = true) : CallR X (.type "dict") (fun xs H Q => ∃ (a : Addr) (ps : List Addr) (kvs : List (Key × V)), xs = [.ref a] ∧ SqL K H a (ps.map V.ref) ∧ Paired (fun p kv => SqT K H p [kV kv.1, kv.2]) ps kvs ∧
    ∀ p, H p = none → Q (.ref p) (upd H p (.dK (mergeK [] kvs)))) := by
  subst hK
  exact call_dictP hcalm
end
end Rx
namespace Rx
theorem nin_of {α : Type} {ks : List α} {k : α} (h : (ks ++ [k]).Nodup) : k ∉ ks := fun z => by
  rw [List.nodup_append] at h
  exact h.2.2 k z k (by simp) rfl
end Rx
namespace Rx
open PySem PySem.Spec PyProof.Rows L2
/-! a new instance, while its __init__ runs -/
section
variable {ms ps : List Addr} {H0 H H' He : Hp} {p L C dx : Addr} {d : D} {u : V} {fs : List (Str × V)} {o : HO}
structure KpI (p : Addr) (He H : Hp) : Prop where
  kp : ∀ a o, a ≠ p → He a = some o → H a = some o
  gr : ∀ a, He a ≠ none → H a ≠ none
theorem ki_refl : KpI p H H := ⟨fun _ _ _ h => h, fun _ h => h⟩
theorem ki_wd (k : KpI p He H0) (w : Wd ms [] [] H0 H) : KpI p He H := ⟨fun a o n h => w.kp a o (by simp) (k.kp a o n h), fun a h => w.grow a (k.gr a h)⟩
theorem ki_put (k : KpI p He H0) (w : Wd ms [] [] H0 H) : KpI p He (upd H p o) := ⟨fun a o' n h => by
  rw [upd_ne n]
  exact (ki_wd k w).kp a o' n h, fun a h => by
  by_cases e : a = p
  · rw [e, upd_same]
    exact fun z => nomatch z
  · rw [upd_ne e]
    exact (ki_wd k w).gr a h⟩
theorem wd_at (w : Wd ms [] [] H0 H) : Wd ms [] [] (upd H p o) (upd H p o) := ⟨fun _ _ _ h => h, fun _ h => h, fun m h => by
  by_cases e : m = p
  · rw [e, upd_same]
    exact fun z => nomatch z
  · rw [upd_ne e]
    exact w.tr m h, fun _ h => absurd h List.not_mem_nil, fun _ h => absurd h List.not_mem_nil, fun _ h => absurd h List.not_mem_nil⟩
theorem at_put (hp : H p = some (.ins C dx fs)) (m : MutO ms ps H0 H L d) : upd H L o p = some (.ins C dx fs) := by
  rw [upd_ne (fun z => ?_)]
  · exact hp
  · have h := m.isMo
    rw [← z, hp] at h
    exact h
theorem putF_zip {f : Str} {v : V} : ∀ {ns : List Str} {us : List V}, ns.length = us.length → f ∉ ns → putF f v (ns.zip us) = (ns ++ [f]).zip (us ++ [v])
  | [], [], _, _ => by simp [putF]
  | [], _ :: _, h, _ => by simp at h
  | _ :: _, [], h, _ => by simp at h
  | n :: ns, u :: us, h, nn => by
    have e : ¬ n = f := fun z => nn (by rw [z]; exact List.mem_cons_self)
    have ih := putF_zip (f := f) (v := v) (ns := ns) (us := us) (by simpa using h) fun z => nn (List.mem_cons_of_mem _ z)
    simp only [List.zip_cons_cons, List.cons_append]
    unfold putF
    rw [if_neg e, ih]
theorem mem_new (nl : H p = none) (h : rep ms H d u) (ndx : H dx = none) {o1 o2 : HO} : rep (p :: ms) (upd (upd H dx o1) p o2) d u :=
  rep_map (fun a o n hp => ⟨fun z => by
    rcases List.mem_cons.mp z with z | z
    · exact ne_of_none hp nl z
    · exact n z, by rw [upd_ne (ne_of_none hp nl), upd_ne (ne_of_none hp ndx)]; exact hp⟩) d u h
theorem wd_new (w : Wd ms ps cs H0 H) (nl : H p = none) (ndx : H dx = none) {o1 o2 : HO} : Wd (p :: ms) [] [] (upd (upd H dx o1) p o2) (upd (upd H dx o1) p o2) := ⟨fun _ _ _ h => h, fun _ h => h, fun m h => by
  by_cases e : m = p
  · rw [e, upd_same]
    exact fun z => nomatch z
  · rw [upd_ne e]
    by_cases e2 : m = dx
    · rw [e2, upd_same]
      exact fun z => nomatch z
    · rw [upd_ne e2]
      exact w.tr m ((List.mem_cons.mp h).elim (fun z => absurd z e) id), fun _ h => absurd h List.not_mem_nil, fun _ h => absurd h List.not_mem_nil, fun _ h => absurd h List.not_mem_nil⟩
theorem ext_new (k : KpI p (upd (upd H dx o1) p o2) H') (nl : H p = none) (ndx : H dx = none) : Ret [] H H' := ⟨fun a o _ h => k.kp a o (ne_of_none h nl) (by rw [upd_ne (ne_of_none h nl), upd_ne (ne_of_none h ndx)]; exact h), fun _ z => absurd z List.not_mem_nil, fun a h => k.gr a (by
  by_cases e : a = p
  · rw [e, upd_same]
    exact fun z => nomatch z
  · rw [upd_ne e]
    by_cases e2 : a = dx
    · rw [e2, upd_same]
      exact fun z => nomatch z
    · rw [upd_ne e2]
      exact h)⟩
theorem rep_insW (w : Wd ms ps cs H0 H) (np : H p = none) {ns : List Str} {us : List V} {ds : List D} (hp : H' p = some (.ins C dx (ns.zip us))) (hl : ns.length = us.length) (hr : repL (p :: ms) H' ds us) : rep ms H' (.ins C ns ds) (.ref p) := by
  simp only [rep]
  exact ⟨p, dx, us, rfl, fun z => w.tr p z np, hp, hl, repL_weak hr⟩
end
end Rx
namespace Rx
open PySem PySem.Spec PyProof.Rows L2
section
variable {K : PySem.W.Frag} {x qual : Str} {params : Arguments} {body : List Stmt} {scope : Scope} {dvs : List V} {f : Addr} {fd : FuncData} {ps : List Str}
/-- a def with defaults, called with all its arguments -/
theorem FunD_b0 (F : FunD K x qual params body scope dvs [] f fd) (hd : dvs ≠ [])
    (h : ∀ (T : Addr) (kV doc pm : Value) (an : Option Addr) (cdv ct : Value) (us its : List Value), us.length = ps.length → its.length = dvs.length →
      ∃ k, bindArgs (PySem.W.fnOf x qual params body scope (.ref T) kV doc pm an cdv ct) ⟨us, []⟩ = seqItems? (.ref T) >>= k ∧ k (some its.toArray) = pure (ps.zip us)) : Binds K fd ps [] := by
  obtain ⟨ds, rd, hb⟩ := F.binds1 (ps := ps) ps.length dvs.length hd (by omega) fun T kV doc pm an cdv ct us its h1 h2 => by
    obtain ⟨k, e1, e2⟩ := h T kV doc pm an cdv ct us its h1 h2
    refine ⟨k, e1, ?_⟩
    rw [e2, List.drop_of_length_le (by omega), List.append_nil]
  rw [List.drop_length] at rd
  cases rd
  exact hb
end
end Rx
namespace Rx
open PySem PySem.Spec PyProof.Rows L2
/-! x in a written dict, x there -/
def rInW (K : PySem.W.Frag) (w : World) (d : Addr) (b : Bool) : R2 := fun x y H Q => ∃ (z c : Str), x = .str z ∧ y = .ref d ∧ KDct K w d z (.str c) ∧ Q (.bl b) H
section
variable {X : Cx} {K : PySem.W.Frag} {w : World} {d : Addr}
theorem op_inW (hK : X.K = K) (hw : X.w = w) (low : (d == sysModules) = false) : OpR X (compareOp .In) (rInW K w d true) := by
  subst hK hw
  intro pins s σ H x y v u Q I rx ry h
  obtain ⟨z, c, rfl, rfl, ⟨es, n, u0, at_, lit, ns, ru⟩, q⟩ := h
  exact op_in_kd ⟨at_, lit, low⟩ pins s σ H _ _ v u Q I rx ry ⟨z, some u0, rfl, rfl, ns, q⟩
theorem op_ninW (hK : X.K = K) (hw : X.w = w) (low : (d == sysModules) = false) : OpR X (compareOp .NotIn) (rInW K w d false) := by
  subst hK hw
  intro pins s σ H x y v u Q I rx ry h
  obtain ⟨z, c, rfl, rfl, ⟨es, n, u0, at_, lit, ns, ru⟩, q⟩ := h
  exact op_notIn_kd ⟨at_, lit, low⟩ pins s σ H _ _ v u Q I rx ry ⟨z, some u0, rfl, rfl, ns, q⟩
theorem rep_inW {l : List (Str × Str)} {z c : Str} {b : Bool} {H : Hp} {σ : L2.St} {Q : VK} (t : ∀ z c : Str, l.lookup z = some c → KDct K w d z (.str c)) (h : l.lookup z = some c) (q : Q (.bl b) H) : tC (V.ref d) σ H fun y H2 => rInW K w d b (.str z) y H2 Q := ⟨z, c, rfl, rfl, t z c h, q⟩
end
end Rx
namespace Rx
open PySem PySem.Spec PyProof.Rows L2
/-! ranges with a step -/
def rangeS (lo hi c : Int) : List Int := (List.range (if lo < hi then (hi - lo - 1) / c + 1 else 0).toNat).map fun i => lo + ((i : Nat) : Int) * c
def RgB (lo hi : Int) : Prop := -(2 ^ 60) ≤ lo ∧ lo < 2 ^ 60 ∧ -(2 ^ 60) ≤ hi ∧ hi < 2 ^ 60
theorem rangeS_len {lo hi c : Int} : (rangeS lo hi c).length = (if lo < hi then (hi - lo - 1) / c + 1 else 0).toNat := by simp [rangeS]
theorem rangeS_get {lo hi c : Int} {i : Nat} (h : i < (rangeS lo hi c).length) : (rangeS lo hi c)[i]? = some (lo + (i : Int) * c) := by
  rw [rangeS_len] at h
  simp [rangeS, List.getElem?_map, List.getElem?_range h]
theorem rgS_size {lo hi c : Int} (hc : 0 < c) : Builtin.Range.rangeSize lo hi c = ((rangeS lo hi c).length : Int) := by
  rw [rangeS_len]
  unfold Builtin.Range.rangeSize
  rw [if_pos hc]
  split
  · have := Int.ediv_nonneg (a := hi - lo - 1) (b := c) (by omega) (by omega)
    omega
  · rfl
theorem rgS_small {lo hi c : Int} (hc : 0 < c) (hc2 : c < 2 ^ 30) (hb : RgB lo hi) : Builtin.Range.small lo hi c = true := by
  obtain ⟨h1, h2, h3, h4⟩ := hb
  have e : Builtin.Range.rangeSize lo hi c ≤ 2 ^ 61 ∧ 0 ≤ Builtin.Range.rangeSize lo hi c := by
    unfold Builtin.Range.rangeSize
    rw [if_pos hc]
    split
    · have a := Int.ediv_nonneg (a := hi - lo - 1) (b := c) (by omega) (by omega)
      have b := Int.ediv_le_self (a := hi - lo - 1) c (by omega)
      omega
    · omega
  unfold Builtin.Range.small
  have f : ∀ z : Int, -(2 ^ 62) ≤ z → z < 2 ^ 62 → Builtin.Range.rangeFitsLong z = true := by
    intro z a b
    unfold Builtin.Range.rangeFitsLong
    simp only [Bool.and_eq_true, decide_eq_true_eq]
    omega
  rw [f lo (by omega) (by omega), f hi (by omega) (by omega), f c (by omega) (by omega), f _ (by omega) (by omega), if_pos hc, f (hi + (c - 1)) (by omega) (by omega)]
  simp
theorem rgC_of {lo hi c : Int} (hc : 0 < c) (hc2 : c < 2 ^ 30) (hb : RgB lo hi) : RgC lo hi c (rangeS lo hi c).length :=
  ⟨by omega, by omega, rgS_small hc hc2 hb, rgS_size hc⟩
section
variable {α β : Type} {K : PySem.W.Frag} {H1 H2 : Hp} {g : TG} {tt : TT} {te : TE} {vl : List Nat} {σ : L2.St} {Qd : Hp → Prop} {L : Addr}
theorem lc_rangeTG {lo hi c : Int} {body : Int → (β → Prop) → Prop} {KM : List β → Prop} (SI : Nat → List β → Hp → Prop) (hM : (rangeS lo hi c).length < 100000 ∧ mapC body (rangeS lo hi c) [] KM) (h0 : SI 0 [] (upd H1 L (.lst [])))
    (hs : ∀ (x : Int) (n : Nat) (ys : List β) (k : β → Prop) (H : Hp), n < 100000 → SI n ys H → body x k → ∀ Nx : Hp → Prop, (∀ y H', k y → SI (n + 1) (ys ++ [y]) H' → Nx H') → Turn g tt te vl σ L (.int x) H Nx)
    (hd : ∀ n ys H, KM ys → SI n ys H → Qd H) :
    ∃ W : Nat → Nat → Hp → Prop, (∃ m, W 0 m (upd H1 L (.lst []))) ∧ ∀ i m H, W i m H →
      ((Itc lo c (rangeS lo hi c).length).stop i H ∧ Qd H) ∨ ((Itc lo c (rangeS lo hi c).length).go i H ∧ ∃ Nx : Hp → Prop, (∀ H', Nx H' → ∃ m', m' < m ∧ W (i + 1) m' H') ∧ ∀ x H', (Itc lo c (rangeS lo hi c).length).yld i H x H' → g x (wipe σ vl) H' fun σ2 H2 => wipe σ2 vl = wipe σ vl ∧ tt σ2 H2 fun b H3 =>
        if b = true then te σ2 H3 fun y H4 => ∃ acc, H4 L = some (.lst acc) ∧ acc.length < sizeLine ∧ Nx (upd H4 L (.lst (acc ++ [y]))) else Nx H3) := by
  obtain ⟨hn, hM⟩ := hM
  refine ⟨fun i m H => m = (rangeS lo hi c).length - i ∧ i ≤ (rangeS lo hi c).length ∧ ∃ ys, SI i ys H ∧ mapC body ((rangeS lo hi c).drop i) ys KM, ⟨_, rfl, Nat.zero_le _, [], h0, hM⟩, ?_⟩
  rintro i m H ⟨rfl, hi', ys, T, q⟩
  by_cases hlt : i < (rangeS lo hi c).length
  · refine .inr ⟨hlt, fun H' => i + 1 ≤ (rangeS lo hi c).length ∧ ∃ ys, SI (i + 1) ys H' ∧ mapC body ((rangeS lo hi c).drop (i + 1)) ys KM, fun H' p' => ⟨_, by omega, rfl, p'⟩, fun x H' y => ?_⟩
    obtain ⟨e, y⟩ := y
    subst e y
    rw [drop_cons' (rangeS_get hlt)] at q
    exact hs _ i ys _ H' (by omega) T q _ fun y H' k T' => ⟨hlt, _, T', k⟩
  · have e : i = (rangeS lo hi c).length := by omega
    refine .inl ⟨by rw [e]; exact Nat.le_refl _, ?_⟩
    rw [List.drop_of_length_le (by omega)] at q
    exact hd _ ys H q T
theorem lf_rangeTG {lo hi c : Int} {body : Int → (Option β → Prop) → Prop} {KM : List β → Prop} (SI : Nat → List β → Hp → Prop) (hM : (rangeS lo hi c).length < 100000 ∧ filC body (rangeS lo hi c) [] KM) (h0 : SI 0 [] (upd H1 L (.lst [])))
    (hs : ∀ (x : Int) (n : Nat) (ys : List β) (k : Option β → Prop) (H : Hp), n < 100000 → SI n ys H → body x k → ∀ Nx : Hp → Prop, (∀ y H', k (some y) → SI (n + 1) (ys ++ [y]) H' → Nx H') → (∀ H', k none → SI (n + 1) ys H' → Nx H') → Turn g tt te vl σ L (.int x) H Nx)
    (hd : ∀ n ys H, KM ys → SI n ys H → Qd H) :
    ∃ W : Nat → Nat → Hp → Prop, (∃ m, W 0 m (upd H1 L (.lst []))) ∧ ∀ i m H, W i m H →
      ((Itc lo c (rangeS lo hi c).length).stop i H ∧ Qd H) ∨ ((Itc lo c (rangeS lo hi c).length).go i H ∧ ∃ Nx : Hp → Prop, (∀ H', Nx H' → ∃ m', m' < m ∧ W (i + 1) m' H') ∧ ∀ x H', (Itc lo c (rangeS lo hi c).length).yld i H x H' → g x (wipe σ vl) H' fun σ2 H2 => wipe σ2 vl = wipe σ vl ∧ tt σ2 H2 fun b H3 =>
        if b = true then te σ2 H3 fun y H4 => ∃ acc, H4 L = some (.lst acc) ∧ acc.length < sizeLine ∧ Nx (upd H4 L (.lst (acc ++ [y]))) else Nx H3) := by
  obtain ⟨hn, hM⟩ := hM
  refine ⟨fun i m H => m = (rangeS lo hi c).length - i ∧ i ≤ (rangeS lo hi c).length ∧ ∃ ys, SI i ys H ∧ filC body ((rangeS lo hi c).drop i) ys KM, ⟨_, rfl, Nat.zero_le _, [], h0, hM⟩, ?_⟩
  rintro i m H ⟨rfl, hi', ys, T, q⟩
  by_cases hlt : i < (rangeS lo hi c).length
  · refine .inr ⟨hlt, fun H' => i + 1 ≤ (rangeS lo hi c).length ∧ ∃ ys, SI (i + 1) ys H' ∧ filC body ((rangeS lo hi c).drop (i + 1)) ys KM, fun H' p' => ⟨_, by omega, rfl, p'⟩, fun x H' y => ?_⟩
    obtain ⟨e, y⟩ := y
    subst e y
    rw [drop_cons' (rangeS_get hlt)] at q
    exact hs _ i ys _ H' (by omega) T q _ (fun y H' k T' => ⟨hlt, _, T', k⟩) fun H' k T' => ⟨hlt, _, T', k⟩
  · have e : i = (rangeS lo hi c).length := by omega
    refine .inl ⟨by rw [e]; exact Nat.le_refl _, ?_⟩
    rw [List.drop_of_length_le (by omega)] at q
    exact hd _ ys H q T
theorem lc_rangeTS {lo hi c : Int} {body : Int → S → (β → S → Prop) → Prop} {KM : List β → S → Prop} (SI : Nat → List β → S → Hp → Prop) (s0 : S) (hM : (rangeS lo hi c).length < 100000 ∧ mapS body (rangeS lo hi c) [] s0 KM) (h0 : SI 0 [] s0 (upd H1 L (.lst [])))
    (hs : ∀ (x : Int) (n : Nat) (ys : List β) (s : S) (k : β → S → Prop) (H : Hp), n < 100000 → SI n ys s H → body x s k → ∀ Nx : Hp → Prop, (∀ y s' H', k y s' → SI (n + 1) (ys ++ [y]) s' H' → Nx H') → Turn g tt te vl σ L (.int x) H Nx)
    (hd : ∀ n ys s H, KM ys s → SI n ys s H → Qd H) :
    ∃ W : Nat → Nat → Hp → Prop, (∃ m, W 0 m (upd H1 L (.lst []))) ∧ ∀ i m H, W i m H →
      ((Itc lo c (rangeS lo hi c).length).stop i H ∧ Qd H) ∨ ((Itc lo c (rangeS lo hi c).length).go i H ∧ ∃ Nx : Hp → Prop, (∀ H', Nx H' → ∃ m', m' < m ∧ W (i + 1) m' H') ∧ ∀ x H', (Itc lo c (rangeS lo hi c).length).yld i H x H' → g x (wipe σ vl) H' fun σ2 H2 => wipe σ2 vl = wipe σ vl ∧ tt σ2 H2 fun b H3 =>
        if b = true then te σ2 H3 fun y H4 => ∃ acc, H4 L = some (.lst acc) ∧ acc.length < sizeLine ∧ Nx (upd H4 L (.lst (acc ++ [y]))) else Nx H3) := by
  obtain ⟨hn, hM⟩ := hM
  refine ⟨fun i m H => m = (rangeS lo hi c).length - i ∧ i ≤ (rangeS lo hi c).length ∧ ∃ ys s, SI i ys s H ∧ mapS body ((rangeS lo hi c).drop i) ys s KM, ⟨_, rfl, Nat.zero_le _, [], s0, h0, hM⟩, ?_⟩
  rintro i m H ⟨rfl, hi', ys, s, T, q⟩
  by_cases hlt : i < (rangeS lo hi c).length
  · refine .inr ⟨hlt, fun H' => i + 1 ≤ (rangeS lo hi c).length ∧ ∃ ys s, SI (i + 1) ys s H' ∧ mapS body ((rangeS lo hi c).drop (i + 1)) ys s KM, fun H' p' => ⟨_, by omega, rfl, p'⟩, fun x H' y => ?_⟩
    obtain ⟨e, y⟩ := y
    subst e y
    rw [drop_cons' (rangeS_get hlt)] at q
    exact hs _ i ys s _ H' (by omega) T q _ fun y s' H' k T' => ⟨hlt, _, _, T', k⟩
  · have e : i = (rangeS lo hi c).length := by omega
    refine .inl ⟨by rw [e]; exact Nat.le_refl _, ?_⟩
    rw [List.drop_of_length_le (by omega)] at q
    exact hd _ ys s H q T
end
section
variable {α S : Type} {K : PySem.W.Frag} {H1 : Hp} {g : TG} {tb : TS} {D' : Ends} {σ : L2.St}
theorem for_rangeTG {lo hi c : Int} {body : Int → S → (S → Prop) → Prop} {KM : S → Prop} (SI : S → L2.St → Hp → Prop) (s0 : S) (hM : forC body (rangeS lo hi c) s0 KM) (h0 : SI s0 σ H1)
    (hs : ∀ (x : Int) (s : S) (k : S → Prop) (σ : L2.St) (H : Hp), SI s σ H → body x s k → ∀ Nx : L2.St → Hp → Prop, (∀ s' σ' H', k s' → SI s' σ' H' → Nx σ' H') →
      g (.int x) σ H fun σ2 H2 => tb { D' with nx := Nx, ct := Nx, bk := D'.nx } σ2 H2)
    (hd : ∀ s σ H, KM s → SI s σ H → D'.nx σ H) :
    ∃ W : Nat → Nat → L2.St → Hp → Prop, (∃ m, W 0 m σ H1) ∧ ∀ i m σ H, W i m σ H →
      ((Itc lo c (rangeS lo hi c).length).stop i H ∧ D'.nx σ H) ∨ ((Itc lo c (rangeS lo hi c).length).go i H ∧ ∃ Nx : L2.St → Hp → Prop, (∀ σ' H', Nx σ' H' → ∃ m', m' < m ∧ W (i + 1) m' σ' H') ∧ ∀ x H', (Itc lo c (rangeS lo hi c).length).yld i H x H' → g x σ H' fun σ2 H2 => tb { D' with nx := Nx, ct := Nx, bk := D'.nx } σ2 H2) := by
  refine L2.for_rangeC (lo := lo) (c := c) (n := (rangeS lo hi c).length) (D := D') (fun i σ H => ∃ s, SI s σ H ∧ forC body ((rangeS lo hi c).drop i) s KM) ⟨s0, h0, hM⟩ (fun i σ H hi' ⟨s, si, q⟩ => ?_) (fun σ H ⟨s, si, q⟩ => ?_)
  · rw [drop_cons' (rangeS_get hi')] at q
    exact hs _ s _ σ H si q _ fun s' σ' H' hk si2 => ⟨s', si2, hk⟩
  · rw [List.drop_of_length_le (Nat.le_refl _)] at q
    exact hd s σ H q si
end
theorem paired_at {ys : List V} {l : List Value} (hl : ys.length = l.length) (h : ∀ (i : Nat) (v : V) (u : Value), ys[i]? = some v → l[i]? = some u → L2.RelV v u) : Vals ys l := by
  induction ys generalizing l with
  | nil =>
    cases l with
    | nil => exact .nil
    | cons _ _ => cases hl
  | cons y ys ih =>
    cases l with
    | nil => cases hl
    | cons u l => exact .cons (h 0 y u rfl rfl) (ih (Nat.succ.inj hl) fun i v u a b => h (i + 1) v u a b)
section
variable {X : L2.Cx} {a b c e : PySem.Expr} {ta : TA}
/-- list(range(a, b, c)) -/
def tLstRg3 (ta : TA) : TE := fun σ H Q => ta σ H fun vs H1 => ∃ i j c : Int, vs = [.int i, .int j, .int c] ∧ (0 < c ∧ c < 2 ^ 30) ∧ RgB i j ∧ (rangeS i j c).length ≤ 2 ^ 24 ∧ ∀ q, H1 q = none → Q (.ref q) (upd H1 q (.lst ((rangeS i j c).map V.int)))
theorem pe_listRg3 {p pos p' pos' : Pos} (hc : X.calm = true) (hl : Gl X "list") (hlm : X.mg "list" = none) (hg : Gl X "range") (hm : X.mg "range" = none) (ha : PA X [a, b, c] ta)
    (hs : starEach [a, b, c] X.env = [(false, eval a X.env), (false, eval b X.env), (false, eval c X.env)] := by rfl) (hs2 : starEach [b, c] X.env = [(false, eval b X.env), (false, eval c X.env)] := by rfl) :
    PE X (.Call (.Name "list" p) [.Call (.Name "range" p') [a, b, c] [] pos'] [] pos) (tLstRg3 ta) := by
  refine ⟨fun pins s σ H Q I h => ?_⟩
  refine Call_ (ld_blt I hl hlm boot_list (PyProof.Rows.callWith_type1 (e := .Call (.Name "range" p') [a, b, c] [] pos') (rest := []) (PyProof.Rows.args_cons (Call_ (ld_blt I hg hm boot_range (PyProof.Rows.callWith_type1 (thn (ha.run pos' pins s σ H _ I h) fun us s1 ⟨vs, H1, I1, r1, q1⟩ => ?_) (by rw [hs, hs2]) (by rw [hs2]; rfl)))) rfl) rfl rfl))
  obtain ⟨i, j, c, e, ⟨c0, c1⟩, hb, hn, q⟩ := q1
  subst e
  cases r1 with
  | cons r rr =>
  cases rr with
  | cons r' rr =>
  cases rr with
  | cons r'' rr =>
  cases rr
  obtain ⟨t, rfl⟩ := r
  obtain ⟨t', rfl⟩ := r'
  obtain ⟨t'', rfl⟩ := r''
  refine call_range_3 (by omega) (PyProof.Rows.args_nil ?_) (.inl ?_)
  · have I2 : L2.Inv X pins σ H1 { heap := s1.heap.push { cls := .type "range", data := .fields #[.int i t, .int j t', .int c t''] }, gens := s1.gens, drawn := s1.drawn, toks := s1.toks, os := s1.os } := I1.kept fun b o e => Heap.get?_push_of_some _ e
    refine call_list_range (I2.ok.hd hc) (IsRange.new _ i j c t t' t'') (rgS_small c0 c1 hb) (rgS_size c0) hn fun h' tk acc' c' hk hob hit => ?_
    obtain ⟨hi1, hi2⟩ := hit
    refine ⟨.ref _, _, I2.laid (a := _) (o := .lst ((rangeS i j c).map V.int)) (t' := tk) hk (Nat.le_refl _) ?_, rfl, q _ I2.fresh⟩
    refine ⟨by rw [List.length_map, sizeLine_eq]; omega, acc'.toList, c', paired_at (by rw [List.length_map]; exact hi1.symm) fun k v u hv hu => ?_, hob⟩
    rw [List.getElem?_map] at hv
    have lt : k < (rangeS i j c).length := by
      rcases Nat.lt_or_ge k (rangeS i j c).length with h | h
      · exact h
      · rw [List.getElem?_eq_none h] at hv
        cases hv
    rw [rangeS_get lt] at hv
    cases hv
    obtain ⟨tt, e⟩ := hi2 k u (by simpa using hu)
    exact ⟨tt, e⟩
  · unfold Builtin.divisionGoesByPylong
    have e : c.natAbs.log2 < 30 := (Nat.log2_lt (by omega)).mpr (by omega)
    have d : (if (c == 0) = true then 0 else c.natAbs.log2 / 30 + 1) ≤ 1 := by
      split
      · omega
      · omega
    simp only [Bool.and_eq_false_iff, decide_eq_false_iff_not]
    exact .inl (by omega)
end
/-! text[::-1] -/
def revS (z : Str) : Str := ⟨z.cps.reverse⟩
theorem revS_len (z : Str) : (revS z).length = z.length := by
  show (z.cps.reverse).size = z.cps.size
  exact Array.size_reverse
theorem revS_eq (z : Str) (u : Tok) : Txt.sliceBy z none none (-1, u) = revS z := by
  have h := step_rev_list z u
  have e : (Txt.sliceBy z none none (-1, u)).cps = (revS z).cps := by
    apply Array.toList_inj.mp
    rw [h]
    show _ = (z.cps.reverse).toList
    rw [Array.toList_reverse]
    apply List.ext_getElem?
    intro i
    rw [List.getElem?_map]
    by_cases c : i < z.length
    · rw [List.getElem?_range c, List.getElem?_reverse (by exact c)]
      show some (z.cps.getD (z.length - 1 - i) 0) = z.cps.toList[z.length - 1 - i]?
      rw [Array.getD_eq_getD_getElem?, ← Array.getElem?_toList, List.getElem?_eq_getElem (show z.length - 1 - i < z.cps.toList.length from (by have : z.cps.toList.length = z.length := rfl; omega))]
      rfl
    · rw [List.getElem?_eq_none (by simpa using c), List.getElem?_eq_none (by rw [List.length_reverse]; exact Nat.le_of_not_lt c)]
      rfl
  cases hx : Txt.sliceBy z none none (-1, u) with
  | mk c =>
    rw [hx] at e
    show Str.mk c = Str.mk _
    rw [show c = _ from e]
    rfl
section
variable {X : L2.Cx} {e : PySem.Expr} {te : TE}
def tRevS (te : TE) : TE := fun σ H Q => te σ H fun x H1 => ∃ z : Str, x = .str z ∧ z.length ≤ sizeLine ∧ Q (.str (revS z)) H1
theorem pe_revS {e : PySem.Expr} {k : Nat} {p1 p2 p3 pos : Pos} (h : PE X e te)  (hl : ∀ o r : Value, letTemporaryGo e o r = pure () := by intros; rfl) :
    PE X (.Subscript e (.Slice none none (some (.UnaryOp .USub (.Constant (.int 1) k p1) p2)) p3) pos) (tRevS te) := by
  refine ⟨fun pins s σ H Q I q => ?_⟩
  have hn : PE X (.UnaryOp .USub (.Constant (.int 1) k p1) p2) (tC (.int (-1))) := ⟨fun pins s σ H Q I q => (pe_un un_neg pe_int).run pins s σ H Q I ⟨1, rfl, q⟩⟩
  refine wpAny_Subscript_Slice_step (T := "str") (id := "str.__getitem__") (by rfl) (thn (h.run pins s σ H _ I q) fun v s1 ⟨x, H1, I1, r1, q1⟩ => ?_) hl
  obtain ⟨z, e, hz, q1⟩ := q1
  subst e
  obtain ⟨t, rfl⟩ := r1
  refine wpAny_Slice (evalPart_none_step (evalPart_none_step (wpAny_evalPart_some (thn (hn.run pins s1 σ H1 (fun y H2 => y = .int (-1) ∧ H2 = H1) I1 ⟨rfl, rfl⟩) fun v s2 ⟨y, H2, I2, r2, q2⟩ => ?_))))
  obtain ⟨e1, e2⟩ := q2
  subst e1 e2
  obtain ⟨t2, rfl⟩ := r2
  refine ⟨rfl, wpAny_getItem_str_slice (l := none) (u := none) (st := some (-1, t2)) ⟨_, Heap.get?_push_size _ rfl, rfl, rfl⟩ (by rfl) ?_⟩
  have e : sliceMade z t none none (some (-1, t2)) = .str (revS z) := by
    rw [← revS_eq z t2]
    rfl
  rw [e]
  unfold Made.post
  exact ⟨by rw [revS_len]; exact hz, .str (revS z), _, I2.kept fun b o e => Heap.get?_push_of_some _ e, ⟨_, rfl⟩, q1⟩
end
theorem repL_intsM {ms : List Addr} {H : Hp} {xs : List Int} : repL ms H (xs.map fun y_ : Int => D.v (V.int y_)) (xs.map V.int) := by
  have e1 : xs.map (fun y_ : Int => D.v (V.int y_)) = (xs.map V.int).map D.v := by
    rw [List.map_map]
    rfl
  rw [e1]
  exact repL_flat.mpr rfl
/-! results that may be None, of plain values -/
def optV {α : Type} (f : α → V) : Option α → V
  | none => .non
  | some y => f y
theorem rep_oV {α : Type} {f : α → V} {ms : List Addr} {H : Hp} {m : Option α} : rep ms H (encO (fun y_ : α => D.v (f y_)) m) (optV f m) := by
  cases m <;> exact rep_v
theorem rep_optV {α : Type} {f : α → V} {ms : List Addr} {H : Hp} {m : Option α} {u : V} (h : rep ms H (encO (fun y_ : α => D.v (f y_)) m) u) : u = optV f m := by
  cases m <;> exact of_v h
theorem optV_isN {α : Type} {f : α → V} {m : Option α} (he : ∀ y, f y ≠ .non) : decide (optV f m = .non) = m.isNone := by
  cases m with
  | none => rfl
  | some y => exact decide_eq_false (he y)
theorem optV_isSome {α : Type} {f : α → V} {m : Option α} (he : ∀ y, f y ≠ .non) : (!decide (optV f m = .non)) = m.isSome := by
  rw [optV_isN he]
  cases m <;> rfl
theorem optV_some {α : Type} {f : α → V} {m : Option α} {y : α} (h : m = some y) : optV f m = f y := by rw [h]; rfl
theorem scal_oo {a b : Option Int} : scal (optV V.int a) (optV V.int b) = true := by
  cases a <;> cases b <;> rfl
theorem scal_oi {a : Option Int} {b : Int} : scal (optV V.int a) (V.int b) = true := by
  cases a <;> rfl
theorem scal_io {a : Int} {b : Option Int} : scal (V.int a) (optV V.int b) = true := by
  cases b <;> rfl
theorem scal_on {a : Option Int} : scal (optV V.int a) V.non = true := by
  cases a <;> rfl
/-! x in a list or tuple of plain values -/
section
variable {X : L2.Cx} {K : PySem.W.Frag} {ms : List Addr} {H : Hp} {u x : V}
theorem op_inSK (hK : X.K = K) : OpR X (compareOp .In) (rIn K false) := by
  subst hK
  exact op_in_seq
theorem op_ninSK (hK : X.K = K) : OpR X (compareOp .NotIn) (rIn K true) := by
  subst hK
  exact op_notIn_seq
theorem inQ_all {α : Type} {f : α → V} {xs : List α} (fs : ∀ y, flatV (f y) = true) : (xs.map f).all flatV = true := by
  rw [List.all_map]
  exact List.all_eq_true.mpr fun y _ => fs y
theorem inQ_eq {α : Type} {f : α → V} {xs : List α} {vs : List V} (h : repL ms H (xs.map fun y_ : α => D.v (f y_)) vs) : vs = xs.map f := by
  have e1 : xs.map (fun y_ : α => D.v (f y_)) = (xs.map f).map D.v := by
    rw [List.map_map]
    rfl
  rw [e1] at h
  exact repL_flat.mp h
theorem rep_inL {α : Type} {f : α → V} {xs : List α} {Q : VK} (h : rep ms H (.lst (xs.map fun y_ : α => D.v (f y_))) u) (fx : flatV x = true) (fs : ∀ y, flatV (f y) = true) (k : Q (.bl (inV x (xs.map f))) H) : rIn K false x u H Q := by
  simp only [rep] at h
  obtain ⟨p, vs, e, _, hp, hr⟩ := h
  rw [inQ_eq hr] at hp
  exact ⟨p, _, e, .inl (.inl (.inl hp)), fx, inQ_all fs, k⟩
theorem rep_ninL {α : Type} {f : α → V} {xs : List α} {Q : VK} (h : rep ms H (.lst (xs.map fun y_ : α => D.v (f y_))) u) (fx : flatV x = true) (fs : ∀ y, flatV (f y) = true) (k : Q (.bl (!inV x (xs.map f))) H) : rIn K true x u H Q := by
  simp only [rep] at h
  obtain ⟨p, vs, e, _, hp, hr⟩ := h
  rw [inQ_eq hr] at hp
  exact ⟨p, _, e, .inl (.inl (.inl hp)), fx, inQ_all fs, k⟩
theorem rep_inT {α : Type} {f : α → V} {xs : List α} {Q : VK} (h : rep ms H (.tup (xs.map fun y_ : α => D.v (f y_))) u) (fx : flatV x = true) (fs : ∀ y, flatV (f y) = true) (k : Q (.bl (inV x (xs.map f))) H) : rIn K false x u H Q := by
  simp only [rep] at h
  obtain ⟨p, vs, e, _, hp, hr⟩ := h
  rw [inQ_eq hr] at hp
  exact ⟨p, _, e, .inr (.inl (.inl hp)), fx, inQ_all fs, k⟩
theorem rep_ninT {α : Type} {f : α → V} {xs : List α} {Q : VK} (h : rep ms H (.tup (xs.map fun y_ : α => D.v (f y_))) u) (fx : flatV x = true) (fs : ∀ y, flatV (f y) = true) (k : Q (.bl (!inV x (xs.map f))) H) : rIn K true x u H Q := by
  simp only [rep] at h
  obtain ⟨p, vs, e, _, hp, hr⟩ := h
  rw [inQ_eq hr] at hp
  exact ⟨p, _, e, .inr (.inl (.inl hp)), fx, inQ_all fs, k⟩
theorem inV_int {x : Int} {xs : List Int} : inV (.int x) (xs.map V.int) = true ↔ x ∈ xs := by
  unfold inV
  rw [List.any_map, List.any_eq_true]
  constructor
  · rintro ⟨y, hy, e⟩
    have e' : (y == x) = true := e
    rw [← eq_of_beq e']
    exact hy
  · intro h
    exact ⟨x, h, show (x == x) = true from beq_self_eq_true x⟩
end
section
variable {K : PySem.W.Frag} {ms ps : List Addr} {H0 H H' H1 : Hp} {L : Addr} {d : D} {ds : List D} {u x y : V} {vs : List V} {ks : List Key} {k : Key}
theorem rep_itemsR {Q : VK} (w : Wd ms ps [] H0 H) (h : rep ms H (.dct ks ds) x)
    (q : ∀ (H' : Hp) (p : Addr), Ret [] H H' → (∀ (r : List V → Hp → Prop), (∀ vs, ks.length = vs.length → repL ms H' ds vs → (∃ ps, SqL K H' p (ps.map V.ref) ∧ Paired (fun p kv => SqT K H' p [kV kv.1, kv.2]) ps (ks.zip vs)) → r vs H') → ∃ vs, ks.length = vs.length ∧ repL ms H' ds vs ∧ r vs H') → Q (.ref p) H') : LiI.rItemsL x H Q := rep_items w h q
end
end Rx
namespace Rx
open PySem PySem.Spec PyProof.Rows L2
section
variable {K : PySem.W.Frag} {ms ps : List Addr} {H0 H : Hp} {x : V}
theorem rep_gunl {ds : List D} {n : Nat} {Q : L2.St → Hp → Prop} {t : TGs} {σ : L2.St} (h : rep ms H (.lst ds) x) (hn : ds.length = n) (k : ∀ vs, repL ms H ds vs → t vs σ H Q) : ∃ a xs, x = .ref a ∧ SqL K H a xs ∧ xs.length = n ∧ t xs σ H Q := by
  simp only [rep] at h
  obtain ⟨p, vs, e, _, hp, hr⟩ := h
  exact ⟨p, vs, e, .inl (.inl hp), by rw [← repL_len hr]; exact hn, k vs hr⟩
end
section
variable {α S : Type} {K : PySem.W.Frag} {H1 : Hp} {g : TG} {tb : TS} {D' : Ends} {σ : L2.St}
/-- a pair that is new at T -/
theorem rep_pair {ms : List Addr} {H H2 : Hp} {T : Addr} {d1 d2 : D} {v1 v2 : V} (tr : ∀ m ∈ ms, H m ≠ none) (nT : H T = none) (e : H2 = upd H T (.tup [v1, v2])) (h1 : rep ms H d1 v1) (h2 : rep ms H d2 v2) : rep ms H2 (.tup [d1, d2]) (.ref T) := by
  subst e
  simp only [rep]
  refine ⟨T, [v1, v2], rfl, fun z => tr T z nT, upd_same, ?_⟩
  exact repL_ext (Ext.new nT) (repL_cons h1 (repL_cons h2 repL_nil))
theorem for_enumG {items : List α} {e : α → D} {ms : List Addr} {a : Addr} {xs : List V} {body : (Int × α) → S → (S → Prop) → Prop} {KM : S → Prop} (SI : S → L2.St → Hp → Prop) (s0 : S) (an : a ∉ ms) (ha : H1 a = some (.lst xs)) (hx : repL ms H1 (items.map e) xs)
    (kp : ∀ s σ H, SI s σ H → Keep ms H1 H) (tr : ∀ s σ H, SI s σ H → ∀ m ∈ ms, H m ≠ none) (hM : forC body ((rangeI 0 (items.length : Int)).zip items) s0 KM) (h0 : SI s0 σ H1)
    (hs : ∀ (x : Int × α) (u : V) (s : S) (k : S → Prop) (σ : L2.St) (H H2 : Hp), SI s σ H → Ext H H2 → rep ms H2 (.tup [.v (.int x.1), e x.2]) u → body x s k → ∀ Nx : L2.St → Hp → Prop, (∀ s' σ' H', k s' → SI s' σ' H' → Nx σ' H') →
      g u σ H2 fun σ2 H2 => tb { D' with nx := Nx, ct := Nx, bk := D'.nx } σ2 H2)
    (hd : ∀ s σ H, KM s → SI s σ H → D'.nx σ H) :
    ∃ W : Nat → Nat → L2.St → Hp → Prop, (∃ m, W 0 m σ H1) ∧ ∀ i m σ H, W i m σ H →
      ((Ite K a).stop i H ∧ D'.nx σ H) ∨ ((Ite K a).go i H ∧ ∃ Nx : L2.St → Hp → Prop, (∀ σ' H', Nx σ' H' → ∃ m', m' < m ∧ W (i + 1) m' σ' H') ∧ ∀ x H', (Ite K a).yld i H x H' → g x σ H' fun σ2 H2 => tb { D' with nx := Nx, ct := Nx, bk := D'.nx } σ2 H2) := by
  have hl : items.length = xs.length := by
    have := repL_len hx
    rwa [List.length_map] at this
  have rl : (rangeI 0 (items.length : Int)).length = items.length := by rw [rangeI_len]; omega
  have zl : ((rangeI 0 (items.length : Int)).zip items).length = xs.length := by rw [List.length_zip, rl, hl, Nat.min_self]
  refine for_it (walk_enum (K := K) (a := a) (xs := xs)) (D := D') (fun i σ H => ∃ s, SI s σ H ∧ forC body (((rangeI 0 (items.length : Int)).zip items).drop i) s KM) ⟨s0, h0, hM⟩ (fun i σ H _ ⟨s, si, _⟩ => .inl (.inl (kp s σ H si a _ an ha))) (fun i u σ H H' hi ⟨s, si, q⟩ y => ?_) (fun σ H ⟨s, si, q⟩ => ?_)
  · obtain ⟨T, x1, x2, rfl, nT, eH, e1, e2⟩ := y
    have hit : items[i]? = some (items[i]'(by omega)) := List.getElem?_eq_getElem (by omega)
    have hz : ((rangeI 0 (items.length : Int)).zip items)[i]? = some ((i : Int), items[i]'(by omega)) := by
      rw [List.getElem?_zip_eq_some]
      exact ⟨by rw [rangeI_get (by omega)]; congr 1; omega, hit⟩
    rw [drop_cons' hz] at q
    obtain ⟨v, hv, rv⟩ := repL_get (repL_keep (kp s σ H si) hx) (j := i) (d := e (items[i]'(by omega))) (by rw [List.getElem?_map, hit]; rfl)
    have e2 : xs[i]? = some x2 := e2
    rw [e2] at hv
    have ev : x2 = v := Option.some.inj hv
    subst ev
    have ev1 : V.int (i : Nat) = x1 := Option.some.inj e1
    subst ev1
    have ex : Ext H H' := by rw [eH]; exact Ext.new nT
    exact hs ((i : Int), items[i]'(by omega)) (.ref T) s _ σ H H' si ex (rep_pair (tr s σ H si) nT eH rep_v rv) q _ fun s' σ' H'' hk si2 => ⟨s', si2, hk⟩
  · rw [List.drop_of_length_le (by omega)] at q
    exact hd s σ H q si
end
end Rx
namespace Wm
open PySem PySem.Spec PyProof.Rows L2

abbrev L (z : Str) : List Nat := z.cps.toList
theorem len_L (z : Str) : z.length = (L z).length := by
  show z.cps.size = z.cps.toList.length
  simp
theorem L_mk (l : List Nat) : L ⟨l.toArray⟩ = l := by simp [L]
theorem mk_L (z : Str) : (⟨(L z).toArray⟩ : Str) = z := by
  cases z
  simp [L]
theorem L_ext {a b : Str} (h : L a = L b) : a = b := ext_toList h
theorem L_app (a b : Str) : L (a ++ b) = L a ++ L b := by
  show (a.cps ++ b.cps).toList = _
  simp [L]
theorem L_empty : L ("" : Str) = [] := by decide +kernel
theorem L_h : L ("h" : Str) = [104] := by decide +kernel
theorem L_a : L ("a" : Str) = [97] := by decide +kernel
theorem L_one (c : Nat) : L ⟨#[c]⟩ = [c] := by simp [L]
theorem h_mk : ("h" : Str) = ⟨#[104]⟩ := by decide +kernel
theorem a_mk : ("a" : Str) = ⟨#[97]⟩ := by decide +kernel
theorem eqS {a b : Str} : decide (V.str a = V.str b) = decide (L a = L b) := by
  by_cases h : a = b
  · subst h
    simp
  · rw [decide_eq_false (fun z => h (V.str.inj z)), decide_eq_false (fun z => h (L_ext z))]
theorem eqI {a b : Int} : decide (V.int a = V.int b) = decide (a = b) := by
  by_cases h : a = b
  · subst h
    simp
  · rw [decide_eq_false (fun z => h (V.int.inj z)), decide_eq_false h]

/-- how many signs c -/
def cn (c : Nat) (l : List Nat) : Int := ((l.count c : Nat) : Int)
theorem cn_nil (c : Nat) : cn c [] = 0 := rfl
theorem cn_app (c : Nat) (a b : List Nat) : cn c (a ++ b) = cn c a + cn c b := by
  unfold cn
  rw [List.count_append]
  omega
theorem cn_cons (c x : Nat) (l : List Nat) : cn c (x :: l) = (if x = c then 1 else 0) + cn c l := by
  unfold cn
  rw [List.count_cons]
  by_cases h : x = c
  · simp [h]
    omega
  · simp [h]
theorem cn_pos (c : Nat) (l : List Nat) : 0 ≤ cn c l := by
  unfold cn
  omega
theorem cn_le (c : Nat) (l : List Nat) : cn c l ≤ l.length := by
  unfold cn
  have := List.count_le_length (a := c) (l := l)
  omega
theorem cnt_cn (c : Nat) : ∀ l : List Nat, cnt c l = cn c l
  | [] => by rw [cn_nil]; rfl
  | x :: l => by rw [cn_cons, cnt_cons, cnt_cn c l]
theorem count_h (x : Str) : Txt.count x ("h" : Str) = cn 104 (L x) := by rw [h_mk, count_cnt, cnt_cn]
theorem count_a (x : Str) : Txt.count x ("a" : Str) = cn 97 (L x) := by rw [a_mk, count_cnt, cnt_cn]
theorem marks_all : ∀ l : List Nat, (∀ c ∈ l, c = 104 ∨ c = 97) → cn 104 l + cn 97 l = l.length
  | [], _ => rfl
  | x :: l, h => by
    have ih := marks_all l fun c hc => h c (List.mem_cons_of_mem _ hc)
    rw [cn_cons, cn_cons, List.length_cons]
    rcases h x List.mem_cons_self with e | e <;> subst e <;> simp <;> omega

/-- z[:k], 0 ≤ k -/
theorem cut_take (z : Str) {k : Int} (h : 0 ≤ k) : L (cutS z none (some k)) = (L z).take k.toNat := by
  unfold cutS
  rw [L_mk, HT.sIx_none, List.drop_zero, Nat.sub_zero]
  show List.take (if k < 0 then _ else min k.toNat z.length) z.cps.toList = _
  rw [if_neg (by omega)]
  rw [len_L]
  exact (List.take_eq_take_min).symm
theorem join_L (ys : List Str) : L (Txt.join ("" : Str) ys) = (ys.map L).flatten := by
  rw [TL.join_eq]
  show TL.tl (Str.join _ _) = _
  rw [TL.tl_join]
  show TL.joinL (L ("" : Str)) _ = _
  rw [L_empty]
  show _ = (ys.map TL.tl).flatten
  generalize ys.map TL.tl = ls
  induction ls with
  | nil => rfl
  | cons p ls ih =>
    cases ls with
    | nil => simp [TL.joinL]
    | cons q r =>
      show p ++ ([] ++ TL.joinL [] (q :: r)) = _
      rw [ih]
      simp

/-! ### the middle, said again and again -/
def cyc (m : List Nat) (k : Nat) : List Nat := (List.range k).map fun j => m.getD (j % m.length) 0
theorem cyc_len (m : List Nat) (k : Nat) : (cyc m k).length = k := by simp [cyc]
theorem cyc_get (m : List Nat) {k j : Nat} (h : j < k) : (cyc m k)[j]? = some (m.getD (j % m.length) 0) := by
  simp [cyc, List.getElem?_map, List.getElem?_range h]
theorem cyc_get' {m : List Nat} (hm : 0 < m.length) {k j : Nat} (h : j < k) : (cyc m k)[j]? = m[j % m.length]? := by
  rw [cyc_get m h]
  have := Nat.mod_lt j hm
  rw [List.getD_eq_getElem?_getD, List.getElem?_eq_getElem this]
  rfl
theorem cyc_take (m : List Nat) {k j : Nat} (h : j ≤ k) : (cyc m k).take j = cyc m j := by
  unfold cyc
  rw [← List.map_take, List.take_range, Nat.min_eq_left h]
theorem cyc_full {m : List Nat} : cyc m m.length = m := by
  apply List.ext_getElem?
  intro j
  by_cases h : j < m.length
  · rw [cyc_get' (by omega) h, Nat.mod_eq_of_lt h]
  · rw [List.getElem?_eq_none (by rw [cyc_len]; omega), List.getElem?_eq_none (by omega)]
theorem cyc_add {m : List Nat} (hm : 0 < m.length) (k : Nat) : cyc m (m.length + k) = m ++ cyc m k := by
  apply List.ext_getElem?
  intro j
  by_cases h : j < m.length
  · rw [cyc_get' hm (by omega), List.getElem?_append_left h, Nat.mod_eq_of_lt h]
  · rw [List.getElem?_append_right (by omega)]
    by_cases h2 : j < m.length + k
    · rw [cyc_get' hm h2, cyc_get' hm (by omega), Nat.mod_eq_sub_mod (by omega)]
    · rw [List.getElem?_eq_none (by rw [cyc_len]; omega), List.getElem?_eq_none (by rw [cyc_len]; omega)]
/-- how many c the first k of them have -/
def cyn (c : Nat) (m : List Nat) (k : Nat) : Int := ((k / m.length : Nat) : Int) * cn c m + cn c (m.take (k % m.length))
theorem cyn_eq (c : Nat) {m : List Nat} (hm : 0 < m.length) : ∀ k : Nat, cn c (cyc m k) = cyn c m k := by
  intro k
  induction k using Nat.strongRecOn with
  | ind k ih =>
    by_cases h : k < m.length
    · unfold cyn
      rw [Nat.div_eq_of_lt h, Nat.mod_eq_of_lt h]
      have e : cyc m k = m.take k := by
        have := cyc_take m (Nat.le_of_lt h)
        rw [cyc_full] at this
        exact this.symm
      rw [e]
      show _ = ((0 : Nat) : Int) * _ + _
      omega
    · obtain ⟨j, rfl⟩ : ∃ j, k = m.length + j := ⟨k - m.length, by omega⟩
      rw [cyc_add hm, cn_app, ih j (by omega)]
      unfold cyn
      rw [Nat.add_mod_left, Nat.add_div_left _ hm]
      rw [show (((j / m.length + 1 : Nat) : Int)) = ((j / m.length : Nat) : Int) + 1 by omega, Int.add_mul]
      omega
theorem cyn_add (c : Nat) {m : List Nat} (hm : 0 < m.length) (k : Nat) : cyn c m (k + m.length) = cyn c m k + cn c m := by
  rw [← cyn_eq c hm, ← cyn_eq c hm, Nat.add_comm, cyc_add hm, cn_app]
  omega
theorem cyn_mul (c : Nat) {m : List Nat} (hm : 0 < m.length) (k : Nat) : cyn c m (k * m.length) = (k : Int) * cn c m := by
  unfold cyn
  rw [Nat.mul_div_cancel _ hm, Nat.mul_mod_left, List.take_zero, cn_nil]
  omega

/-! ### rows -/
def row (h m t : List Nat) (n : Nat) : List Nat := h ++ cyc m (n - h.length - t.length) ++ t
section
variable {h m t : List Nat} {n : Nat}
theorem row_len (hn : h.length + t.length ≤ n) : (row h m t n).length = n := by
  unfold row
  rw [List.length_append, List.length_append, cyc_len]
  omega
theorem row_head {j : Nat} (hj : j < h.length) : (row h m t n)[j]? = h[j]? := by
  unfold row
  rw [List.append_assoc, List.getElem?_append_left hj]
theorem row_mid {j : Nat} (hm : 0 < m.length) (hn : h.length + t.length ≤ n) (h1 : h.length ≤ j) (h2 : j < n - t.length) : (row h m t n)[j]? = m[(j - h.length) % m.length]? := by
  unfold row
  rw [List.append_assoc, List.getElem?_append_right h1, List.getElem?_append_left (by rw [cyc_len]; omega), cyc_get' hm (by omega)]
theorem row_tail {j : Nat} (hn : h.length + t.length ≤ n) (h1 : n - t.length ≤ j) : (row h m t n)[j]? = t[j - (n - t.length)]? := by
  unfold row
  rw [List.getElem?_append_right (by rw [List.length_append, cyc_len]; omega)]
  congr 1
  rw [List.length_append, cyc_len]
  omega
/-- the homes of the first i places -/
def hom (c : Nat) (h m t : List Nat) (n i : Nat) : Int := cn c (h.take i) + cyn c m (min i (n - t.length) - h.length) + cn c (t.take (i - (n - t.length)))
theorem hom_eq (c : Nat) (hm : 0 < m.length) (hn : h.length + t.length ≤ n) (i : Nat) (hi : i ≤ n) : cn c ((row h m t n).take i) = hom c h m t n i := by
  unfold row hom
  rw [List.take_append, List.take_append, cn_app, cn_app, List.length_append, cyc_len]
  congr 2
  · rw [← cyn_eq c hm]
    by_cases h1 : i - h.length ≤ n - h.length - t.length
    · rw [cyc_take m h1]
      congr 2
      omega
    · rw [List.take_of_length_le (by rw [cyc_len]; omega)]
      congr 2
      omega
  · congr 1
    omega
theorem cn_succ (c : Nat) {l : List Nat} {i x : Nat} (hx : l[i]? = some x) : cn c (l.take (i + 1)) = cn c (l.take i) + (if x = c then 1 else 0) := by
  rw [List.take_add_one, hx, cn_app]
  show _ + cn c [x] = _
  rw [cn_cons, cn_nil]
  omega
end

theorem cyc_end {m : List Nat} (hm : 0 < m.length) (k : Nat) : cyc m (k * m.length) ++ m = cyc m ((k + 1) * m.length) := by
  apply List.ext_getElem?
  intro j
  by_cases h : j < k * m.length
  · rw [List.getElem?_append_left (by rw [cyc_len]; exact h), cyc_get' hm h, cyc_get' hm (by rw [Nat.succ_mul]; omega)]
  · rw [List.getElem?_append_right (by rw [cyc_len]; omega), cyc_len]
    by_cases h2 : j < (k + 1) * m.length
    · rw [cyc_get' hm h2]
      rw [Nat.succ_mul] at h2
      obtain ⟨i, rfl⟩ : ∃ i, j = i + k * m.length := ⟨j - k * m.length, by omega⟩
      rw [Nat.add_mul_mod_self_right, Nat.mod_eq_of_lt (by omega)]
      congr 1
      omega
    · rw [List.getElem?_eq_none (by rw [Nat.succ_mul] at h2; omega), List.getElem?_eq_none (by rw [cyc_len]; omega)]

/-! ### loops of mirrors -/
section
open Rx
variable {α β S : Type}
theorem mapC_ok {body : α → (β → Prop) → Prop} {k : List β → Prop} (g : α → β) : ∀ {xs : List α} {acc : List β}, (∀ x ∈ xs, ∀ k' : β → Prop, k' (g x) → body x k') → k (acc ++ xs.map g) → mapC body xs acc k
  | [], acc, _, q => by
    rw [List.map_nil, List.append_nil] at q
    exact q
  | x :: xs, acc, h, q => h x List.mem_cons_self _ (mapC_ok g (fun y hy => h y (List.mem_cons_of_mem _ hy)) (by rw [List.append_assoc]; exact q))
theorem mapC_any {body : α → (β → Prop) → Prop} {k : List β → Prop} (P : β → Prop) : ∀ {xs : List α} {acc : List β}, (∀ x ∈ xs, ∀ k' : β → Prop, (∀ y, P y → k' y) → body x k') → (∀ ys : List β, ys.length = xs.length → (∀ y ∈ ys, P y) → k (acc ++ ys)) → mapC body xs acc k
  | [], acc, _, q => by
    have := q [] rfl (fun _ h => absurd h List.not_mem_nil)
    rw [List.append_nil] at this
    exact this
  | x :: xs, acc, h, q => h x List.mem_cons_self _ fun y hy => mapC_any P (fun z hz => h z (List.mem_cons_of_mem _ hz)) fun ys hl hp => by
    rw [List.append_assoc]
    exact q (y :: ys) (congrArg Nat.succ hl) fun z hz => by
      rcases List.mem_cons.mp hz with e | hz
      · rw [e]
        exact hy
      · exact hp z hz
theorem filC_ok {body : α → (Option β → Prop) → Prop} {k : List β → Prop} (g : α → Option β) : ∀ {xs : List α} {acc : List β}, (∀ x ∈ xs, ∀ k' : Option β → Prop, k' (g x) → body x k') → k (acc ++ xs.filterMap g) → filC body xs acc k
  | [], acc, _, q => by
    rw [List.filterMap_nil, List.append_nil] at q
    exact q
  | x :: xs, acc, h, q => h x List.mem_cons_self _ (by
    show match g x with | some y => filC body xs (acc ++ [y]) k | none => filC body xs acc k
    cases e : g x with
    | none => exact filC_ok g (fun y hy => h y (List.mem_cons_of_mem _ hy)) (by rw [List.filterMap_cons_none e] at q; exact q)
    | some y => exact filC_ok g (fun y hy => h y (List.mem_cons_of_mem _ hy)) (by rw [List.filterMap_cons_some e] at q; rw [List.append_assoc]; exact q))
theorem forC_ok {body : α → S → (S → Prop) → Prop} {k : S → Prop} (I : S → Prop) : ∀ {xs : List α} {s0 : S}, (∀ x ∈ xs, ∀ (s : S) (k' : S → Prop), I s → (∀ s', I s' → k' s') → body x s k') → I s0 → (∀ s, I s → k s) → forC body xs s0 k
  | [], s0, _, i, q => q s0 i
  | x :: xs, s0, h, i, q => h x List.mem_cons_self s0 _ i fun s' i' => forC_ok I (fun y hy => h y (List.mem_cons_of_mem _ hy)) i' q
theorem whileC_ok {body : S → (S → Prop) → (S → Prop) → Prop} {k : S → Prop} (I : S → Prop) (μ : S → Nat) (h : ∀ (s : S) (k1 : S → Prop), I s → (∀ s', I s' → μ s' < μ s → k1 s') → body s k1 k) {s0 : S} (i : I s0) : ∃ n, whileC body n s0 k := by
  have go : ∀ (n : Nat) (s : S), μ s < n → I s → whileC body n s k := by
    intro n
    induction n with
    | zero => intro s hs; omega
    | succ n ih => intro s hs is; exact h s _ is fun s' is' hl => ih s' (by omega) is'
  exact ⟨_, go _ s0 (Nat.lt_succ_self _) i⟩
theorem rangeI_mem {lo hi x : Int} (h : x ∈ rangeI lo hi) : lo ≤ x ∧ x < hi := by
  unfold rangeI at h
  obtain ⟨i, hi', e⟩ := List.mem_map.mp h
  have := List.mem_range.mp hi'
  omega
end
end Wm
namespace Lw
open PySem PySem.Spec PyProof.Rows L2 Rx
abbrev St := L2.St
def topS (i : Nat) : Stmt := PySem.Challenge.pw_ringrows_k22_marks_and_homes.main.body.getD i (.Pass ⟨0, 0, 0, 0⟩)
abbrev s_is_marks : Stmt := (topS 9)
abbrev s_check_part : Stmt := (topS 16)
abbrev s_draw : Stmt := (topS 20)
abbrev s_signs : Stmt := (topS 22)
abbrev s_parts : Stmt := (topS 23)
abbrev s_least : Stmt := (topS 24)
abbrev s_line : Stmt := (topS 25)
abbrev s_is_integer : Stmt := (topS 8)
abbrev s_Word_least : Stmt := (inClass (topS 15) 4)
abbrev s_check_places : Stmt := (topS 17)
abbrev s_Word_mark : Stmt := (inClass (topS 15) 6)
abbrev s_times_said : Stmt := (topS 11)
abbrev s_Word_homes : Stmt := (inClass (topS 15) 7)
abbrev s_small_right : Stmt := (topS 27)
abbrev s_pick : Stmt := (topS 21)
abbrev s_great : Stmt := (topS 26)
abbrev s_short : Stmt := (topS 28)
abbrev s_place_in : Stmt := (topS 29)
abbrev s_steps_right : Stmt := (topS 30)
abbrev s_great_right : Stmt := (topS 31)
abbrev s_rounds_right : Stmt := (topS 32)
abbrev s_right : Stmt := (topS 33)
abbrev s_pot : Stmt := (topS 19)
abbrev s_law : Stmt := (topS 34)
abbrev s_Word_init : Stmt := (inClass (topS 15) 0)
theorem sc_is_marks : FnScope ["value"] ["value"] (defScope s_is_marks) := ⟨rfl, rfl, rfl, by decide +kernel, rfl, by decide +kernel, by decide +kernel⟩
theorem sc_check_part : FnScope ["marks"] ["marks"] (defScope s_check_part) := ⟨rfl, rfl, rfl, by decide +kernel, rfl, by decide +kernel, by decide +kernel⟩
theorem sc_draw : FnScope ["_law_pot_here", "_law_size", "_law_digit"] ["_law_pot_here", "_law_size"] (defScope s_draw) := ⟨rfl, rfl, rfl, by decide +kernel, rfl, by decide +kernel, by decide +kernel⟩
theorem sc_signs : FnScope ["_law_pot_here", "_law_few", "_law_many", "_law_turn"] ["_law_pot_here", "_law_few", "_law_many"] (defScope s_signs) := ⟨rfl, rfl, rfl, by decide +kernel, rfl, by decide +kernel, by decide +kernel⟩
theorem sc_parts : FnScope ["_law_pot_here"] ["_law_pot_here"] (defScope s_parts) := ⟨rfl, rfl, rfl, by decide +kernel, rfl, by decide +kernel, by decide +kernel⟩
theorem sc_least : FnScope ["_law_parts_here"] ["_law_parts_here"] (defScope s_least) := ⟨rfl, rfl, rfl, by decide +kernel, rfl, by decide +kernel, by decide +kernel⟩
theorem sc_line : FnScope ["_law_parts_here", "_law_size", "_law_inner", "_law_inside"] ["_law_parts_here", "_law_size"] (defScope s_line) := ⟨rfl, rfl, rfl, by decide +kernel, rfl, by decide +kernel, by decide +kernel⟩
theorem sc_is_integer : FnScope ["value"] ["value"] (defScope s_is_integer) := ⟨rfl, rfl, rfl, by decide +kernel, rfl, by decide +kernel, by decide +kernel⟩
theorem sc_Word_least : FnScope ["self"] ["self"] (defScope s_Word_least) := ⟨rfl, rfl, rfl, by decide +kernel, rfl, by decide +kernel, by decide +kernel⟩
theorem sc_check_places : FnScope ["word", "places"] ["word", "places"] (defScope s_check_places) := ⟨rfl, rfl, rfl, by decide +kernel, rfl, by decide +kernel, by decide +kernel⟩
theorem sc_Word_mark : FnScope ["self", "places", "place", "ahead"] ["self", "places", "place"] (defScope s_Word_mark) := ⟨rfl, rfl, rfl, by decide +kernel, rfl, by decide +kernel, by decide +kernel⟩
theorem sc_times_said : FnScope ["marks", "mark", "many", "turns", "rest"] ["marks", "mark", "many"] (defScope s_times_said) := ⟨rfl, rfl, rfl, by decide +kernel, rfl, by decide +kernel, by decide +kernel⟩
theorem sc_Word_homes : FnScope ["self", "places", "place", "begin", "end", "in_head", "in_tail"] ["self", "places", "place"] (defScope s_Word_homes) := ⟨rfl, rfl, rfl, by decide +kernel, rfl, by decide +kernel, by decide +kernel⟩
theorem sc_small_right : FnScope ["_law_made", "_law_parts_here", "_law_size", "_law_line_here", "_law_at"] ["_law_made", "_law_parts_here"] (defScope s_small_right) := ⟨rfl, rfl, rfl, by decide +kernel, rfl, by decide +kernel, by decide +kernel⟩
theorem sc_pick : FnScope ["_law_pot_here", "_law_some"] ["_law_pot_here", "_law_some"] (defScope s_pick) := ⟨rfl, rfl, rfl, by decide +kernel, rfl, by decide +kernel, by decide +kernel⟩
theorem sc_great : FnScope ["_law_pot_here", "_law_least_here", "_law_found", "_law_turn"] ["_law_pot_here", "_law_least_here"] (defScope s_great) := ⟨rfl, rfl, rfl, by decide +kernel, rfl, by decide +kernel, by decide +kernel⟩
theorem sc_short : FnScope ["_law_parts_here", "_law_size", "_law_spare"] ["_law_parts_here", "_law_size"] (defScope s_short) := ⟨rfl, rfl, rfl, by decide +kernel, rfl, by decide +kernel, by decide +kernel⟩
theorem sc_place_in : FnScope ["_law_parts_here", "_law_size", "_law_short_here", "_law_at"] ["_law_parts_here", "_law_size", "_law_short_here", "_law_at"] (defScope s_place_in) := ⟨rfl, rfl, rfl, by decide +kernel, rfl, by decide +kernel, by decide +kernel⟩
theorem sc_steps_right : FnScope ["_law_made", "_law_size", "_law_at", "_law_step"] ["_law_made", "_law_size", "_law_at"] (defScope s_steps_right) := ⟨rfl, rfl, rfl, by decide +kernel, rfl, by decide +kernel, by decide +kernel⟩
theorem sc_great_right : FnScope ["_law_pot_here", "_law_made", "_law_parts_here", "_law_size", "_law_short_here", "_law_line_here", "_law_some", "_law_at", "_law_due", "_law_one"] ["_law_pot_here", "_law_made", "_law_parts_here", "_law_size"] (defScope s_great_right) := ⟨rfl, rfl, rfl, by decide +kernel, rfl, by decide +kernel, by decide +kernel⟩
theorem sc_rounds_right : FnScope ["_law_pot_here", "_law_made", "_law_parts_here", "_law_size", "_law_begin", "_law_end", "_law_many", "_law_at", "_law_turns", "_law_due", "_law_grown"] ["_law_pot_here", "_law_made", "_law_parts_here", "_law_size"] (defScope s_rounds_right) := ⟨rfl, rfl, rfl, by decide +kernel, rfl, by decide +kernel, by decide +kernel⟩
theorem sc_right : FnScope ["_law_pot_here", "_law_turn", "_law_parts_here", "_law_made", "_law_size"] ["_law_pot_here"] (defScope s_right) := ⟨rfl, rfl, rfl, by decide +kernel, rfl, by decide +kernel, by decide +kernel⟩
theorem sc_pot : FnScope ["_law_script", "_law_k", "_law_cell"] ["_law_script", "_law_k"] (defScope s_pot) := ⟨rfl, rfl, rfl, by decide +kernel, rfl, by decide +kernel, by decide +kernel⟩
theorem sc_law : FnScope ["_law_script", "_law_k"] ["_law_script"] (defScope s_law) := ⟨rfl, rfl, rfl, by decide +kernel, rfl, by decide +kernel, by decide +kernel⟩
theorem sc_Word_init : FnScope ["self", "head", "middle", "tail"] ["self", "head", "middle", "tail"] (defScope s_Word_init) := ⟨rfl, rfl, rfl, by decide +kernel, rfl, by decide +kernel, by decide +kernel⟩
structure Ad where
  a_is_marks : Addr
  d_is_marks : FuncData
  a_check_part : Addr
  d_check_part : FuncData
  a_draw : Addr
  d_draw : FuncData
  a_signs : Addr
  d_signs : FuncData
  a_parts : Addr
  d_parts : FuncData
  a_least : Addr
  d_least : FuncData
  a_line : Addr
  d_line : FuncData
  a_is_integer : Addr
  d_is_integer : FuncData
  a_Word_least : Addr
  d_Word_least : FuncData
  a_check_places : Addr
  d_check_places : FuncData
  a_Word_mark : Addr
  d_Word_mark : FuncData
  a_times_said : Addr
  d_times_said : FuncData
  a_Word_homes : Addr
  d_Word_homes : FuncData
  a_small_right : Addr
  d_small_right : FuncData
  a_pick : Addr
  d_pick : FuncData
  a_great : Addr
  d_great : FuncData
  a_short : Addr
  d_short : FuncData
  a_place_in : Addr
  d_place_in : FuncData
  a_steps_right : Addr
  d_steps_right : FuncData
  a_great_right : Addr
  d_great_right : FuncData
  a_rounds_right : Addr
  d_rounds_right : FuncData
  a_right : Addr
  d_right : FuncData
  a_pot : Addr
  d_pot : FuncData
  a_law : Addr
  d_law : FuncData
  a_Word_init : Addr
  d_Word_init : FuncData
  c_Word : Addr
  pa_Word_least : Addr
structure Txt (w : World) (K : PySem.W.Frag) (mg : Str → Option Value) (A : Ad) : Prop where
  F_is_marks : Fun K "is_marks" "is_marks" s_is_marks A.a_is_marks A.d_is_marks
  b_is_marks : Binds K A.d_is_marks ["value"] []
  g_is_marks : mg "is_marks" = some (.ref A.a_is_marks)
  F_check_part : Fun K "_check_part" "_check_part" s_check_part A.a_check_part A.d_check_part
  b_check_part : Binds K A.d_check_part ["marks"] []
  g_check_part : mg "_check_part" = some (.ref A.a_check_part)
  F_draw : Fun K "_law_draw" "_law_draw" s_draw A.a_draw A.d_draw
  b_draw : Binds K A.d_draw ["_law_pot_here", "_law_size"] []
  g_draw : mg "_law_draw" = some (.ref A.a_draw)
  F_signs : Fun K "_law_signs" "_law_signs" s_signs A.a_signs A.d_signs
  b_signs : Binds K A.d_signs ["_law_pot_here", "_law_few", "_law_many"] []
  g_signs : mg "_law_signs" = some (.ref A.a_signs)
  F_parts : Fun K "_law_parts" "_law_parts" s_parts A.a_parts A.d_parts
  b_parts : Binds K A.d_parts ["_law_pot_here"] []
  g_parts : mg "_law_parts" = some (.ref A.a_parts)
  F_least : Fun K "_law_least" "_law_least" s_least A.a_least A.d_least
  b_least : Binds K A.d_least ["_law_parts_here"] []
  g_least : mg "_law_least" = some (.ref A.a_least)
  F_line : Fun K "_law_line" "_law_line" s_line A.a_line A.d_line
  b_line : Binds K A.d_line ["_law_parts_here", "_law_size"] []
  g_line : mg "_law_line" = some (.ref A.a_line)
  F_is_integer : Fun K "is_integer" "is_integer" s_is_integer A.a_is_integer A.d_is_integer
  b_is_integer : Binds K A.d_is_integer ["value"] []
  g_is_integer : mg "is_integer" = some (.ref A.a_is_integer)
  F_Word_least : Fun K "least" "Word.least" s_Word_least A.a_Word_least A.d_Word_least
  b_Word_least : Binds K A.d_Word_least ["self"] []
  p_Word_least : PropOf K A.c_Word "least" A.pa_Word_least A.a_Word_least
  F_check_places : Fun K "_check_places" "_check_places" s_check_places A.a_check_places A.d_check_places
  b_check_places : Binds K A.d_check_places ["word", "places"] []
  g_check_places : mg "_check_places" = some (.ref A.a_check_places)
  F_Word_mark : Fun K "mark" "Word.mark" s_Word_mark A.a_Word_mark A.d_Word_mark
  b_Word_mark : Binds K A.d_Word_mark ["self", "places", "place"] []
  m_Word_mark : Meth K A.c_Word "mark" A.a_Word_mark
  F_times_said : Fun K "times_said" "times_said" s_times_said A.a_times_said A.d_times_said
  b_times_said : Binds K A.d_times_said ["marks", "mark", "many"] []
  g_times_said : mg "times_said" = some (.ref A.a_times_said)
  F_Word_homes : Fun K "homes" "Word.homes" s_Word_homes A.a_Word_homes A.d_Word_homes
  b_Word_homes : Binds K A.d_Word_homes ["self", "places", "place"] []
  m_Word_homes : Meth K A.c_Word "homes" A.a_Word_homes
  F_small_right : Fun K "_law_small_right" "_law_small_right" s_small_right A.a_small_right A.d_small_right
  b_small_right : Binds K A.d_small_right ["_law_made", "_law_parts_here"] []
  g_small_right : mg "_law_small_right" = some (.ref A.a_small_right)
  F_pick : Fun K "_law_pick" "_law_pick" s_pick A.a_pick A.d_pick
  b_pick : Binds K A.d_pick ["_law_pot_here", "_law_some"] []
  g_pick : mg "_law_pick" = some (.ref A.a_pick)
  F_great : Fun K "_law_great" "_law_great" s_great A.a_great A.d_great
  b_great : Binds K A.d_great ["_law_pot_here", "_law_least_here"] []
  g_great : mg "_law_great" = some (.ref A.a_great)
  F_short : Fun K "_law_short" "_law_short" s_short A.a_short A.d_short
  b_short : Binds K A.d_short ["_law_parts_here", "_law_size"] []
  g_short : mg "_law_short" = some (.ref A.a_short)
  F_place_in : Fun K "_law_place_in" "_law_place_in" s_place_in A.a_place_in A.d_place_in
  b_place_in : Binds K A.d_place_in ["_law_parts_here", "_law_size", "_law_short_here", "_law_at"] []
  g_place_in : mg "_law_place_in" = some (.ref A.a_place_in)
  F_steps_right : Fun K "_law_steps_right" "_law_steps_right" s_steps_right A.a_steps_right A.d_steps_right
  b_steps_right : Binds K A.d_steps_right ["_law_made", "_law_size", "_law_at"] []
  g_steps_right : mg "_law_steps_right" = some (.ref A.a_steps_right)
  F_great_right : Fun K "_law_great_right" "_law_great_right" s_great_right A.a_great_right A.d_great_right
  b_great_right : Binds K A.d_great_right ["_law_pot_here", "_law_made", "_law_parts_here", "_law_size"] []
  g_great_right : mg "_law_great_right" = some (.ref A.a_great_right)
  F_rounds_right : Fun K "_law_rounds_right" "_law_rounds_right" s_rounds_right A.a_rounds_right A.d_rounds_right
  b_rounds_right : Binds K A.d_rounds_right ["_law_pot_here", "_law_made", "_law_parts_here", "_law_size"] []
  g_rounds_right : mg "_law_rounds_right" = some (.ref A.a_rounds_right)
  F_right : Fun K "_law_right" "_law_right" s_right A.a_right A.d_right
  b_right : Binds K A.d_right ["_law_pot_here"] []
  g_right : mg "_law_right" = some (.ref A.a_right)
  F_pot : Fun K "_law_pot" "_law_pot" s_pot A.a_pot A.d_pot
  b_pot : Binds K A.d_pot ["_law_script", "_law_k"] []
  g_pot : mg "_law_pot" = some (.ref A.a_pot)
  F_law : Fun K "law" "law" s_law A.a_law A.d_law
  b_law : Binds K A.d_law ["_law_script"] []
  g_law : mg "law" = some (.ref A.a_law)
  F_Word_init : Fun K "__init__" "Word.__init__" s_Word_init A.a_Word_init A.d_Word_init
  b_Word_init : Binds K A.d_Word_init ["self", "head", "middle", "tail"] []
  cl_Word : Cls K A.c_Word
  g_Word : mg "Word" = some (.ref A.c_Word)
  mk_Word : Mk K A.c_Word A.a_Word_init
  na_Word__head : NoAttr K A.c_Word "_head"
  na_Word__middle : NoAttr K A.c_Word "_middle"
  na_Word__tail : NoAttr K A.c_Word "_tail"
  z_abs : mg "abs" = none
  z_all : mg "all" = none
  z_bool : mg "bool" = none
  z_divmod : mg "divmod" = none
  z_int : mg "int" = none
  z_isinstance : mg "isinstance" = none
  z_len : mg "len" = none
  z_max : mg "max" = none
  z_min : mg "min" = none
  z_range : mg "range" = none
  z_str : mg "str" = none
  c_MOST_MARKS : ∃ u, mg "MOST_MARKS" = some u ∧ RelV (.int 4) u
  k_Word_homes_place_places : KBn K A.d_Word_homes ["self", "places", "place"] 1 ["place", "places"] (fun us ws => us ++ [ws.getD 1 .none, ws.getD 0 .none]) (fun us ws => us ++ [ws.getD 1 .non, ws.getD 0 .non])
  k_Word_mark_place_places : KBn K A.d_Word_mark ["self", "places", "place"] 1 ["place", "places"] (fun us ws => us ++ [ws.getD 1 .none, ws.getD 0 .none]) (fun us ws => us ++ [ws.getD 1 .non, ws.getD 0 .non])
abbrev ns_Word : List Str := ["_head", "_middle", "_tail"]
theorem nd_Word : ns_Word.Nodup := by decide +kernel
abbrev eWord (A : Ad) (x : (Str × Str × Str)) : D := .ins A.c_Word ns_Word [(D.v (V.str x.1)), (D.v (V.str x.2.1)), (D.v (V.str x.2.2))]
def M_is_marks (x_value : Str) (KM : Bool → Prop) : Prop :=
  (x_value.length ≤ sizeLine ∧ (KM (decide (V.int ((Txt.count x_value ("h" : Str) : Int) + (Txt.count x_value ("a" : Str) : Int)) = V.int (x_value.length : Int)))))
def sp_is_marks (A : Ad) : Sp := fun vs H Q _ => ∃ (ms : List Addr) (x_value : Str) (KM : Bool → Prop), vs = [V.str x_value] ∧ Wd ms [] [] H H ∧ M_is_marks x_value KM ∧ ∀ (r : Bool) (u : V) (H1 : Hp), KM r → Ret [] H H1 → rep ms H1 (D.v (V.bl r)) u → Q u H1
set_option maxHeartbeats 16000000 in
theorem ok_is_marks {P : Program} {w : World} {K : PySem.W.Frag} {mg : Str → Option Value} {base : Heap} {A : Ad} (T : Txt w K mg A) : FnOk P w K mg base CX0 1 A.a_is_marks A.d_is_marks ["value"] (sp_is_marks A) := by
  refine T.F_is_marks.ok sc_is_marks (fun vs H Q E h => ?_) (fun cdv A_ outer s_ H_0 vs Q E hr h => ?_)
  · obtain ⟨ms, x_value, KM, rfl, _⟩ := h
    rfl
  · obtain ⟨ms, x_value, KM, rfl, hW, hM, hQ⟩ := h
    unfold M_is_marks at hM
    refine ⟨_, (pss_one (ps_ret (pe_and (pe_callB (call_isiK (K := K) rfl) (by rfl) T.z_isinstance (by decide +kernel) (pa_cons (pv 0) (pa_cons (pe_bltn (v := .ty "str") (by rfl) T.z_str (by decide +kernel) rfl) pa_nil))) (pe_one (pe_cmpR op_eq (pe_op op_add (pe_m1 PySem.F.slot_str_count PySem.F.type_str_count mt_count (pv 0) pe_str) (pe_m1 PySem.F.slot_str_count PySem.F.type_str_count mt_count (pv 0) pe_str)) (pe_callB call_len_str (by rfl) T.z_len PySem.boot_len (pa_cons (pv 0) pa_nil)) (nomark _)))))), ?_⟩
    refine ⟨_, rfl, ?_⟩
    refine ⟨_, _, _, _, true, rfl, .ty _, .base (.str _), kit_ty (by decide +kernel), ?_⟩
    refine ⟨_, rfl, ?_⟩
    refine iteT ?_
    refine ⟨_, rfl, ?_⟩
    refine ⟨⟨_, rfl⟩, ?_⟩
    refine ⟨_, _, rfl, rfl, ?_⟩
    refine ⟨_, rfl, ?_⟩
    refine ⟨⟨_, rfl⟩, ?_⟩
    refine ⟨_, _, rfl, rfl, ?_⟩
    refine ⟨_, _, rfl, rfl, ?_⟩
    refine ⟨_, rfl, ?_⟩
    obtain ⟨g1, hM⟩ := hM
    refine ⟨_, rfl, g1, ?_⟩
    refine ⟨rfl, ?_⟩
    exact hQ (decide (V.int ((Txt.count x_value ("h" : Str) : Int) + (Txt.count x_value ("a" : Str) : Int)) = V.int (x_value.length : Int))) _ _ hM hW.out rep_v
def M_check_part (x_marks : Str) (KM : Unit → Prop) : Prop :=
  (M_is_marks x_marks fun r1 => (if (!r1) = true then False else (x_marks.length ≤ sizeLine ∧ (if (decide ((4 : Int) < (x_marks.length : Int))) = true then False else (KM ())))))
def sp_check_part (A : Ad) : Sp := fun vs H Q _ => ∃ (ms : List Addr) (x_marks : Str) (KM : Unit → Prop), vs = [V.str x_marks] ∧ Wd ms [] [] H H ∧ M_check_part x_marks KM ∧ ∀ (r : Unit) (u : V) (H1 : Hp), KM r → Ret [] H H1 → rep ms H1 (D.v V.non) u → Q u H1
set_option maxHeartbeats 16000000 in
theorem ok_check_part {P : Program} {w : World} {K : PySem.W.Frag} {mg : Str → Option Value} {base : Heap} {A : Ad} (T : Txt w K mg A) : FnOk P w K mg base CX0 2 A.a_check_part A.d_check_part ["marks"] (sp_check_part A) := by
  refine T.F_check_part.ok sc_check_part (fun vs H Q E h => ?_) (fun cdv A_ outer s_ H_0 vs Q E hr h => ?_)
  · obtain ⟨ms, x_marks, KM, rfl, _⟩ := h
    rfl
  · obtain ⟨ms, x_marks, KM, rfl, hW, hM, hQ⟩ := h
    unfold M_check_part at hM
    refine ⟨_, (pss_one (ps_if (PW.pt (pw_or (pt_not (pt_val (pe_call (ok_is_marks T) (hr.mono (by decide)) (by rfl) T.g_is_marks T.F_is_marks.kp T.b_is_marks .nil pass0 (pa_cons (pv 0) pa_nil)))) (pw_or1 (pt_cmpR op_gt (pe_callB call_len_str (by rfl) T.z_len PySem.boot_len (pa_cons (pv 0) pa_nil)) (C8.pe_gc (by rfl) T.c_MOST_MARKS) (nomark _))))) (pss_one ps_never) pss_nil)), ?_⟩
    refine ⟨_, rfl, ?_⟩
    refine ⟨ms, x_marks, _, rfl, hW.enter0, hM, fun r1 u4 H5 hM e3 h2 => ?_⟩
    replace hW := hW.ret0 e3
    obtain rfl := of_v h2
    refine ⟨_, rfl, ?_⟩
    refine ite3 hM (fun hM => ?_) (fun hM => ?_)
    · skip
      refine iteT ?_
      exact hM
    · skip
      refine ⟨_, rfl, ?_⟩
      obtain ⟨g6, hM⟩ := hM
      refine ⟨_, rfl, g6, ?_⟩
      refine ⟨_, _, rfl, rfl, ?_⟩
      refine ⟨_, rfl, ?_⟩
      refine ite3 hM (fun hM => ?_) (fun hM => ?_)
      · skip
        exact hM
      · skip
        exact hQ () _ _ hM hW.out rep_v
/-! ### draws: any number below the size -/
def M_draw (x_size : Int) (KM : Int → Prop) : Prop := (0 < x_size ∧ x_size < 1073741824) ∧ ∀ d : Int, 0 ≤ d → d < x_size → KM d
def sp_draw (A : Ad) : Sp := fun vs H Q _ => ∃ (ms : List Addr) (ap : Addr) (x_size : Int) (KM : Int → Prop), vs = [.ref ap, V.int x_size] ∧ Wd ms [ap] [] H H ∧ M_draw x_size KM ∧ ∀ (r : Int) (u : V) (H1 : Hp), KM r → Ret [ap] H H1 → rep ms H1 (D.v (V.int r)) u → Q u H1
theorem ret_pot1 {H : Hp} {ap : Addr} {o : HO} {i j : Int} (ha : H ap = some o) (hj : j.natAbs < 4294967296) : Ret [ap] H (upd H ap (.lst [.int i, .int j])) := by
  refine ⟨fun a u n h => ?_, fun a h => ?_, fun a h => ?_⟩
  · rw [upd_ne (fun z => n (by rw [z]; exact List.mem_singleton.mpr rfl))]
    exact h
  · rw [List.mem_singleton.mp h]
    exact ⟨i, j, upd_same, hj⟩
  · by_cases e : a = ap
    · rw [e, upd_same]
      exact fun z => nomatch z
    · rw [upd_ne e]
      exact h
theorem ret_pot2 {H : Hp} {ap p : Addr} {o u : HO} {i j : Int} (ha : H ap = some o) (np : H p = none) (hj : j.natAbs < 4294967296) : Ret [ap] H (upd (upd H p u) ap (.lst [.int i, .int j])) := by
  have e := Rx.Ext.new (o := u) np
  have h2 := ret_pot1 (i := i) (j := j) (e.keep ha) hj
  exact ⟨fun a w n h => h2.kp a w n (e.keep h), h2.pot, fun a h => h2.grow a (e.grow a h)⟩
theorem ok_draw {P : Program} {w : World} {K : PySem.W.Frag} {mg : Str → Option Value} {base : Heap} {A : Ad} (T : Txt w K mg A) : FnOk P w K mg base CX0 1 A.a_draw A.d_draw ["_law_pot_here", "_law_size"] (sp_draw A) := by
  refine T.F_draw.ok sc_draw (fun vs H Q E h => ?_) (fun cdv A_ outer s_ H_0 vs Q E hr h => ?_)
  · obtain ⟨ms, ap, x_size, KM, rfl, _⟩ := h
    rfl
  · obtain ⟨ms, ap, n, KM, rfl, hW, ⟨⟨n0, n1⟩, hM⟩, hQ⟩ := h
    obtain ⟨i, j, hp, hj⟩ := hW.pot ap (List.mem_singleton.mpr rfl)
    refine ⟨_, pss_cons (ps_if (pt_cmpR op_gt (pe_ix ix_list (pv 0) pe_int (fun _ _ => rfl)) pe_int (nomark _))
        (pss_cons (ps_asg (pe_callB call_divmod (by rfl) T.z_divmod (by decide +kernel) (pa_cons (pe_ix ix_list (pv 0) pe_int (fun _ _ => rfl)) (pa_cons (pv 1) pa_nil)))
            (pg_tup rfl (pgs_cons (pg_sub (pv 0) pe_int set_list) (pgs_cons (pg_name (i := 2) sc_draw.nd rfl (.inl rfl)) pgs_nil)))) (pss_one (ps_ret (pv 2)))) pss_nil)
      (pss_cons (ps_asg (pe_op op_mod (pe_callTy call_int1 (by rfl) T.z_int (by decide +kernel) (pa_cons (pe_op op_add (pe_op op_mul (pe_ix ix_list (pv 0) pe_int (fun _ _ => rfl)) pe_int) pe_int) pa_nil)) pe_int) (pg_sub (pv 0) pe_int set_list))
      (pss_one (ps_ret (pe_op op_mod (pe_callTy call_int1 (by rfl) T.z_int (by decide +kernel) (pa_cons (pe_op op_fdiv (pe_op op_mod (pe_callTy call_int1 (by rfl) T.z_int (by decide +kernel)
          (pa_cons (pe_op op_mul (pe_ix ix_list (pv 0) pe_int (fun _ _ => rfl)) (pe_ix ix_list (pv 0) pe_int (fun _ _ => rfl))) pa_nil)) pe_int) pe_int) pa_nil)) (pv 1))))), ?_⟩
    refine ⟨_, rfl, ap, _, 0, .int i, rfl, rfl, .inl (.inl hp), rfl, _, _, rfl, rfl, _, rfl, ?_⟩
    refine ite2 (fun c => ?_) (fun c => ?_)
    · refine ⟨_, rfl, ap, _, 0, .int i, rfl, rfl, .inl (.inl hp), rfl, _, rfl, _, _, rfl, ⟨n0, n1⟩, fun p np => ?_⟩
      have npa : ap ≠ p := ne_of_none hp np
      refine ⟨p, _, rfl, .inl (.inl upd_same), rfl, _, _, rfl, _, rfl, ap, _, 0, 0, rfl, rfl, (by rw [upd_ne npa]; exact hp), rfl, _, _, rfl, rfl, _, rfl, ?_⟩
      exact hQ (i % n) _ _ (hM _ (Int.emod_nonneg _ (by omega)) (Int.emod_lt_of_pos _ n0)) (ret_pot2 hp np hj) rep_v
    · refine ⟨_, rfl, ap, _, 1, .int j, rfl, rfl, .inl (.inl hp), rfl, _, _, rfl, rfl, .inr ⟨by decide, by decide⟩, _, _, rfl, rfl, .inl ⟨_, rfl, _, _, rfl, rfl, (by show (0 : Int) < 2147483587; decide), ?_⟩⟩
      refine ⟨_, rfl, ap, _, 1, 1, rfl, rfl, hp, rfl, ?_⟩
      refine ⟨_, rfl, ap, _, 1, _, rfl, rfl, .inl (.inl upd_same), rfl, _, rfl, ap, _, 1, _, rfl, rfl, .inl (.inl upd_same), rfl, _, _, rfl, rfl, .inl ⟨?_, ?_⟩, .inl ⟨_, rfl, _, _, rfl, rfl, (by show (0 : Int) < 2147483549; decide), _, _, rfl, rfl, ⟨by decide, by decide⟩, .inl ⟨_, rfl, _, rfl, _, _, rfl, rfl, n0, ?_⟩⟩⟩
      · omega
      · omega
      · refine hQ _ _ _ (hM _ (Int.emod_nonneg _ (by omega)) (Int.emod_lt_of_pos _ n0)) (ret_pot1 (i := i) hp ?_) rep_v
        omega

def M_signs (x_few : Int) (x_many : Int) (KM : Str → Prop) : Prop :=
  (M_draw ((x_many - x_few) + (1 : Int)) fun r1 => ((rangeI (0 : Int) (x_few + r1)).length < 100000 ∧ mapC (fun (x17 : Int) (k10 : Str → Prop) => (M_draw (2 : Int) fun r23 => (("ha" : Str).length ≤ sizeLine ∧ ∃ c29, atI ("ha" : Str).cps.toList r23 = some c29 ∧ (k10 (Str.mk #[c29]))))) (rangeI (0 : Int) (x_few + r1)) [] fun ys35 => ((ys35.map (·.length)).sum + ys35.length * ("" : Str).length ≤ 16777216 ∧ (KM (Txt.join ("" : Str) ys35)))))
def sp_signs (A : Ad) : Sp := fun vs H Q _ => ∃ (ms : List Addr) (ap : Addr) (x_few : Int) (x_many : Int) (KM : Str → Prop), vs = [.ref ap, V.int x_few, V.int x_many] ∧ Wd ms [ap] [] H H ∧ M_signs x_few x_many KM ∧ ∀ (r : Str) (u : V) (H1 : Hp), KM r → Ret [ap] H H1 → rep ms H1 (D.v (V.str r)) u → Q u H1
set_option maxHeartbeats 16000000 in
theorem ok_signs {P : Program} {w : World} {K : PySem.W.Frag} {mg : Str → Option Value} {base : Heap} {A : Ad} (T : Txt w K mg A) : FnOk P w K mg base CX0 2 A.a_signs A.d_signs ["_law_pot_here", "_law_few", "_law_many"] (sp_signs A) := by
  refine T.F_signs.ok sc_signs (fun vs H Q E h => ?_) (fun cdv A_ outer s_ H_0 vs Q E hr h => ?_)
  · obtain ⟨ms, ap, x_few, x_many, KM, rfl, _⟩ := h
    rfl
  · obtain ⟨ms, ap, x_few, x_many, KM, rfl, hW, hM, hQ⟩ := h
    unfold M_signs at hM
    refine ⟨_, (pss_one (ps_ret (pe_join pe_str (pe_lc (own := [("_law_turn", 3)]) (g := gName 3) rfl sc_signs.nd (pi_rangeW1 (by rfl) T.z_range (pa_cons (pe_op op_add (pv 1) (pe_call (ok_draw T) (hr.mono (by decide)) (by rfl) T.g_draw T.F_draw.kp T.b_draw .nil pass0 (pa_cons (pv 0) (pa_cons (pe_op op_add (pe_op op_sub (pv 2) (pv 1)) pe_int) pa_nil)))) pa_nil)) (blkOk_by (N := ["_law_pot_here", "_law_few", "_law_many", "_law_turn"]) (sc := defScope s_signs) (by decide +kernel)) (fun _ _ _ _ _ => pg_name (i := 3) sc_signs.nd rfl (by first | exact Or.inl rfl | exact Or.inr rfl)) (fun _ _ _ _ _ => pts_nil) (fun _ _ _ _ _ => (pe_ix ix_str pe_str (pe_call (ok_draw T) (hr.mono (by decide)) (by rfl) T.g_draw T.F_draw.kp T.b_draw .nil pass0 (pa_cons (pv 0) (pa_cons pe_int pa_nil))) (fun _ _ => rfl))))))), ?_⟩
    refine ⟨⟨_, rfl⟩, ?_⟩
    refine ⟨_, rfl, ?_⟩
    refine ⟨_, rfl, ?_⟩
    refine ⟨_, rfl, ?_⟩
    refine ⟨_, rfl, ?_⟩
    refine ⟨_, _, rfl, rfl, ?_⟩
    refine ⟨_, _, rfl, rfl, ?_⟩
    refine ⟨ms, ap, ((x_many - x_few) + (1 : Int)), _, rfl, hW.enterP, hM, fun r1 u4 H5 hM e3 h2 => ?_⟩
    replace hW := hW.retP e3
    obtain rfl := of_v h2
    refine ⟨_, _, rfl, rfl, ?_⟩
    refine ⟨_, rfl, ?_⟩
    refine fun L6 nl7 => ?_
    have nm21 := nm_new hW nl7
    refine lc_rangeG (L := L6) (fun n_ ys_ h_ => Wd (L6 :: ms) [ap] [] H_0 h_ ∧ Keep (L6 :: ms) H5 h_ ∧ MutO (L6 :: ms) [ap] H_0 h_ L6 (D.lst (ys_.map (fun y_ : Str => (D.v (V.str y_))))) ∧ ys_.length ≤ n_) (lo := (0 : Int)) (hi := (x_few + r1)) (N := Int.toNat (x_few + r1)) (by simp) hM ⟨wd_cell hW nl7, keep_cell nl7 Keep.refl, mo_newL (ds := []) hW nl7 repL_nil, Nat.le_refl _⟩ ?_ ?_
    · skip
      rintro x17  n8 ys9 k10 H22 hn ⟨hW, hk11, mu12, ln13⟩ hM Nx16 hN14
      refine ⟨rfl, ?_⟩
      refine tyes_of ?_
      refine ⟨_, rfl, ?_⟩
      refine ⟨(L6 :: ms), ap, (2 : Int), _, rfl, hW.enterP, hM, fun r23 u26 H27 hM e25 h24 => ?_⟩
      replace hk11 := keep_ret hW e25 hk11
      replace mu12 := mo_ret hW e25 mu12
      replace hW := hW.retP e25
      obtain rfl := of_v h24
      obtain ⟨g28, hM⟩ := hM
      obtain ⟨c29, c29h, hM⟩ := hM
      refine ⟨_, _, _, rfl, rfl, g28, c29h, ?_⟩
      refine mo_end mu12 hn (by rw [List.length_map]; exact ln13) fun vs30 hr31 => ?_
      have mk33 := mo_setL mu12 (repL_snoc (e := (fun y_ : Str => (D.v (V.str y_)))) (xs := ys9) (y := (Str.mk #[c29])) hr31 rep_v)
      replace hk11 := keep_put (o := .lst (vs30 ++ [V.str (Str.mk #[c29])])) mu12.im hk11
      replace hW := wd_put (o := .lst (vs30 ++ [V.str (Str.mk #[c29])])) hW mu12
      replace mu12 := mk33
      generalize upd H27 L6 (.lst (vs30 ++ [V.str (Str.mk #[c29])])) = H34 at *
      replace mu12 : MutO (L6 :: ms) [ap] H_0 H34 L6 (D.lst ((ys9 ++ [(Str.mk #[c29])]).map (fun y_ : Str => (D.v (V.str y_))))) := mu12
      clear mk33
      exact hN14 (Str.mk #[c29]) _ hM ⟨hW, hk11, mu12, by rw [List.length_append]; exact Nat.add_le_add_right ln13 1⟩
    · skip
      rintro n8 ys35 H36 hM ⟨hW, hk11, mu12, ln13⟩
      clear hk11 ln13
      have h37 := mo_rep_dr dr_here nm21 mu12
      replace hW := wd_dr dr_here mu12.hp hW
      clear mu12
      obtain ⟨g38, hM⟩ := hM
      apply rep_join (a := ("" : Str)) (ys := ys35) h37 g38
      exact hQ (Txt.join ("" : Str) ys35) _ _ hM hW.out rep_v
def M_parts (KM : (Str × Str × Str) → Prop) : Prop :=
  (M_signs (0 : Int) (4 : Int) fun r1 => (M_signs (1 : Int) (4 : Int) fun r6 => (M_signs (0 : Int) (4 : Int) fun r11 => (KM (r1, r6, r11)))))
def sp_parts (A : Ad) : Sp := fun vs H Q _ => ∃ (ms : List Addr) (ap : Addr) (KM : (Str × Str × Str) → Prop), vs = [.ref ap] ∧ Wd ms [ap] [] H H ∧ M_parts  KM ∧ ∀ (r : (Str × Str × Str)) (u : V) (H1 : Hp), KM r → Ret [ap] H H1 → rep ms H1 (D.tup [(D.v (V.str r.1)), (D.v (V.str r.2.1)), (D.v (V.str r.2.2))]) u → Q u H1
set_option maxHeartbeats 16000000 in
theorem ok_parts {P : Program} {w : World} {K : PySem.W.Frag} {mg : Str → Option Value} {base : Heap} {A : Ad} (T : Txt w K mg A) : FnOk P w K mg base CX0 3 A.a_parts A.d_parts ["_law_pot_here"] (sp_parts A) := by
  refine T.F_parts.ok sc_parts (fun vs H Q E h => ?_) (fun cdv A_ outer s_ H_0 vs Q E hr h => ?_)
  · obtain ⟨ms, ap, KM, rfl, _⟩ := h
    rfl
  · obtain ⟨ms, ap, KM, rfl, hW, hM, hQ⟩ := h
    unfold M_parts at hM
    refine ⟨_, (pss_one (ps_ret (pe_tup (pa_cons (pe_call (ok_signs T) (hr.mono (by decide)) (by rfl) T.g_signs T.F_signs.kp T.b_signs .nil pass0 (pa_cons (pv 0) (pa_cons pe_int (pa_cons pe_int pa_nil)))) (pa_cons (pe_call (ok_signs T) (hr.mono (by decide)) (by rfl) T.g_signs T.F_signs.kp T.b_signs .nil pass0 (pa_cons (pv 0) (pa_cons pe_int (pa_cons pe_int pa_nil)))) (pa_cons (pe_call (ok_signs T) (hr.mono (by decide)) (by rfl) T.g_signs T.F_signs.kp T.b_signs .nil pass0 (pa_cons (pv 0) (pa_cons pe_int (pa_cons pe_int pa_nil)))) pa_nil)))))), ?_⟩
    refine ⟨_, rfl, ?_⟩
    refine ⟨ms, ap, (0 : Int), (4 : Int), _, rfl, hW.enterP, hM, fun r1 u4 H5 hM e3 h2 => ?_⟩
    replace hW := hW.retP e3
    obtain rfl := of_v h2
    refine ⟨_, rfl, ?_⟩
    refine ⟨ms, ap, (1 : Int), (4 : Int), _, rfl, hW.enterP, hM, fun r6 u9 H10 hM e8 h7 => ?_⟩
    replace hW := hW.retP e8
    obtain rfl := of_v h7
    refine ⟨_, rfl, ?_⟩
    refine ⟨ms, ap, (0 : Int), (4 : Int), _, rfl, hW.enterP, hM, fun r11 u14 H15 hM e13 h12 => ?_⟩
    replace hW := hW.retP e13
    obtain rfl := of_v h12
    refine ⟨(by show 3 ≤ sizeLine; decide), ?_⟩
    intro p16 n20
    have e17 := Rx.Ext.new (H := H15) (o := (HO.tup [V.str r1, V.str r6, V.str r11])) n20
    have hp18 : upd H15 p16 (HO.tup [V.str r1, V.str r6, V.str r11]) p16 = some (HO.tup [V.str r1, V.str r6, V.str r11]) := upd_same
    generalize upd H15 p16 (HO.tup [V.str r1, V.str r6, V.str r11]) = H21 at e17 hp18 ⊢
    have h19 : rep ms H21 (D.tup [(D.v (V.str r1)), (D.v (V.str r6)), (D.v (V.str r11))]) (.ref p16) := rep_tup_mk hW n20 e17 hp18 (repL_cons rep_v (repL_cons rep_v (repL_cons rep_v repL_nil)))
    replace hW := hW.ret0 e17
    exact hQ (r1, r6, r11) _ _ hM hW.out h19
def M_least (x_parts_here : (Str × Str × Str)) (KM : Int → Prop) : Prop :=
  (x_parts_here.1.length ≤ sizeLine ∧ (x_parts_here.2.2.length ≤ sizeLine ∧ (KM (if ((x_parts_here.1.length : Int) + (x_parts_here.2.2.length : Int)) > (1 : Int) then ((x_parts_here.1.length : Int) + (x_parts_here.2.2.length : Int)) else (1 : Int)))))
def sp_least (A : Ad) : Sp := fun vs H Q _ => ∃ (ms : List Addr) (v_parts_here : V) (x_parts_here : (Str × Str × Str)) (KM : Int → Prop), vs = [v_parts_here] ∧ Wd ms [] [] H H ∧ rep ms H (D.tup [(D.v (V.str x_parts_here.1)), (D.v (V.str x_parts_here.2.1)), (D.v (V.str x_parts_here.2.2))]) v_parts_here ∧ M_least x_parts_here KM ∧ ∀ (r : Int) (u : V) (H1 : Hp), KM r → Ret [] H H1 → rep ms H1 (D.v (V.int r)) u → Q u H1
set_option maxHeartbeats 16000000 in
theorem ok_least {P : Program} {w : World} {K : PySem.W.Frag} {mg : Str → Option Value} {base : Heap} {A : Ad} (T : Txt w K mg A) : FnOk P w K mg base CX0 1 A.a_least A.d_least ["_law_parts_here"] (sp_least A) := by
  refine T.F_least.ok sc_least (fun vs H Q E h => ?_) (fun cdv A_ outer s_ H_0 vs Q E hr h => ?_)
  · obtain ⟨ms, v_parts_here, x_parts_here, KM, rfl, _⟩ := h
    rfl
  · obtain ⟨ms, v_parts_here, x_parts_here, KM, rfl, hW, h_parts_here, hM, hQ⟩ := h
    unfold M_least at hM
    refine ⟨_, (pss_one (ps_ret (pe_callB (call_max2 rfl) (by rfl) T.z_max (by decide +kernel) (pa_cons pe_int (pa_cons (pe_op op_add (pe_callB call_len_str (by rfl) T.z_len PySem.boot_len (pa_cons (pe_ix (ix_tupK (K := K) rfl) (pv 0) pe_int (fun _ _ => rfl)) pa_nil)) (pe_callB call_len_str (by rfl) T.z_len PySem.boot_len (pa_cons (pe_ix (ix_tupK (K := K) rfl) (pv 0) pe_int (fun _ _ => rfl)) pa_nil))) pa_nil))))), ?_⟩
    refine ⟨_, rfl, ?_⟩
    apply rep_ixT 0 h_parts_here rfl rfl
    intro u2 h1
    obtain rfl := of_v h1
    obtain ⟨g3, hM⟩ := hM
    refine ⟨_, rfl, g3, ?_⟩
    refine ⟨_, rfl, ?_⟩
    apply rep_ixT 2 h_parts_here rfl rfl
    intro u5 h4
    obtain rfl := of_v h4
    obtain ⟨g6, hM⟩ := hM
    refine ⟨_, rfl, g6, ?_⟩
    refine ⟨_, _, rfl, rfl, ?_⟩
    refine ⟨_, _, rfl, ?_⟩
    exact hQ (if ((x_parts_here.1.length : Int) + (x_parts_here.2.2.length : Int)) > (1 : Int) then ((x_parts_here.1.length : Int) + (x_parts_here.2.2.length : Int)) else (1 : Int)) _ _ hM hW.out rep_v
def M_line (x_parts_here : (Str × Str × Str)) (x_size : Int) (KM : Str → Prop) : Prop :=
  (∃ fu1, whileC (fun (s2 : Str) (k3 k4 : Str → Prop) => (s2.length ≤ sizeLine ∧ (if (decide ((s2.length : Int) < x_size)) = true then ((s2.length + x_parts_here.2.1.length ≤ sizeLine) ∧ (k3 ((s2 ++ x_parts_here.2.1)))) else (k4 (s2))))) fu1 (("" : Str)) fun s15 => (x_parts_here.1.length ≤ sizeLine ∧ (x_parts_here.2.2.length ≤ sizeLine ∧ (s15.length ≤ sizeLine ∧ ((x_parts_here.1.length + (cutS s15 none (some ((x_size - (x_parts_here.1.length : Int)) - (x_parts_here.2.2.length : Int)))).length ≤ sizeLine) ∧ (((x_parts_here.1 ++ (cutS s15 none (some ((x_size - (x_parts_here.1.length : Int)) - (x_parts_here.2.2.length : Int))))).length + x_parts_here.2.2.length ≤ sizeLine) ∧ (KM ((x_parts_here.1 ++ (cutS s15 none (some ((x_size - (x_parts_here.1.length : Int)) - (x_parts_here.2.2.length : Int))))) ++ x_parts_here.2.2))))))))
def sp_line (A : Ad) : Sp := fun vs H Q _ => ∃ (ms : List Addr) (v_parts_here : V) (x_parts_here : (Str × Str × Str)) (x_size : Int) (KM : Str → Prop), vs = [v_parts_here, V.int x_size] ∧ Wd ms [] [] H H ∧ rep ms H (D.tup [(D.v (V.str x_parts_here.1)), (D.v (V.str x_parts_here.2.1)), (D.v (V.str x_parts_here.2.2))]) v_parts_here ∧ M_line x_parts_here x_size KM ∧ ∀ (r : Str) (u : V) (H1 : Hp), KM r → Ret [] H H1 → rep ms H1 (D.v (V.str r)) u → Q u H1
set_option maxHeartbeats 16000000 in
theorem ok_line {P : Program} {w : World} {K : PySem.W.Frag} {mg : Str → Option Value} {base : Heap} {A : Ad} (T : Txt w K mg A) : FnOk P w K mg base CX0 1 A.a_line A.d_line ["_law_parts_here", "_law_size"] (sp_line A) := by
  refine T.F_line.ok sc_line (fun vs H Q E h => ?_) (fun cdv A_ outer s_ H_0 vs Q E hr h => ?_)
  · obtain ⟨ms, v_parts_here, x_parts_here, x_size, KM, rfl, _⟩ := h
    rfl
  · obtain ⟨ms, v_parts_here, x_parts_here, x_size, KM, rfl, hW, h_parts_here, hM, hQ⟩ := h
    unfold M_line at hM
    refine ⟨_, (pss_cons (ps_set (i := 2) sc_line.nd rfl (by first | exact Or.inl rfl | exact Or.inr rfl) pe_str) (pss_cons (ps_while PassesOwn.never (pt_up (pt_cmpR op_lt (pe_callB call_len_str (by rfl) T.z_len PySem.boot_len (pa_cons (pv 2) pa_nil)) (pv 1) (nomark _))) (pss_one (ps_set (i := 2) sc_line.nd rfl (by first | exact Or.inl rfl | exact Or.inr rfl) (pe_op op_add_str (pv 2) (pe_ix (ix_tupK (K := K) rfl) (pv 0) pe_int (fun _ _ => rfl)))))) (pss_cons (ps_set (i := 3) sc_line.nd rfl (by first | exact Or.inl rfl | exact Or.inr rfl) (pe_op op_sub (pe_op op_sub (pv 1) (pe_callB call_len_str (by rfl) T.z_len PySem.boot_len (pa_cons (pe_ix (ix_tupK (K := K) rfl) (pv 0) pe_int (fun _ _ => rfl)) pa_nil))) (pe_callB call_len_str (by rfl) T.z_len PySem.boot_len (pa_cons (pe_ix (ix_tupK (K := K) rfl) (pv 0) pe_int (fun _ _ => rfl)) pa_nil)))) (pss_one (ps_ret (pe_op op_add_str (pe_op op_add_str (pe_ix (ix_tupK (K := K) rfl) (pv 0) pe_int (fun _ _ => rfl)) (pe_slice sl_str (pv 2) po_none (po_some (pv 3)))) (pe_ix (ix_tupK (K := K) rfl) (pv 0) pe_int (fun _ _ => rfl)))))))), ?_⟩
    obtain ⟨fu1, hM⟩ := hM
    refine while_G (S := Str) (fun (s : Str) σ_ h_ => σ_ = [some v_parts_here, some (V.int x_size), some (V.str s), none] ∧ Wd ms [] [] H_0 h_ ∧ Keep ms H_0 h_) (("" : Str)) hM ⟨rfl, hW, Keep.refl⟩ ?_ ?_ ?_
    · skip
      rintro s2 k3 k4 _ H10 ⟨rfl, hW, hk5⟩ hM Nx6 Ex7 hN8 hE9
      replace h_parts_here := rep_keep hk5 h_parts_here
      refine ⟨_, ?_, fun _ _ h_ => h_⟩
      refine ⟨_, rfl, ?_⟩
      obtain ⟨g11, hM⟩ := hM
      refine ⟨_, rfl, g11, ?_⟩
      refine ⟨_, rfl, ?_⟩
      refine ⟨_, _, rfl, rfl, ?_⟩
      refine ⟨_, rfl, ?_⟩
      refine ite3 hM (fun hM => ?_) (fun hM => ?_)
      · skip
        refine ⟨_, rfl, ?_⟩
        refine ⟨_, rfl, ?_⟩
        apply rep_ixT 1 h_parts_here rfl rfl
        intro u13 h12
        obtain rfl := of_v h12
        obtain ⟨g14, hM⟩ := hM
        refine ⟨_, _, rfl, rfl, g14, ?_⟩
        exact hN8 ((s2 ++ x_parts_here.2.1)) _ _ hM ⟨rfl, hW, hk5⟩
      · skip
        exact hE9 (s2) _ _ hM ⟨rfl, hW, hk5⟩
    · skip
      rintro s15 _ H17 hM ⟨rfl, hW, hk16⟩
      replace h_parts_here := rep_keep hk16 h_parts_here
      refine ⟨_, rfl, ?_⟩
      refine ⟨_, rfl, ?_⟩
      apply rep_ixT 0 h_parts_here rfl rfl
      intro u19 h18
      obtain rfl := of_v h18
      obtain ⟨g20, hM⟩ := hM
      refine ⟨_, rfl, g20, ?_⟩
      refine ⟨_, _, rfl, rfl, ?_⟩
      refine ⟨_, rfl, ?_⟩
      apply rep_ixT 2 h_parts_here rfl rfl
      intro u22 h21
      obtain rfl := of_v h21
      obtain ⟨g23, hM⟩ := hM
      refine ⟨_, rfl, g23, ?_⟩
      refine ⟨_, _, rfl, rfl, ?_⟩
      refine ⟨_, rfl, ?_⟩
      apply rep_ixT 0 h_parts_here rfl rfl
      intro u25 h24
      obtain rfl := of_v h24
      refine ⟨_, rfl, ?_⟩
      refine ⟨_, rfl, ?_⟩
      refine ⟨_, rfl, ?_⟩
      obtain ⟨g26, hM⟩ := hM
      refine ⟨_, rfl, g26, ?_⟩
      obtain ⟨g27, hM⟩ := hM
      refine ⟨_, _, rfl, rfl, g27, ?_⟩
      refine ⟨_, rfl, ?_⟩
      apply rep_ixT 2 h_parts_here rfl rfl
      intro u29 h28
      obtain rfl := of_v h28
      obtain ⟨g30, hM⟩ := hM
      refine ⟨_, _, rfl, rfl, g30, ?_⟩
      exact hQ ((x_parts_here.1 ++ (cutS s15 none (some ((x_size - (x_parts_here.1.length : Int)) - (x_parts_here.2.2.length : Int))))) ++ x_parts_here.2.2) _ _ hM hW.out rep_v
    · skip
      exact fun _ _ _ _ m_ ⟨Q_, h_, m1_⟩ => ⟨Q_, h_, fun b_ H_ q_ => m_ b_ H_ (m1_ b_ H_ q_)⟩
def M_is_integer (x_value : Int) (KM : Bool → Prop) : Prop :=
  (KM (!false))
def sp_is_integer (A : Ad) : Sp := fun vs H Q _ => ∃ (ms : List Addr) (x_value : Int) (KM : Bool → Prop), vs = [V.int x_value] ∧ Wd ms [] [] H H ∧ M_is_integer x_value KM ∧ ∀ (r : Bool) (u : V) (H1 : Hp), KM r → Ret [] H H1 → rep ms H1 (D.v (V.bl r)) u → Q u H1
set_option maxHeartbeats 16000000 in
theorem ok_is_integer {P : Program} {w : World} {K : PySem.W.Frag} {mg : Str → Option Value} {base : Heap} {A : Ad} (T : Txt w K mg A) : FnOk P w K mg base CX0 1 A.a_is_integer A.d_is_integer ["value"] (sp_is_integer A) := by
  refine T.F_is_integer.ok sc_is_integer (fun vs H Q E h => ?_) (fun cdv A_ outer s_ H_0 vs Q E hr h => ?_)
  · obtain ⟨ms, x_value, KM, rfl, _⟩ := h
    rfl
  · obtain ⟨ms, x_value, KM, rfl, hW, hM, hQ⟩ := h
    unfold M_is_integer at hM
    refine ⟨_, (pss_one (ps_ret (pe_and (pe_callB (call_isiK (K := K) rfl) (by rfl) T.z_isinstance (by decide +kernel) (pa_cons (pv 0) (pa_cons (pe_bltn (v := .ty "int") (by rfl) T.z_int (by decide +kernel) rfl) pa_nil))) (pe_one (pe_not (pe_callB (call_isiK (K := K) rfl) (by rfl) T.z_isinstance (by decide +kernel) (pa_cons (pv 0) (pa_cons (pe_bltn (v := .ty "bool") (by rfl) T.z_bool (by decide +kernel) rfl) pa_nil)))))))), ?_⟩
    refine ⟨_, rfl, ?_⟩
    refine ⟨_, _, _, _, true, rfl, .ty _, .base (.int _), kit_ty (by decide +kernel), ?_⟩
    refine ⟨_, rfl, ?_⟩
    refine iteT ?_
    refine ⟨_, rfl, ?_⟩
    refine ⟨_, _, _, _, false, rfl, .ty _, .base (.int _), kit_ty (by decide +kernel), ?_⟩
    refine ⟨_, rfl, ?_⟩
    exact hQ (!false) _ _ hM hW.out rep_v
def M_Word_least (x_self : (Str × Str × Str)) (KM : Int → Prop) : Prop :=
  (x_self.1.length ≤ sizeLine ∧ (x_self.2.2.length ≤ sizeLine ∧ (KM (if ((x_self.1.length : Int) + (x_self.2.2.length : Int)) > (1 : Int) then ((x_self.1.length : Int) + (x_self.2.2.length : Int)) else (1 : Int)))))
def sp_Word_least (A : Ad) : Sp := fun vs H Q _ => ∃ (ms : List Addr) (v_self : V) (x_self : (Str × Str × Str)) (KM : Int → Prop), vs = [v_self] ∧ Wd ms [] [] H H ∧ rep ms H (eWord A x_self) v_self ∧ M_Word_least x_self KM ∧ ∀ (r : Int) (u : V) (H1 : Hp), KM r → Ret [] H H1 → rep ms H1 (D.v (V.int r)) u → Q u H1
set_option maxHeartbeats 16000000 in
theorem ok_Word_least {P : Program} {w : World} {K : PySem.W.Frag} {mg : Str → Option Value} {base : Heap} {A : Ad} (T : Txt w K mg A) : FnOk P w K mg base CX0 1 A.a_Word_least A.d_Word_least ["self"] (sp_Word_least A) := by
  refine T.F_Word_least.ok sc_Word_least (fun vs H Q E h => ?_) (fun cdv A_ outer s_ H_0 vs Q E hr h => ?_)
  · obtain ⟨ms, v_self, x_self, KM, rfl, _⟩ := h
    rfl
  · obtain ⟨ms, v_self, x_self, KM, rfl, hW, h_self, hM, hQ⟩ := h
    unfold M_Word_least at hM
    refine ⟨_, (pss_one (ps_ret (pe_callB (call_max2 rfl) (by rfl) T.z_max (by decide +kernel) (pa_cons pe_int (pa_cons (pe_op op_add (pe_callB call_len_str (by rfl) T.z_len PySem.boot_len (pa_cons (pe_fld (pv 0) rfl) pa_nil)) (pe_callB call_len_str (by rfl) T.z_len PySem.boot_len (pa_cons (pe_fld (pv 0) rfl) pa_nil))) pa_nil))))), ?_⟩
    refine ⟨_, rfl, ?_⟩
    apply rep_fld (j := 0) h_self T.cl_Word T.na_Word__head nd_Word rfl rfl
    intro u2 h1
    obtain rfl := of_v h1
    obtain ⟨g3, hM⟩ := hM
    refine ⟨_, rfl, g3, ?_⟩
    refine ⟨_, rfl, ?_⟩
    apply rep_fld (j := 2) h_self T.cl_Word T.na_Word__tail nd_Word rfl rfl
    intro u5 h4
    obtain rfl := of_v h4
    obtain ⟨g6, hM⟩ := hM
    refine ⟨_, rfl, g6, ?_⟩
    refine ⟨_, _, rfl, rfl, ?_⟩
    refine ⟨_, _, rfl, ?_⟩
    exact hQ (if ((x_self.1.length : Int) + (x_self.2.2.length : Int)) > (1 : Int) then ((x_self.1.length : Int) + (x_self.2.2.length : Int)) else (1 : Int)) _ _ hM hW.out rep_v
/-! ### a word is made -/
def M_Word_init (h m t : Str) : Prop := M_check_part h fun _ => M_check_part m fun _ => if decide (V.str m = V.str ("" : Str)) = true then False else M_check_part t fun _ => True
def sp_Word_init (A : Ad) : Sp := fun vs H Q _ => ∃ (p dx : Addr) (h m t : Str), vs = [.ref p, .str h, .str m, .str t] ∧ H p = some (.ins A.c_Word dx []) ∧ M_Word_init h m t ∧
  ∀ H1 : Hp, (∀ a o, a ≠ p → H a = some o → H1 a = some o) → H1 p = some (.ins A.c_Word dx (ns_Word.zip [.str h, .str m, .str t])) → (∀ a, H a ≠ none → H1 a ≠ none) → Q .non H1
theorem put3 {a b c : Str} {x y z : V} (h1 : ¬ a = b) (h2 : ¬ a = c) (h3 : ¬ b = c) : putF c z (putF b y (putF a x [])) = [(a, x), (b, y), (c, z)] := by
  simp [putF, h1, h2, h3]
theorem ok_Word_init {P : Program} {w : World} {K : PySem.W.Frag} {mg : Str → Option Value} {base : Heap} {A : Ad} (T : Txt w K mg A) : FnOk P w K mg base CX0 3 A.a_Word_init A.d_Word_init ["self", "head", "middle", "tail"] (sp_Word_init A) := by
  refine T.F_Word_init.ok sc_Word_init (fun vs H Q E h => ?_) (fun cdv A_ outer s_ H_0 vs Q E hr h => ?_)
  · obtain ⟨p, dx, hd, md, tl, rfl, _⟩ := h
    rfl
  · obtain ⟨p, dx, hd, md, tl, rfl, hp, hM, hQ⟩ := h
    have wd : ∀ H : Hp, Wd [] [] [] H H := fun H => ⟨fun _ _ _ h => h, fun _ h => h, fun _ h => absurd h List.not_mem_nil, fun _ h => absurd h List.not_mem_nil, fun _ h => absurd h List.not_mem_nil, fun _ h => absurd h List.not_mem_nil⟩
    refine ⟨_, pss_cons (ps_expr (pe_call (ok_check_part T) (hr.mono (by decide)) (by rfl) T.g_check_part T.F_check_part.kp T.b_check_part .nil pass0 (pa_cons (pv 1) pa_nil)))
      (pss_cons (ps_expr (pe_call (ok_check_part T) (hr.mono (by decide)) (by rfl) T.g_check_part T.F_check_part.kp T.b_check_part .nil pass0 (pa_cons (pv 2) pa_nil)))
      (pss_cons (ps_if (pt_cmpR op_eq (pv 2) pe_str (nomark _)) (pss_one ps_never) pss_nil)
      (pss_cons (ps_expr (pe_call (ok_check_part T) (hr.mono (by decide)) (by rfl) T.g_check_part T.F_check_part.kp T.b_check_part .nil pass0 (pa_cons (pv 3) pa_nil)))
      (pss_cons (ps_fld (pv 0) (pv 1) rfl) (pss_cons (ps_fld (pv 0) (pv 2) rfl) (pss_one (ps_fld (pv 0) (pv 3) rfl))))))), ?_⟩
    refine ⟨_, rfl, [], hd, _, rfl, wd _, hM, fun r1 u1 H1 hM e1 _ => ?_⟩
    refine ⟨_, rfl, [], md, _, rfl, wd _, hM, fun r2 u2 H2 hM e2 _ => ?_⟩
    refine ⟨_, rfl, rfl, _, rfl, ?_⟩
    refine ite3 hM (fun hM => hM) (fun hM => ?_)
    refine ⟨_, rfl, [], tl, _, rfl, wd _, hM, fun r3 u3 H3 hM e3 _ => ?_⟩
    have hp3 : H3 p = some (.ins A.c_Word dx []) := e3.keep (e2.keep (e1.keep hp))
    refine ⟨_, rfl, _, rfl, p, A.c_Word, dx, _, rfl, hp3, T.cl_Word, T.na_Word__head, (by decide), ?_⟩
    refine ⟨_, rfl, _, rfl, p, A.c_Word, dx, _, rfl, upd_same, T.cl_Word, T.na_Word__middle, (by show 1 < 1000; decide), ?_⟩
    refine ⟨_, rfl, _, rfl, p, A.c_Word, dx, _, rfl, upd_same, T.cl_Word, T.na_Word__tail, ?_, ?_⟩
    · show (putF "_middle" _ (putF "_head" _ [])).length < 1000
      exact Nat.lt_of_le_of_lt (length_putF _ _ _) (Nat.lt_of_le_of_lt (Nat.add_le_add_right (length_putF _ _ _) 1) (by decide))
    · refine hQ _ (fun a o n h => ?_) ?_ (fun a h => ?_)
      · rw [upd_ne n, upd_ne n, upd_ne n]
        exact e3.keep (e2.keep (e1.keep h))
      · rw [upd_same]
        exact congrArg (fun l => some (HO.ins A.c_Word dx l)) (put3 (by decide +kernel) (by decide +kernel) (by decide +kernel))
      · by_cases e : a = p
        · rw [e, upd_same]
          exact fun z => nomatch z
        · rw [upd_ne e, upd_ne e, upd_ne e]
          exact e3.grow a (e2.grow a (e1.grow a h))
theorem make_Word {ms ps : List Addr} {cs : List (Addr × List V)} {H0 H : Hp} {A : Ad} {h m t : Str} {R : Prop} {Q : Addr → Hp → Prop} {E : XK} (hW : Wd ms ps cs H0 H) (hM : M_Word_init h m t ∧ R)
    (k : ∀ (x : Addr) (H1 : Hp), R → Rx.Ext H H1 → rep ms H1 (eWord A (h, m, t)) (.ref x) → Q x H1) :
    ∀ x dx, H x = none → H dx = none → dx ≠ x → sp_Word_init A (.ref x :: ([.str h, .str m, .str t] ++ [])) (upd (upd H dx (.own x)) x (.ins A.c_Word dx [])) (fun v H2 => v = .non ∧ Q x H2) E := by
  intro x dx nx ndx ne
  refine ⟨x, dx, h, m, t, rfl, upd_same, hM.1, fun H1 h1 h2 h3 => ⟨rfl, k x H1 hM.2 ⟨fun a o _ ha => ?_, fun _ z => absurd z List.not_mem_nil, fun a ha => ?_⟩ ?_⟩⟩
  · have n1 : a ≠ x := ne_of_none ha nx
    exact h1 a o n1 (by rw [upd_ne n1, upd_ne (ne_of_none ha ndx)]; exact ha)
  · refine h3 a ?_
    by_cases e : a = x
    · rw [e, upd_same]
      exact fun z => nomatch z
    · rw [upd_ne e]
      by_cases e2 : a = dx
      · rw [e2, upd_same]
        exact fun z => nomatch z
      · rw [upd_ne e2]
        exact ha
  · simp only [rep]
    exact ⟨x, dx, _, rfl, fun z => hW.tr x z nx, h2, rfl, repL_cons rep_v (repL_cons rep_v (repL_cons rep_v repL_nil))⟩

def M_check_places (x_word : (Str × Str × Str)) (x_places : Int) (KM : Unit → Prop) : Prop :=
  (M_is_integer x_places fun r1 => (if (!r1) = true then False else (M_Word_least x_word fun r7 => (if (decide (x_places < r7)) = true then False else (KM ())))))
def sp_check_places (A : Ad) : Sp := fun vs H Q _ => ∃ (ms : List Addr) (v_word : V) (x_word : (Str × Str × Str)) (x_places : Int) (KM : Unit → Prop), vs = [v_word, V.int x_places] ∧ Wd ms [] [] H H ∧ rep ms H (eWord A x_word) v_word ∧ M_check_places x_word x_places KM ∧ ∀ (r : Unit) (u : V) (H1 : Hp), KM r → Ret [] H H1 → rep ms H1 (D.v V.non) u → Q u H1
set_option maxHeartbeats 16000000 in
theorem ok_check_places {P : Program} {w : World} {K : PySem.W.Frag} {mg : Str → Option Value} {base : Heap} {A : Ad} (T : Txt w K mg A) : FnOk P w K mg base CX0 3 A.a_check_places A.d_check_places ["word", "places"] (sp_check_places A) := by
  refine T.F_check_places.ok sc_check_places (fun vs H Q E h => ?_) (fun cdv A_ outer s_ H_0 vs Q E hr h => ?_)
  · obtain ⟨ms, v_word, x_word, x_places, KM, rfl, _⟩ := h
    rfl
  · obtain ⟨ms, v_word, x_word, x_places, KM, rfl, hW, h_word, hM, hQ⟩ := h
    unfold M_check_places at hM
    refine ⟨_, (pss_one (ps_if (PW.pt (pw_or (pt_not (pt_val (pe_call (ok_is_integer T) (hr.mono (by decide)) (by rfl) T.g_is_integer T.F_is_integer.kp T.b_is_integer .nil pass0 (pa_cons (pv 1) pa_nil)))) (pw_or1 (pt_cmpR op_lt (pv 1) (pe_prop (pv 0) T.cl_Word T.p_Word_least (ok_Word_least T) (hr.mono (by decide)) T.b_Word_least .nil pass0 rfl) (nomark _))))) (pss_one ps_never) pss_nil)), ?_⟩
    refine ⟨_, rfl, ?_⟩
    refine ⟨ms, x_places, _, rfl, hW.enter0, hM, fun r1 u4 H5 hM e3 h2 => ?_⟩
    replace h_word := rep_ext e3 h_word
    replace hW := hW.ret0 e3
    obtain rfl := of_v h2
    refine ⟨_, rfl, ?_⟩
    refine ite3 hM (fun hM => ?_) (fun hM => ?_)
    · skip
      refine iteT ?_
      exact hM
    · skip
      refine ⟨_, rfl, ?_⟩
      refine ⟨_, rfl, ?_⟩
      apply rep_prop h_word
      intro _ h6
      refine ⟨ms, _, x_word, _, rfl, hW.enter0, h6, hM, fun r7 u10 H11 hM e9 h8 => ?_⟩
      replace h_word := rep_ext e9 h_word
      replace hW := hW.ret0 e9
      obtain rfl := of_v h8
      refine ⟨_, _, rfl, rfl, ?_⟩
      refine ⟨_, rfl, ?_⟩
      refine ite3 hM (fun hM => ?_) (fun hM => ?_)
      · skip
        exact hM
      · skip
        exact hQ () _ _ hM hW.out rep_v
def M_Word_mark (x_self : (Str × Str × Str)) (x_places : Int) (x_place : Int) (KM : Str → Prop) : Prop :=
  (M_check_places x_self x_places fun r1 => (M_is_integer x_place fun r6 => (if (!r6) = true then False else (if (decide (x_place < (1 : Int))) = true then False else (if (decide (x_places < x_place)) = true then False else (x_self.1.length ≤ sizeLine ∧ (if (decide (x_place ≤ (x_self.1.length : Int))) = true then (x_self.1.length ≤ sizeLine ∧ ∃ c17, atI x_self.1.cps.toList (x_place - (1 : Int)) = some c17 ∧ (KM (Str.mk #[c17]))) else (x_self.2.2.length ≤ sizeLine ∧ (if (decide ((x_places - (x_self.2.2.length : Int)) < x_place)) = true then (x_self.2.2.length ≤ sizeLine ∧ ∃ c24, atI x_self.2.2.cps.toList ((x_place - (x_places - (x_self.2.2.length : Int))) - (1 : Int)) = some c24 ∧ (KM (Str.mk #[c24]))) else (x_self.1.length ≤ sizeLine ∧ (x_self.2.1.length ≤ sizeLine ∧ (0 < (x_self.2.1.length : Int) ∧ (x_self.2.1.length ≤ sizeLine ∧ ∃ c35, atI x_self.2.1.cps.toList (((x_place - (x_self.1.length : Int)) - (1 : Int)) % (x_self.2.1.length : Int)) = some c35 ∧ (KM (Str.mk #[c35])))))))))))))))
def sp_Word_mark (A : Ad) : Sp := fun vs H Q _ => ∃ (ms : List Addr) (v_self : V) (x_self : (Str × Str × Str)) (x_places : Int) (x_place : Int) (KM : Str → Prop), vs = [v_self, V.int x_places, V.int x_place] ∧ Wd ms [] [] H H ∧ rep ms H (eWord A x_self) v_self ∧ M_Word_mark x_self x_places x_place KM ∧ ∀ (r : Str) (u : V) (H1 : Hp), KM r → Ret [] H H1 → rep ms H1 (D.v (V.str r)) u → Q u H1
set_option maxHeartbeats 16000000 in
theorem ok_Word_mark {P : Program} {w : World} {K : PySem.W.Frag} {mg : Str → Option Value} {base : Heap} {A : Ad} (T : Txt w K mg A) : FnOk P w K mg base CX0 4 A.a_Word_mark A.d_Word_mark ["self", "places", "place"] (sp_Word_mark A) := by
  refine T.F_Word_mark.ok sc_Word_mark (fun vs H Q E h => ?_) (fun cdv A_ outer s_ H_0 vs Q E hr h => ?_)
  · obtain ⟨ms, v_self, x_self, x_places, x_place, KM, rfl, _⟩ := h
    rfl
  · obtain ⟨ms, v_self, x_self, x_places, x_place, KM, rfl, hW, h_self, hM, hQ⟩ := h
    unfold M_Word_mark at hM
    refine ⟨_, (pss_cons (ps_expr (pe_call (ok_check_places T) (hr.mono (by decide)) (by rfl) T.g_check_places T.F_check_places.kp T.b_check_places .nil pass0 (pa_cons (pv 0) (pa_cons (pv 1) pa_nil)))) (pss_cons (ps_if (PW.pt (pw_or (pt_not (pt_val (pe_call (ok_is_integer T) (hr.mono (by decide)) (by rfl) T.g_is_integer T.F_is_integer.kp T.b_is_integer .nil pass0 (pa_cons (pv 2) pa_nil)))) (pw_or (pt_cmpR op_lt (pv 2) pe_int (nomark _)) (pw_or1 (pt_cmpR op_gt (pv 2) (pv 1) (nomark _)))))) (pss_one ps_never) pss_nil) (pss_cons (ps_if (pt_cmpR op_le (pv 2) (pe_callB call_len_str (by rfl) T.z_len PySem.boot_len (pa_cons (pe_fld (pv 0) rfl) pa_nil)) (nomark _)) (pss_one (ps_ret (pe_ix ix_str (pe_fld (pv 0) rfl) (pe_op op_sub (pv 2) pe_int) (fun _ _ => rfl)))) pss_nil) (pss_cons (ps_set (i := 3) sc_Word_mark.nd rfl (by first | exact Or.inl rfl | exact Or.inr rfl) (pe_op op_sub (pv 1) (pe_callB call_len_str (by rfl) T.z_len PySem.boot_len (pa_cons (pe_fld (pv 0) rfl) pa_nil)))) (pss_cons (ps_if (pt_cmpR op_gt (pv 2) (pv 3) (nomark _)) (pss_one (ps_ret (pe_ix ix_str (pe_fld (pv 0) rfl) (pe_op op_sub (pe_op op_sub (pv 2) (pv 3)) pe_int) (fun _ _ => rfl)))) pss_nil) (pss_one (ps_ret (pe_ix ix_str (pe_fld (pv 0) rfl) (pe_op op_mod (pe_op op_sub (pe_op op_sub (pv 2) (pe_callB call_len_str (by rfl) T.z_len PySem.boot_len (pa_cons (pe_fld (pv 0) rfl) pa_nil))) pe_int) (pe_callB call_len_str (by rfl) T.z_len PySem.boot_len (pa_cons (pe_fld (pv 0) rfl) pa_nil))) (fun _ _ => rfl))))))))), ?_⟩
    refine ⟨_, rfl, ?_⟩
    refine ⟨_, rfl, ?_⟩
    refine ⟨ms, _, x_self, x_places, _, rfl, hW.enter0, h_self, hM, fun r1 u4 H5 hM e3 h2 => ?_⟩
    replace h_self := rep_ext e3 h_self
    replace hW := hW.ret0 e3
    obtain rfl := of_v h2
    refine ⟨_, rfl, ?_⟩
    refine ⟨ms, x_place, _, rfl, hW.enter0, hM, fun r6 u9 H10 hM e8 h7 => ?_⟩
    replace h_self := rep_ext e8 h_self
    replace hW := hW.ret0 e8
    obtain rfl := of_v h7
    refine ⟨_, rfl, ?_⟩
    refine ite3 hM (fun hM => ?_) (fun hM => ?_)
    · skip
      refine iteT ?_
      exact hM
    · skip
      refine ⟨_, rfl, ?_⟩
      refine ⟨_, _, rfl, rfl, ?_⟩
      refine ⟨_, rfl, ?_⟩
      refine ite3 hM (fun hM => ?_) (fun hM => ?_)
      · skip
        refine iteT ?_
        exact hM
      · skip
        refine ⟨_, rfl, ?_⟩
        refine ⟨_, rfl, ?_⟩
        refine ⟨_, _, rfl, rfl, ?_⟩
        refine ⟨_, rfl, ?_⟩
        refine ite3 hM (fun hM => ?_) (fun hM => ?_)
        · skip
          exact hM
        · skip
          refine ⟨_, rfl, ?_⟩
          refine ⟨_, rfl, ?_⟩
          apply rep_fld (j := 0) h_self T.cl_Word T.na_Word__head nd_Word rfl rfl
          intro u12 h11
          obtain rfl := of_v h11
          obtain ⟨g13, hM⟩ := hM
          refine ⟨_, rfl, g13, ?_⟩
          refine ⟨_, _, rfl, rfl, ?_⟩
          refine ⟨_, rfl, ?_⟩
          refine ite3 hM (fun hM => ?_) (fun hM => ?_)
          · skip
            refine ⟨_, rfl, ?_⟩
            apply rep_fld (j := 0) h_self T.cl_Word T.na_Word__head nd_Word rfl rfl
            intro u15 h14
            obtain rfl := of_v h14
            refine ⟨_, rfl, ?_⟩
            refine ⟨_, _, rfl, rfl, ?_⟩
            obtain ⟨g16, hM⟩ := hM
            obtain ⟨c17, c17h, hM⟩ := hM
            refine ⟨_, _, _, rfl, rfl, g16, c17h, ?_⟩
            exact hQ (Str.mk #[c17]) _ _ hM hW.out rep_v
          · skip
            refine ⟨_, rfl, ?_⟩
            refine ⟨_, rfl, ?_⟩
            apply rep_fld (j := 2) h_self T.cl_Word T.na_Word__tail nd_Word rfl rfl
            intro u19 h18
            obtain rfl := of_v h18
            obtain ⟨g20, hM⟩ := hM
            refine ⟨_, rfl, g20, ?_⟩
            refine ⟨_, _, rfl, rfl, ?_⟩
            refine ⟨_, rfl, ?_⟩
            refine ⟨_, rfl, ?_⟩
            refine ⟨_, _, rfl, rfl, ?_⟩
            refine ⟨_, rfl, ?_⟩
            refine ite3 hM (fun hM => ?_) (fun hM => ?_)
            · skip
              refine ⟨_, rfl, ?_⟩
              apply rep_fld (j := 2) h_self T.cl_Word T.na_Word__tail nd_Word rfl rfl
              intro u22 h21
              obtain rfl := of_v h21
              refine ⟨_, rfl, ?_⟩
              refine ⟨_, rfl, ?_⟩
              refine ⟨_, _, rfl, rfl, ?_⟩
              refine ⟨_, _, rfl, rfl, ?_⟩
              obtain ⟨g23, hM⟩ := hM
              obtain ⟨c24, c24h, hM⟩ := hM
              refine ⟨_, _, _, rfl, rfl, g23, c24h, ?_⟩
              exact hQ (Str.mk #[c24]) _ _ hM hW.out rep_v
            · skip
              refine ⟨_, rfl, ?_⟩
              apply rep_fld (j := 1) h_self T.cl_Word T.na_Word__middle nd_Word rfl rfl
              intro u26 h25
              obtain rfl := of_v h25
              refine ⟨_, rfl, ?_⟩
              refine ⟨_, rfl, ?_⟩
              apply rep_fld (j := 0) h_self T.cl_Word T.na_Word__head nd_Word rfl rfl
              intro u28 h27
              obtain rfl := of_v h27
              obtain ⟨g29, hM⟩ := hM
              refine ⟨_, rfl, g29, ?_⟩
              refine ⟨_, _, rfl, rfl, ?_⟩
              refine ⟨_, _, rfl, rfl, ?_⟩
              refine ⟨_, rfl, ?_⟩
              apply rep_fld (j := 1) h_self T.cl_Word T.na_Word__middle nd_Word rfl rfl
              intro u31 h30
              obtain rfl := of_v h30
              obtain ⟨g32, hM⟩ := hM
              refine ⟨_, rfl, g32, ?_⟩
              obtain ⟨g33, hM⟩ := hM
              refine ⟨_, _, rfl, rfl, g33, ?_⟩
              obtain ⟨g34, hM⟩ := hM
              obtain ⟨c35, c35h, hM⟩ := hM
              refine ⟨_, _, _, rfl, rfl, g34, c35h, ?_⟩
              exact hQ (Str.mk #[c35]) _ _ hM hW.out rep_v
def M_times_said (x_marks : Str) (x_mark : Str) (x_many : Int) (KM : Int → Prop) : Prop :=
  (x_marks.length ≤ sizeLine ∧ (CDiv x_many (x_marks.length : Int) ∧ (CMulW (x_many / (x_marks.length : Int)) (Txt.count x_marks x_mark : Int) ∧ (x_marks.length ≤ sizeLine ∧ (KM (((x_many / (x_marks.length : Int)) * (Txt.count x_marks x_mark : Int)) + (Txt.count (cutS x_marks none (some (x_many % (x_marks.length : Int)))) x_mark : Int)))))))
def sp_times_said (A : Ad) : Sp := fun vs H Q _ => ∃ (ms : List Addr) (x_marks : Str) (x_mark : Str) (x_many : Int) (KM : Int → Prop), vs = [V.str x_marks, V.str x_mark, V.int x_many] ∧ Wd ms [] [] H H ∧ M_times_said x_marks x_mark x_many KM ∧ ∀ (r : Int) (u : V) (H1 : Hp), KM r → Ret [] H H1 → rep ms H1 (D.v (V.int r)) u → Q u H1
set_option maxHeartbeats 16000000 in
theorem ok_times_said {P : Program} {w : World} {K : PySem.W.Frag} {mg : Str → Option Value} {base : Heap} {A : Ad} (T : Txt w K mg A) : FnOk P w K mg base CX0 1 A.a_times_said A.d_times_said ["marks", "mark", "many"] (sp_times_said A) := by
  refine T.F_times_said.ok sc_times_said (fun vs H Q E h => ?_) (fun cdv A_ outer s_ H_0 vs Q E hr h => ?_)
  · obtain ⟨ms, x_marks, x_mark, x_many, KM, rfl, _⟩ := h
    rfl
  · obtain ⟨ms, x_marks, x_mark, x_many, KM, rfl, hW, hM, hQ⟩ := h
    unfold M_times_said at hM
    refine ⟨_, (pss_cons (ps_asg (pe_callB call_divmod (by rfl) T.z_divmod (by decide +kernel) (pa_cons (pv 2) (pa_cons (pe_callB call_len_str (by rfl) T.z_len PySem.boot_len (pa_cons (pv 0) pa_nil)) pa_nil))) (pg_tup rfl (pgs_cons (pg_name (i := 3) sc_times_said.nd rfl (by first | exact Or.inl rfl | exact Or.inr rfl)) (pgs_cons (pg_name (i := 4) sc_times_said.nd rfl (by first | exact Or.inl rfl | exact Or.inr rfl)) pgs_nil)))) (pss_one (ps_ret (pe_op op_add (pe_op op_mulW (pv 3) (pe_m1 PySem.F.slot_str_count PySem.F.type_str_count mt_count (pv 0) (pv 1))) (pe_m1 PySem.F.slot_str_count PySem.F.type_str_count mt_count (pe_slice sl_str (pv 0) po_none (po_some (pv 4))) (pv 1)))))), ?_⟩
    refine ⟨_, rfl, ?_⟩
    refine ⟨_, rfl, ?_⟩
    obtain ⟨g1, hM⟩ := hM
    refine ⟨_, rfl, g1, ?_⟩
    obtain ⟨g2, hM⟩ := hM
    refine ⟨_, _, rfl, g2, ?_⟩
    intro p3 n7
    have e4 := Rx.Ext.new (H := H_0) (o := (HO.tup [V.int (x_many / (x_marks.length : Int)), V.int (x_many % (x_marks.length : Int))])) n7
    have hp5 : upd H_0 p3 (HO.tup [V.int (x_many / (x_marks.length : Int)), V.int (x_many % (x_marks.length : Int))]) p3 = some (HO.tup [V.int (x_many / (x_marks.length : Int)), V.int (x_many % (x_marks.length : Int))]) := upd_same
    generalize upd H_0 p3 (HO.tup [V.int (x_many / (x_marks.length : Int)), V.int (x_many % (x_marks.length : Int))]) = H8 at e4 hp5 ⊢
    have h6 : rep ms _ (D.tup [D.v (V.int (x_many / (x_marks.length : Int))), D.v (V.int (x_many % (x_marks.length : Int)))]) (.ref p3) := rep_tup_mk hW n7 e4 hp5 (repL_cons rep_v (repL_cons rep_v repL_nil))
    replace hW := hW.ret0 e4
    apply rep_gtup h6 rfl
    intro vs9 hv10
    obtain ⟨u11, us12, rfl, h13, hv14⟩ := repL_uncons hv10
    obtain rfl := of_v h13
    obtain ⟨u15, us16, rfl, h17, hv18⟩ := repL_uncons hv14
    obtain rfl := of_v h17
    obtain rfl := repL_empty hv18
    refine ⟨_, _, rfl, ?_⟩
    refine ⟨_, _, rfl, ?_⟩
    refine ⟨rfl, ?_⟩
    refine ⟨_, rfl, ?_⟩
    refine ⟨_, rfl, ?_⟩
    refine ⟨⟨_, rfl⟩, ?_⟩
    refine ⟨_, rfl, ?_⟩
    refine ⟨_, _, rfl, rfl, ?_⟩
    obtain ⟨g19, hM⟩ := hM
    refine ⟨_, _, rfl, rfl, g19, ?_⟩
    refine ⟨_, rfl, ?_⟩
    refine ⟨_, rfl, ?_⟩
    refine ⟨_, rfl, ?_⟩
    obtain ⟨g20, hM⟩ := hM
    refine ⟨_, rfl, g20, ?_⟩
    refine ⟨⟨_, rfl⟩, ?_⟩
    refine ⟨_, rfl, ?_⟩
    refine ⟨_, _, rfl, rfl, ?_⟩
    refine ⟨_, _, rfl, rfl, ?_⟩
    exact hQ (((x_many / (x_marks.length : Int)) * (Txt.count x_marks x_mark : Int)) + (Txt.count (cutS x_marks none (some (x_many % (x_marks.length : Int)))) x_mark : Int)) _ _ hM hW.out rep_v
def M_Word_homes (x_self : (Str × Str × Str)) (x_places : Int) (x_place : Int) (KM : Int → Prop) : Prop :=
  (M_check_places x_self x_places fun r1 => (M_is_integer x_place fun r6 => (if (!r6) = true then False else (if (decide (x_place < (0 : Int))) = true then False else (if (decide (x_places < x_place)) = true then False else (x_self.1.length ≤ sizeLine ∧ (x_self.2.2.length ≤ sizeLine ∧ (x_self.1.length ≤ sizeLine ∧ (x_self.2.2.length ≤ sizeLine ∧ (M_times_said x_self.2.1 ("h" : Str) (if ((if (x_places - (x_self.2.2.length : Int)) < x_place then (x_places - (x_self.2.2.length : Int)) else x_place) - (x_self.1.length : Int)) > (0 : Int) then ((if (x_places - (x_self.2.2.length : Int)) < x_place then (x_places - (x_self.2.2.length : Int)) else x_place) - (x_self.1.length : Int)) else (0 : Int)) fun r25 => (KM (((Txt.count (cutS x_self.1 none (some x_place)) ("h" : Str) : Int) + r25) + (Txt.count (cutS x_self.2.2 none (some (if (x_place - (x_places - (x_self.2.2.length : Int))) > (0 : Int) then (x_place - (x_places - (x_self.2.2.length : Int))) else (0 : Int)))) ("h" : Str) : Int)))))))))))))
def sp_Word_homes (A : Ad) : Sp := fun vs H Q _ => ∃ (ms : List Addr) (v_self : V) (x_self : (Str × Str × Str)) (x_places : Int) (x_place : Int) (KM : Int → Prop), vs = [v_self, V.int x_places, V.int x_place] ∧ Wd ms [] [] H H ∧ rep ms H (eWord A x_self) v_self ∧ M_Word_homes x_self x_places x_place KM ∧ ∀ (r : Int) (u : V) (H1 : Hp), KM r → Ret [] H H1 → rep ms H1 (D.v (V.int r)) u → Q u H1
set_option maxHeartbeats 16000000 in
theorem ok_Word_homes {P : Program} {w : World} {K : PySem.W.Frag} {mg : Str → Option Value} {base : Heap} {A : Ad} (T : Txt w K mg A) : FnOk P w K mg base CX0 4 A.a_Word_homes A.d_Word_homes ["self", "places", "place"] (sp_Word_homes A) := by
  refine T.F_Word_homes.ok sc_Word_homes (fun vs H Q E h => ?_) (fun cdv A_ outer s_ H_0 vs Q E hr h => ?_)
  · obtain ⟨ms, v_self, x_self, x_places, x_place, KM, rfl, _⟩ := h
    rfl
  · obtain ⟨ms, v_self, x_self, x_places, x_place, KM, rfl, hW, h_self, hM, hQ⟩ := h
    unfold M_Word_homes at hM
    refine ⟨_, (pss_cons (ps_expr (pe_call (ok_check_places T) (hr.mono (by decide)) (by rfl) T.g_check_places T.F_check_places.kp T.b_check_places .nil pass0 (pa_cons (pv 0) (pa_cons (pv 1) pa_nil)))) (pss_cons (ps_if (PW.pt (pw_or (pt_not (pt_val (pe_call (ok_is_integer T) (hr.mono (by decide)) (by rfl) T.g_is_integer T.F_is_integer.kp T.b_is_integer .nil pass0 (pa_cons (pv 2) pa_nil)))) (pw_or (pt_cmpR op_lt (pv 2) pe_int (nomark _)) (pw_or1 (pt_cmpR op_gt (pv 2) (pv 1) (nomark _)))))) (pss_one ps_never) pss_nil) (pss_cons (ps_set (i := 3) sc_Word_homes.nd rfl (by first | exact Or.inl rfl | exact Or.inr rfl) (pe_callB call_len_str (by rfl) T.z_len PySem.boot_len (pa_cons (pe_fld (pv 0) rfl) pa_nil))) (pss_cons (ps_set (i := 4) sc_Word_homes.nd rfl (by first | exact Or.inl rfl | exact Or.inr rfl) (pe_op op_sub (pv 1) (pe_callB call_len_str (by rfl) T.z_len PySem.boot_len (pa_cons (pe_fld (pv 0) rfl) pa_nil)))) (pss_cons (ps_set (i := 5) sc_Word_homes.nd rfl (by first | exact Or.inl rfl | exact Or.inr rfl) (pe_m1 PySem.F.slot_str_count PySem.F.type_str_count mt_count (pe_slice sl_str (pe_fld (pv 0) rfl) po_none (po_some (pv 2))) pe_str)) (pss_cons (ps_set (i := 6) sc_Word_homes.nd rfl (by first | exact Or.inl rfl | exact Or.inr rfl) (pe_m1 PySem.F.slot_str_count PySem.F.type_str_count mt_count (pe_slice sl_str (pe_fld (pv 0) rfl) po_none (po_some (pe_callB (call_max2 rfl) (by rfl) T.z_max (by decide +kernel) (pa_cons pe_int (pa_cons (pe_op op_sub (pv 2) (pv 4)) pa_nil))))) pe_str)) (pss_one (ps_ret (pe_op op_add (pe_op op_add (pv 5) (pe_call (ok_times_said T) (hr.mono (by decide)) (by rfl) T.g_times_said T.F_times_said.kp T.b_times_said .nil pass0 (pa_cons (pe_fld (pv 0) rfl) (pa_cons pe_str (pa_cons (pe_callB (call_max2 rfl) (by rfl) T.z_max (by decide +kernel) (pa_cons pe_int (pa_cons (pe_op op_sub (pe_callB (call_min2 rfl) (by rfl) T.z_min (by decide +kernel) (pa_cons (pv 2) (pa_cons (pv 4) pa_nil))) (pv 3)) pa_nil))) pa_nil))))) (pv 6)))))))))), ?_⟩
    refine ⟨_, rfl, ?_⟩
    refine ⟨_, rfl, ?_⟩
    refine ⟨ms, _, x_self, x_places, _, rfl, hW.enter0, h_self, hM, fun r1 u4 H5 hM e3 h2 => ?_⟩
    replace h_self := rep_ext e3 h_self
    replace hW := hW.ret0 e3
    obtain rfl := of_v h2
    refine ⟨_, rfl, ?_⟩
    refine ⟨ms, x_place, _, rfl, hW.enter0, hM, fun r6 u9 H10 hM e8 h7 => ?_⟩
    replace h_self := rep_ext e8 h_self
    replace hW := hW.ret0 e8
    obtain rfl := of_v h7
    refine ⟨_, rfl, ?_⟩
    refine ite3 hM (fun hM => ?_) (fun hM => ?_)
    · skip
      refine iteT ?_
      exact hM
    · skip
      refine ⟨_, rfl, ?_⟩
      refine ⟨_, _, rfl, rfl, ?_⟩
      refine ⟨_, rfl, ?_⟩
      refine ite3 hM (fun hM => ?_) (fun hM => ?_)
      · skip
        refine iteT ?_
        exact hM
      · skip
        refine ⟨_, rfl, ?_⟩
        refine ⟨_, rfl, ?_⟩
        refine ⟨_, _, rfl, rfl, ?_⟩
        refine ⟨_, rfl, ?_⟩
        refine ite3 hM (fun hM => ?_) (fun hM => ?_)
        · skip
          exact hM
        · skip
          refine ⟨_, rfl, ?_⟩
          apply rep_fld (j := 0) h_self T.cl_Word T.na_Word__head nd_Word rfl rfl
          intro u12 h11
          obtain rfl := of_v h11
          obtain ⟨g13, hM⟩ := hM
          refine ⟨_, rfl, g13, ?_⟩
          refine ⟨_, rfl, ?_⟩
          refine ⟨_, rfl, ?_⟩
          apply rep_fld (j := 2) h_self T.cl_Word T.na_Word__tail nd_Word rfl rfl
          intro u15 h14
          obtain rfl := of_v h14
          obtain ⟨g16, hM⟩ := hM
          refine ⟨_, rfl, g16, ?_⟩
          refine ⟨_, _, rfl, rfl, ?_⟩
          refine ⟨_, rfl, ?_⟩
          apply rep_fld (j := 0) h_self T.cl_Word T.na_Word__head nd_Word rfl rfl
          intro u18 h17
          obtain rfl := of_v h17
          refine ⟨_, rfl, ?_⟩
          refine ⟨_, rfl, ?_⟩
          obtain ⟨g19, hM⟩ := hM
          refine ⟨_, rfl, g19, ?_⟩
          refine ⟨⟨_, rfl⟩, ?_⟩
          refine ⟨_, _, rfl, rfl, ?_⟩
          refine ⟨_, rfl, ?_⟩
          apply rep_fld (j := 2) h_self T.cl_Word T.na_Word__tail nd_Word rfl rfl
          intro u21 h20
          obtain rfl := of_v h20
          refine ⟨_, rfl, ?_⟩
          refine ⟨_, rfl, ?_⟩
          refine ⟨_, _, rfl, rfl, ?_⟩
          refine ⟨_, _, rfl, ?_⟩
          refine ⟨_, rfl, ?_⟩
          obtain ⟨g22, hM⟩ := hM
          refine ⟨_, rfl, g22, ?_⟩
          refine ⟨⟨_, rfl⟩, ?_⟩
          refine ⟨_, _, rfl, rfl, ?_⟩
          refine ⟨_, rfl, ?_⟩
          refine ⟨_, rfl, ?_⟩
          apply rep_fld (j := 1) h_self T.cl_Word T.na_Word__middle nd_Word rfl rfl
          intro u24 h23
          obtain rfl := of_v h23
          refine ⟨_, rfl, ?_⟩
          refine ⟨_, rfl, ?_⟩
          refine ⟨_, _, rfl, ?_⟩
          refine ⟨_, rfl, ?_⟩
          refine ⟨_, _, rfl, rfl, ?_⟩
          refine ⟨_, _, rfl, ?_⟩
          refine ⟨ms, x_self.2.1, ("h" : Str), (if ((if (x_places - (x_self.2.2.length : Int)) < x_place then (x_places - (x_self.2.2.length : Int)) else x_place) - (x_self.1.length : Int)) > (0 : Int) then ((if (x_places - (x_self.2.2.length : Int)) < x_place then (x_places - (x_self.2.2.length : Int)) else x_place) - (x_self.1.length : Int)) else (0 : Int)), _, rfl, hW.enter0, hM, fun r25 u28 H29 hM e27 h26 => ?_⟩
          replace h_self := rep_ext e27 h_self
          replace hW := hW.ret0 e27
          obtain rfl := of_v h26
          refine ⟨_, _, rfl, rfl, ?_⟩
          refine ⟨_, rfl, ?_⟩
          refine ⟨_, _, rfl, rfl, ?_⟩
          exact hQ (((Txt.count (cutS x_self.1 none (some x_place)) ("h" : Str) : Int) + r25) + (Txt.count (cutS x_self.2.2 none (some (if (x_place - (x_places - (x_self.2.2.length : Int))) > (0 : Int) then (x_place - (x_places - (x_self.2.2.length : Int))) else (0 : Int)))) ("h" : Str) : Int)) _ _ hM hW.out rep_v
def M_small_right (x_made : (Str × Str × Str)) (x_parts_here : (Str × Str × Str)) (KM : Bool → Prop) : Prop :=
  (M_least x_parts_here fun r1 => (M_least x_parts_here fun r6 => (forC (fun (x11 : Int) (s13 : Unit) (k14 : Unit → Prop) => (M_line x_parts_here x11 fun r22 => ((rangeI (1 : Int) (x11 + (1 : Int))).length < 100000 ∧ mapC (fun (x38 : Int) (k31 : Str → Prop) => (M_Word_mark x_made x11 x38 fun r45 => (k31 r45))) (rangeI (1 : Int) (x11 + (1 : Int))) [] fun ys55 => ((ys55.map (·.length)).sum + ys55.length * ("" : Str).length ≤ 16777216 ∧ (if (!(decide (V.str (Txt.join ("" : Str) ys55) = V.str r22))) = true then (KM false) else ((rangeI (0 : Int) (x11 + (1 : Int))).length < 100000 ∧ mapC (fun (x70 : Int) (k63 : Int → Prop) => (M_Word_homes x_made x11 x70 fun r77 => (k63 r77))) (rangeI (0 : Int) (x11 + (1 : Int))) [] fun ys87 => ((rangeI (0 : Int) (x11 + (1 : Int))).length < 100000 ∧ mapC (fun (x101 : Int) (k94 : Int → Prop) => (r22.length ≤ sizeLine ∧ (k94 (Txt.count (cutS r22 none (some x101)) ("h" : Str) : Int)))) (rangeI (0 : Int) (x11 + (1 : Int))) [] fun ys114 => (((plainD (D.lst (ys87.map (fun y_ : Int => (D.v (V.int y_))))) = true ∧ plainD (D.lst (ys114.map (fun y_ : Int => (D.v (V.int y_))))) = true ∧ SeqAt.shaped (pyOf (D.lst (ys87.map (fun y_ : Int => (D.v (V.int y_)))))) = true ∧ SeqAt.shaped (pyOf (D.lst (ys114.map (fun y_ : Int => (D.v (V.int y_)))))) = true)) ∧ (if (!(PyData.eqv (pyOf (D.lst (ys87.map (fun y_ : Int => (D.v (V.int y_)))))) (pyOf (D.lst (ys114.map (fun y_ : Int => (D.v (V.int y_)))))))) = true then (KM false) else (k14 ())))))))))) (rangeI r1 (r6 + (17 : Int))) () fun s118 => (M_line x_parts_here (30 : Int) fun r123 => (M_Word_mark x_made (30 : Int) (1 : Int) fun r128 => (r123.length ≤ sizeLine ∧ ∃ c134, atI r123.cps.toList (0 : Int) = some c134 ∧ (if (decide (V.str r128 = V.str (Str.mk #[c134]))) = true then (M_Word_homes x_made (30 : Int) (30 : Int) fun r135 => (KM (decide (V.int r135 = V.int (Txt.count r123 ("h" : Str) : Int))))) else (KM false))))))))
def sp_small_right (A : Ad) : Sp := fun vs H Q _ => ∃ (ms : List Addr) (v_made : V) (v_parts_here : V) (x_made : (Str × Str × Str)) (x_parts_here : (Str × Str × Str)) (KM : Bool → Prop), vs = [v_made, v_parts_here] ∧ Wd ms [] [] H H ∧ rep ms H (eWord A x_made) v_made ∧ rep ms H (D.tup [(D.v (V.str x_parts_here.1)), (D.v (V.str x_parts_here.2.1)), (D.v (V.str x_parts_here.2.2))]) v_parts_here ∧ M_small_right x_made x_parts_here KM ∧ ∀ (r : Bool) (u : V) (H1 : Hp), KM r → Ret [] H H1 → rep ms H1 (D.v (V.bl r)) u → Q u H1
set_option maxHeartbeats 16000000 in
theorem ok_small_right {P : Program} {w : World} {K : PySem.W.Frag} {mg : Str → Option Value} {base : Heap} {A : Ad} (T : Txt w K mg A) : FnOk P w K mg base CX0 5 A.a_small_right A.d_small_right ["_law_made", "_law_parts_here"] (sp_small_right A) := by
  refine T.F_small_right.ok sc_small_right (fun vs H Q E h => ?_) (fun cdv A_ outer s_ H_0 vs Q E hr h => ?_)
  · obtain ⟨ms, v_made, v_parts_here, x_made, x_parts_here, KM, rfl, _⟩ := h
    rfl
  · obtain ⟨ms, v_made, v_parts_here, x_made, x_parts_here, KM, rfl, hW, h_made, h_parts_here, hM, hQ⟩ := h
    unfold M_small_right at hM
    refine ⟨_, (pss_cons (ps_for PassesOwn.never rfl (pi_rangeW2 (by rfl) T.z_range (pa_cons (pe_call (ok_least T) (hr.mono (by decide)) (by rfl) T.g_least T.F_least.kp T.b_least .nil pass0 (pa_cons (pv 1) pa_nil)) (pa_cons (pe_op op_add (pe_call (ok_least T) (hr.mono (by decide)) (by rfl) T.g_least T.F_least.kp T.b_least .nil pass0 (pa_cons (pv 1) pa_nil)) pe_int) pa_nil))) (pg_name (i := 2) sc_small_right.nd rfl (by first | exact Or.inl rfl | exact Or.inr rfl)) (pss_cons (ps_set (i := 3) sc_small_right.nd rfl (by first | exact Or.inl rfl | exact Or.inr rfl) (pe_call (ok_line T) (hr.mono (by decide)) (by rfl) T.g_line T.F_line.kp T.b_line .nil pass0 (pa_cons (pv 1) (pa_cons (pv 2) pa_nil)))) (pss_cons (ps_if (pt_cmpR op_ne (pe_join pe_str (pe_lc (own := [("_law_at", 4)]) (g := gName 4) rfl sc_small_right.nd (pi_rangeW2 (by rfl) T.z_range (pa_cons pe_int (pa_cons (pe_op op_add (pv 2) pe_int) pa_nil))) (blkOk_by (N := ["_law_made", "_law_parts_here", "_law_size", "_law_line_here", "_law_at"]) (sc := defScope s_small_right) (by decide +kernel)) (fun _ _ _ _ _ => pg_name (i := 4) sc_small_right.nd rfl (by first | exact Or.inl rfl | exact Or.inr rfl)) (fun _ _ _ _ _ => pts_nil) (fun _ _ _ _ _ => (pe_meth (pv 0) T.cl_Word T.m_Word_mark (ok_Word_mark T) (hr.mono (by decide)) T.b_Word_mark .nil pass0 (pa_cons (pv 2) (pa_cons (pv 4) pa_nil)))))) (pv 3) (nomark _)) (pss_one (ps_ret pe_bl)) pss_nil) (pss_one (ps_if (pt_cmpR (op_neDK (K := K) rfl hr.units) (pe_lc (own := [("_law_at", 4)]) (g := gName 4) rfl sc_small_right.nd (pi_rangeW1 (by rfl) T.z_range (pa_cons (pe_op op_add (pv 2) pe_int) pa_nil)) (blkOk_by (N := ["_law_made", "_law_parts_here", "_law_size", "_law_line_here", "_law_at"]) (sc := defScope s_small_right) (by decide +kernel)) (fun _ _ _ _ _ => pg_name (i := 4) sc_small_right.nd rfl (by first | exact Or.inl rfl | exact Or.inr rfl)) (fun _ _ _ _ _ => pts_nil) (fun _ _ _ _ _ => (pe_meth (pv 0) T.cl_Word T.m_Word_homes (ok_Word_homes T) (hr.mono (by decide)) T.b_Word_homes .nil pass0 (pa_cons (pv 2) (pa_cons (pv 4) pa_nil))))) (pe_lc (own := [("_law_at", 4)]) (g := gName 4) rfl sc_small_right.nd (pi_rangeW1 (by rfl) T.z_range (pa_cons (pe_op op_add (pv 2) pe_int) pa_nil)) (blkOk_by (N := ["_law_made", "_law_parts_here", "_law_size", "_law_line_here", "_law_at"]) (sc := defScope s_small_right) (by decide +kernel)) (fun _ _ _ _ _ => pg_name (i := 4) sc_small_right.nd rfl (by first | exact Or.inl rfl | exact Or.inr rfl)) (fun _ _ _ _ _ => pts_nil) (fun _ _ _ _ _ => (pe_m1 PySem.F.slot_str_count PySem.F.type_str_count mt_count (pe_slice sl_str (pv 3) po_none (po_some (pv 4))) pe_str))) (nomark _)) (pss_one (ps_ret pe_bl)) pss_nil))))) (pss_cons (ps_set (i := 3) sc_small_right.nd rfl (by first | exact Or.inl rfl | exact Or.inr rfl) (pe_call (ok_line T) (hr.mono (by decide)) (by rfl) T.g_line T.F_line.kp T.b_line .nil pass0 (pa_cons (pv 1) (pa_cons pe_int pa_nil)))) (pss_one (ps_ret (pe_and (pe_cmpR op_eq (pe_methK0 (pv 0) T.cl_Word T.m_Word_mark (ok_Word_mark T) (hr.mono (by decide)) T.k_Word_mark_place_places pass0 (pk_cons pe_int (pk_cons pe_int pk_nil))) (pe_ix ix_str (pv 3) pe_int (fun _ _ => rfl)) (nomark _)) (pe_one (pe_cmpR op_eq (pe_methK0 (pv 0) T.cl_Word T.m_Word_homes (ok_Word_homes T) (hr.mono (by decide)) T.k_Word_homes_place_places pass0 (pk_cons pe_int (pk_cons pe_int pk_nil))) (pe_m1 PySem.F.slot_str_count PySem.F.type_str_count mt_count (pv 3) pe_str) (nomark _)))))))), ?_⟩
    refine ⟨_, rfl, ?_⟩
    refine ⟨ms, _, x_parts_here, _, rfl, hW.enter0, h_parts_here, hM, fun r1 u4 H5 hM e3 h2 => ?_⟩
    replace h_made := rep_ext e3 h_made
    replace h_parts_here := rep_ext e3 h_parts_here
    replace hW := hW.ret0 e3
    obtain rfl := of_v h2
    refine ⟨_, rfl, ?_⟩
    refine ⟨ms, _, x_parts_here, _, rfl, hW.enter0, h_parts_here, hM, fun r6 u9 H10 hM e8 h7 => ?_⟩
    replace h_made := rep_ext e8 h_made
    replace h_parts_here := rep_ext e8 h_parts_here
    replace hW := hW.ret0 e8
    obtain rfl := of_v h7
    refine ⟨_, _, rfl, rfl, ?_⟩
    refine ⟨_, _, rfl, ?_⟩
    refine for_rangeG (S := Unit) (lo := r1) (hi := (r6 + (17 : Int))) (N := Int.toNat ((r6 + (17 : Int)) - r1)) (fun (s : Unit) σ_ h_ => ∃ (w_0 : Option V), ∃ (w_1 : Option V), σ_ = [some v_made, some v_parts_here, w_0, w_1, none] ∧ Wd ms [] [] H_0 h_ ∧ Keep ms H10 h_) () (by simp) hM ⟨_, _, rfl, hW, Keep.refl⟩ ?_ ?_
    · skip
      rintro x11 s13 k14 _ H21 ⟨w19, w20, rfl, hW, hk15⟩ hM Nx17 hN18
      replace h_made := rep_keep hk15 h_made
      replace h_parts_here := rep_keep hk15 h_parts_here
      refine ⟨_, rfl, ?_⟩
      refine ⟨_, rfl, ?_⟩
      refine ⟨ms, _, x_parts_here, x11, _, rfl, hW.enter0, h_parts_here, hM, fun r22 u25 H26 hM e24 h23 => ?_⟩
      replace h_made := rep_ext e24 h_made
      replace h_parts_here := rep_ext e24 h_parts_here
      replace hk15 := keep_ext e24 hk15
      replace hW := hW.ret0 e24
      obtain rfl := of_v h23
      refine ⟨⟨_, rfl⟩, ?_⟩
      refine ⟨_, rfl, ?_⟩
      refine ⟨_, _, rfl, rfl, ?_⟩
      refine ⟨_, _, rfl, ?_⟩
      refine fun L27 nl28 => ?_
      have nm42 := nm_new hW nl28
      have kn43 := keep_none (w := hW) nl28 hk15
      refine lc_rangeG (L := L27) (fun n_ ys_ h_ => Wd (L27 :: ms) [] [] H_0 h_ ∧ Keep (L27 :: ms) H26 h_ ∧ MutO (L27 :: ms) [] H_0 h_ L27 (D.lst (ys_.map (fun y_ : Str => (D.v (V.str y_))))) ∧ ys_.length ≤ n_) (lo := (1 : Int)) (hi := (x11 + (1 : Int))) (N := Int.toNat ((x11 + (1 : Int)) - (1 : Int))) (by simp) hM ⟨wd_cell hW nl28, keep_cell nl28 Keep.refl, mo_newL (ds := []) hW nl28 repL_nil, Nat.le_refl _⟩ ?_ ?_
      · skip
        rintro x38  n29 ys30 k31 H44 hn ⟨hW, hk32, mu33, ln34⟩ hM Nx37 hN35
        replace h_made := rep_keep hk32 (rep_new nl28 h_made)
        replace h_parts_here := rep_keep hk32 (rep_new nl28 h_parts_here)
        replace hk15 := Keep.trans (Keep.new hk15) hk32
        refine ⟨rfl, ?_⟩
        refine tyes_of ?_
        refine ⟨_, rfl, ?_⟩
        apply rep_meth (m := "mark") h_made (by decide +kernel)
        refine ⟨_, rfl, ?_⟩
        refine ⟨_, rfl, ?_⟩
        refine ⟨(L27 :: ms), _, x_made, x11, x38, _, rfl, hW.enter0, h_made, hM, fun r45 u48 H49 hM e47 h46 => ?_⟩
        replace h_made := rep_ext e47 h_made
        replace h_parts_here := rep_ext e47 h_parts_here
        replace hk15 := keep_ext e47 hk15
        replace hk32 := keep_ext e47 hk32
        replace mu33 := mo_ext e47 mu33
        replace hW := hW.ret0 e47
        obtain rfl := of_v h46
        refine mo_end mu33 hn (by rw [List.length_map]; exact ln34) fun vs50 hr51 => ?_
        have mk53 := mo_setL mu33 (repL_snoc (e := (fun y_ : Str => (D.v (V.str y_)))) (xs := ys30) (y := r45) hr51 rep_v)
        replace h_made := rep_put (o := .lst (vs50 ++ [V.str r45])) mu33.im h_made
        replace h_parts_here := rep_put (o := .lst (vs50 ++ [V.str r45])) mu33.im h_parts_here
        replace hk15 := keep_put (o := .lst (vs50 ++ [V.str r45])) mu33.im hk15
        replace hk32 := keep_put (o := .lst (vs50 ++ [V.str r45])) mu33.im hk32
        replace hW := wd_put (o := .lst (vs50 ++ [V.str r45])) hW mu33
        replace mu33 := mk53
        generalize upd H49 L27 (.lst (vs50 ++ [V.str r45])) = H54 at *
        replace mu33 : MutO (L27 :: ms) [] H_0 H54 L27 (D.lst ((ys30 ++ [r45]).map (fun y_ : Str => (D.v (V.str y_))))) := mu33
        clear mk53
        exact hN35 r45 _ hM ⟨hW, hk32, mu33, by rw [List.length_append]; exact Nat.add_le_add_right ln34 1⟩
      · skip
        rintro n29 ys55 H56 hM ⟨hW, hk32, mu33, ln34⟩
        replace h_made := rep_keep hk32 (rep_new nl28 h_made)
        replace h_parts_here := rep_keep hk32 (rep_new nl28 h_parts_here)
        replace hk15 := Keep.trans (Keep.new hk15) hk32
        clear hk32 ln34
        have h57 := mo_rep_dr dr_here nm42 mu33
        replace hW := wd_dr dr_here mu33.hp hW
        replace h_made := rep_dr dr_here h_made
        replace h_parts_here := rep_dr dr_here h_parts_here
        replace hk15 := keep_dr dr_here kn43 hk15
        clear mu33
        obtain ⟨g58, hM⟩ := hM
        apply rep_join (a := ("" : Str)) (ys := ys55) h57 g58
        refine ⟨_, rfl, ?_⟩
        refine ⟨rfl, ?_⟩
        refine ⟨_, rfl, ?_⟩
        refine ite3 hM (fun hM => ?_) (fun hM => ?_)
        · skip
          exact hQ false _ _ hM hW.out rep_v
        · skip
          refine ⟨_, rfl, ?_⟩
          refine ⟨_, _, rfl, rfl, ?_⟩
          refine ⟨_, rfl, ?_⟩
          refine fun L59 nl60 => ?_
          have nm74 := nm_new hW nl60
          have kn75 := keep_none (w := hW) nl60 hk15
          refine lc_rangeG (L := L59) (fun n_ ys_ h_ => Wd (L59 :: ms) [] [] H_0 h_ ∧ Keep (L59 :: ms) H56 h_ ∧ MutO (L59 :: ms) [] H_0 h_ L59 (D.lst (ys_.map (fun y_ : Int => (D.v (V.int y_))))) ∧ ys_.length ≤ n_) (lo := (0 : Int)) (hi := (x11 + (1 : Int))) (N := Int.toNat (x11 + (1 : Int))) (by simp) hM ⟨wd_cell hW nl60, keep_cell nl60 Keep.refl, mo_newL (ds := []) hW nl60 repL_nil, Nat.le_refl _⟩ ?_ ?_
          · skip
            rintro x70  n61 ys62 k63 H76 hn ⟨hW, hk64, mu65, ln66⟩ hM Nx69 hN67
            replace h_made := rep_keep hk64 (rep_new nl60 h_made)
            replace h_parts_here := rep_keep hk64 (rep_new nl60 h_parts_here)
            replace hk15 := Keep.trans (Keep.new hk15) hk64
            replace h57 := rep_keep hk64 (rep_new nl60 h57)
            refine ⟨rfl, ?_⟩
            refine tyes_of ?_
            refine ⟨_, rfl, ?_⟩
            apply rep_meth (m := "homes") h_made (by decide +kernel)
            refine ⟨_, rfl, ?_⟩
            refine ⟨_, rfl, ?_⟩
            refine ⟨(L59 :: ms), _, x_made, x11, x70, _, rfl, hW.enter0, h_made, hM, fun r77 u80 H81 hM e79 h78 => ?_⟩
            replace h_made := rep_ext e79 h_made
            replace h_parts_here := rep_ext e79 h_parts_here
            replace hk15 := keep_ext e79 hk15
            replace h57 := rep_ext e79 h57
            replace hk64 := keep_ext e79 hk64
            replace mu65 := mo_ext e79 mu65
            replace hW := hW.ret0 e79
            obtain rfl := of_v h78
            refine mo_end mu65 hn (by rw [List.length_map]; exact ln66) fun vs82 hr83 => ?_
            have mk85 := mo_setL mu65 (repL_snoc (e := (fun y_ : Int => (D.v (V.int y_)))) (xs := ys62) (y := r77) hr83 rep_v)
            replace h_made := rep_put (o := .lst (vs82 ++ [V.int r77])) mu65.im h_made
            replace h_parts_here := rep_put (o := .lst (vs82 ++ [V.int r77])) mu65.im h_parts_here
            replace hk15 := keep_put (o := .lst (vs82 ++ [V.int r77])) mu65.im hk15
            replace h57 := rep_put (o := .lst (vs82 ++ [V.int r77])) mu65.im h57
            replace hk64 := keep_put (o := .lst (vs82 ++ [V.int r77])) mu65.im hk64
            replace hW := wd_put (o := .lst (vs82 ++ [V.int r77])) hW mu65
            replace mu65 := mk85
            generalize upd H81 L59 (.lst (vs82 ++ [V.int r77])) = H86 at *
            replace mu65 : MutO (L59 :: ms) [] H_0 H86 L59 (D.lst ((ys62 ++ [r77]).map (fun y_ : Int => (D.v (V.int y_))))) := mu65
            clear mk85
            exact hN67 r77 _ hM ⟨hW, hk64, mu65, by rw [List.length_append]; exact Nat.add_le_add_right ln66 1⟩
          · skip
            rintro n61 ys87 H88 hM ⟨hW, hk64, mu65, ln66⟩
            replace h_made := rep_keep hk64 (rep_new nl60 h_made)
            replace h_parts_here := rep_keep hk64 (rep_new nl60 h_parts_here)
            replace hk15 := Keep.trans (Keep.new hk15) hk64
            replace h57 := rep_keep hk64 (rep_new nl60 h57)
            clear hk64 ln66
            have h89 := mo_rep_dr dr_here nm74 mu65
            replace hW := wd_dr dr_here mu65.hp hW
            replace h_made := rep_dr dr_here h_made
            replace h_parts_here := rep_dr dr_here h_parts_here
            replace hk15 := keep_dr dr_here kn75 hk15
            replace h57 := rep_dr dr_here h57
            clear mu65
            refine ⟨_, rfl, ?_⟩
            refine ⟨_, _, rfl, rfl, ?_⟩
            refine ⟨_, rfl, ?_⟩
            refine fun L90 nl91 => ?_
            have nm105 := nm_new hW nl91
            have kn106 := keep_none (w := hW) nl91 hk15
            refine lc_rangeG (L := L90) (fun n_ ys_ h_ => Wd (L90 :: ms) [] [] H_0 h_ ∧ Keep (L90 :: ms) H88 h_ ∧ MutO (L90 :: ms) [] H_0 h_ L90 (D.lst (ys_.map (fun y_ : Int => (D.v (V.int y_))))) ∧ ys_.length ≤ n_) (lo := (0 : Int)) (hi := (x11 + (1 : Int))) (N := Int.toNat (x11 + (1 : Int))) (by simp) hM ⟨wd_cell hW nl91, keep_cell nl91 Keep.refl, mo_newL (ds := []) hW nl91 repL_nil, Nat.le_refl _⟩ ?_ ?_
            · skip
              rintro x101  n92 ys93 k94 H107 hn ⟨hW, hk95, mu96, ln97⟩ hM Nx100 hN98
              replace h_made := rep_keep hk95 (rep_new nl91 h_made)
              replace h_parts_here := rep_keep hk95 (rep_new nl91 h_parts_here)
              replace hk15 := Keep.trans (Keep.new hk15) hk95
              replace h57 := rep_keep hk95 (rep_new nl91 h57)
              replace h89 := rep_keep hk95 (rep_new nl91 h89)
              refine ⟨rfl, ?_⟩
              refine tyes_of ?_
              refine ⟨_, rfl, ?_⟩
              refine ⟨_, rfl, ?_⟩
              refine ⟨_, rfl, ?_⟩
              obtain ⟨g108, hM⟩ := hM
              refine ⟨_, rfl, g108, ?_⟩
              refine ⟨⟨_, rfl⟩, ?_⟩
              refine ⟨_, _, rfl, rfl, ?_⟩
              refine mo_end mu96 hn (by rw [List.length_map]; exact ln97) fun vs109 hr110 => ?_
              have mk112 := mo_setL mu96 (repL_snoc (e := (fun y_ : Int => (D.v (V.int y_)))) (xs := ys93) (y := (Txt.count (cutS r22 none (some x101)) ("h" : Str) : Int)) hr110 rep_v)
              replace h_made := rep_put (o := .lst (vs109 ++ [V.int (Txt.count (cutS r22 none (some x101)) ("h" : Str) : Int)])) mu96.im h_made
              replace h_parts_here := rep_put (o := .lst (vs109 ++ [V.int (Txt.count (cutS r22 none (some x101)) ("h" : Str) : Int)])) mu96.im h_parts_here
              replace hk15 := keep_put (o := .lst (vs109 ++ [V.int (Txt.count (cutS r22 none (some x101)) ("h" : Str) : Int)])) mu96.im hk15
              replace h57 := rep_put (o := .lst (vs109 ++ [V.int (Txt.count (cutS r22 none (some x101)) ("h" : Str) : Int)])) mu96.im h57
              replace h89 := rep_put (o := .lst (vs109 ++ [V.int (Txt.count (cutS r22 none (some x101)) ("h" : Str) : Int)])) mu96.im h89
              replace hk95 := keep_put (o := .lst (vs109 ++ [V.int (Txt.count (cutS r22 none (some x101)) ("h" : Str) : Int)])) mu96.im hk95
              replace hW := wd_put (o := .lst (vs109 ++ [V.int (Txt.count (cutS r22 none (some x101)) ("h" : Str) : Int)])) hW mu96
              replace mu96 := mk112
              generalize upd H107 L90 (.lst (vs109 ++ [V.int (Txt.count (cutS r22 none (some x101)) ("h" : Str) : Int)])) = H113 at *
              replace mu96 : MutO (L90 :: ms) [] H_0 H113 L90 (D.lst ((ys93 ++ [(Txt.count (cutS r22 none (some x101)) ("h" : Str) : Int)]).map (fun y_ : Int => (D.v (V.int y_))))) := mu96
              clear mk112
              exact hN98 (Txt.count (cutS r22 none (some x101)) ("h" : Str) : Int) _ hM ⟨hW, hk95, mu96, by rw [List.length_append]; exact Nat.add_le_add_right ln97 1⟩
            · skip
              rintro n92 ys114 H115 hM ⟨hW, hk95, mu96, ln97⟩
              replace h_made := rep_keep hk95 (rep_new nl91 h_made)
              replace h_parts_here := rep_keep hk95 (rep_new nl91 h_parts_here)
              replace hk15 := Keep.trans (Keep.new hk15) hk95
              replace h57 := rep_keep hk95 (rep_new nl91 h57)
              replace h89 := rep_keep hk95 (rep_new nl91 h89)
              clear hk95 ln97
              have h116 := mo_rep_dr dr_here nm105 mu96
              replace hW := wd_dr dr_here mu96.hp hW
              replace h_made := rep_dr dr_here h_made
              replace h_parts_here := rep_dr dr_here h_parts_here
              replace hk15 := keep_dr dr_here kn106 hk15
              replace h57 := rep_dr dr_here h57
              replace h89 := rep_dr dr_here h89
              clear mu96
              obtain ⟨g117, hM⟩ := hM
              apply rep_neD (d := (D.lst (ys87.map (fun y_ : Int => (D.v (V.int y_)))))) (e := (D.lst (ys114.map (fun y_ : Int => (D.v (V.int y_)))))) h89 h116 g117.1 g117.2.1 g117.2.2.1 g117.2.2.2
              refine ⟨_, rfl, ?_⟩
              refine ite3 hM (fun hM => ?_) (fun hM => ?_)
              · skip
                exact hQ false _ _ hM hW.out rep_v
              · skip
                exact hN18 () _ _ hM ⟨_, _, rfl, hW, hk15⟩
    · skip
      rintro s118 _ H122 hM ⟨w120, w121, rfl, hW, hk119⟩
      replace h_made := rep_keep hk119 h_made
      replace h_parts_here := rep_keep hk119 h_parts_here
      refine ⟨_, rfl, ?_⟩
      refine ⟨ms, _, x_parts_here, (30 : Int), _, rfl, hW.enter0, h_parts_here, hM, fun r123 u126 H127 hM e125 h124 => ?_⟩
      replace h_made := rep_ext e125 h_made
      replace h_parts_here := rep_ext e125 h_parts_here
      replace hW := hW.ret0 e125
      obtain rfl := of_v h124
      refine ⟨_, rfl, ?_⟩
      apply rep_meth (m := "mark") h_made (by decide +kernel)
      refine ⟨rfl, ?_⟩
      refine ⟨ms, _, x_made, (30 : Int), (1 : Int), _, rfl, hW.enter0, h_made, hM, fun r128 u131 H132 hM e130 h129 => ?_⟩
      replace h_made := rep_ext e130 h_made
      replace h_parts_here := rep_ext e130 h_parts_here
      replace hW := hW.ret0 e130
      obtain rfl := of_v h129
      refine ⟨_, rfl, ?_⟩
      obtain ⟨g133, hM⟩ := hM
      obtain ⟨c134, c134h, hM⟩ := hM
      refine ⟨_, _, _, rfl, rfl, g133, c134h, ?_⟩
      refine ⟨rfl, ?_⟩
      refine ⟨_, rfl, ?_⟩
      refine ite3 hM (fun hM => ?_) (fun hM => ?_)
      · skip
        refine ⟨_, rfl, ?_⟩
        apply rep_meth (m := "homes") h_made (by decide +kernel)
        refine ⟨rfl, ?_⟩
        refine ⟨ms, _, x_made, (30 : Int), (30 : Int), _, rfl, hW.enter0, h_made, hM, fun r135 u138 H139 hM e137 h136 => ?_⟩
        replace h_made := rep_ext e137 h_made
        replace h_parts_here := rep_ext e137 h_parts_here
        replace hW := hW.ret0 e137
        obtain rfl := of_v h136
        refine ⟨_, rfl, ?_⟩
        refine ⟨⟨_, rfl⟩, ?_⟩
        refine ⟨_, _, rfl, rfl, ?_⟩
        refine ⟨rfl, ?_⟩
        exact hQ (decide (V.int r135 = V.int (Txt.count r123 ("h" : Str) : Int))) _ _ hM hW.out rep_v
      · skip
        exact hQ false _ _ hM hW.out rep_v
def M_pick (x_some : (List Int)) (KM : Int → Prop) : Prop :=
  (M_draw (x_some.length : Int) fun r1 => (0 ≤ r1 ∧ ∃ g7 : Int.toNat r1 < x_some.length, ∀ x9, x9 = x_some[Int.toNat r1]'g7 → (KM x9)))
def sp_pick (A : Ad) : Sp := fun vs H Q _ => ∃ (ms : List Addr) (ap : Addr) (v_some : V) (x_some : (List Int)) (KM : Int → Prop), vs = [.ref ap, v_some] ∧ Wd ms [ap] [] H H ∧ rep ms H (D.lst (x_some.map (fun y_ : Int => (D.v (V.int y_))))) v_some ∧ M_pick x_some KM ∧ ∀ (r : Int) (u : V) (H1 : Hp), KM r → Ret [ap] H H1 → rep ms H1 (D.v (V.int r)) u → Q u H1
set_option maxHeartbeats 16000000 in
theorem ok_pick {P : Program} {w : World} {K : PySem.W.Frag} {mg : Str → Option Value} {base : Heap} {A : Ad} (T : Txt w K mg A) : FnOk P w K mg base CX0 2 A.a_pick A.d_pick ["_law_pot_here", "_law_some"] (sp_pick A) := by
  refine T.F_pick.ok sc_pick (fun vs H Q E h => ?_) (fun cdv A_ outer s_ H_0 vs Q E hr h => ?_)
  · obtain ⟨ms, ap, v_some, x_some, KM, rfl, _⟩ := h
    rfl
  · obtain ⟨ms, ap, v_some, x_some, KM, rfl, hW, h_some, hM, hQ⟩ := h
    unfold M_pick at hM
    refine ⟨_, (pss_one (ps_ret (pe_ix (ix_listK (K := K) rfl) (pv 1) (pe_call (ok_draw T) (hr.mono (by decide)) (by rfl) T.g_draw T.F_draw.kp T.b_draw .nil pass0 (pa_cons (pv 0) (pa_cons (pe_callB (call_lenK (K := K) rfl) (by rfl) T.z_len PySem.boot_len (pa_cons (pv 1) pa_nil)) pa_nil))) (fun _ _ => rfl)))), ?_⟩
    refine ⟨_, rfl, ?_⟩
    refine ⟨_, rfl, ?_⟩
    refine ⟨_, rfl, ?_⟩
    apply rep_lenL (e := (fun y_ : Int => (D.v (V.int y_)))) (xs := x_some) h_some
    refine ⟨ms, ap, (x_some.length : Int), _, rfl, hW.enterP, hM, fun r1 u4 H5 hM e3 h2 => ?_⟩
    replace h_some := rep_ret hW e3 h_some
    replace hW := hW.retP e3
    obtain rfl := of_v h2
    obtain ⟨g6, g7, hM⟩ := hM
    apply rep_ixL (e := (fun y_ : Int => (D.v (V.int y_)))) (xs := x_some) h_some g6 g7
    intro u10 h8
    obtain ⟨x9, x9e⟩ : ∃ x_, x_ = x_some[Int.toNat r1]'g7 := ⟨_, rfl⟩
    rw [← x9e] at h8
    replace hM := hM x9 x9e
    obtain rfl := of_v h8
    exact hQ x9 _ _ hM hW.out rep_v
def M_great (x_least_here : Int) (KM : Int → Prop) : Prop :=
  (forC (fun (x1 : Int) (s3 : Int) (k4 : Int → Prop) => (M_draw ((10 : Int) ^ Int.toNat (9 : Int)) fun r11 => (k4 ((((s3 * ((10 : Int) ^ Int.toNat (9 : Int))) + r11) % ((10 : Int) ^ Int.toNat (59 : Int))))))) (rangeI (0 : Int) (7 : Int)) ((0 : Int)) fun s16 => (M_pick ([s16, s16, ((((10 : Int) ^ Int.toNat (60 : Int)) - (1 : Int)) - (s16 % (50 : Int))), (s16 % ((10 : Int) ^ Int.toNat (12 : Int)))] : List Int) fun r26 => (KM (if r26 > x_least_here then r26 else x_least_here))))
def sp_great (A : Ad) : Sp := fun vs H Q _ => ∃ (ms : List Addr) (ap : Addr) (x_least_here : Int) (KM : Int → Prop), vs = [.ref ap, V.int x_least_here] ∧ Wd ms [ap] [] H H ∧ M_great x_least_here KM ∧ ∀ (r : Int) (u : V) (H1 : Hp), KM r → Ret [ap] H H1 → rep ms H1 (D.v (V.int r)) u → Q u H1
set_option maxHeartbeats 16000000 in
theorem ok_great {P : Program} {w : World} {K : PySem.W.Frag} {mg : Str → Option Value} {base : Heap} {A : Ad} (T : Txt w K mg A) : FnOk P w K mg base CX0 3 A.a_great A.d_great ["_law_pot_here", "_law_least_here"] (sp_great A) := by
  refine T.F_great.ok sc_great (fun vs H Q E h => ?_) (fun cdv A_ outer s_ H_0 vs Q E hr h => ?_)
  · obtain ⟨ms, ap, x_least_here, KM, rfl, _⟩ := h
    rfl
  · obtain ⟨ms, ap, x_least_here, KM, rfl, hW, hM, hQ⟩ := h
    unfold M_great at hM
    refine ⟨_, (pss_cons (ps_set (i := 2) sc_great.nd rfl (by first | exact Or.inl rfl | exact Or.inr rfl) pe_int) (pss_cons (ps_for PassesOwn.never rfl (pi_rangeW1 (by rfl) T.z_range (pa_cons pe_int pa_nil)) (pg_name (i := 3) sc_great.nd rfl (by first | exact Or.inl rfl | exact Or.inr rfl)) (pss_one (ps_set (i := 2) sc_great.nd rfl (by first | exact Or.inl rfl | exact Or.inr rfl) (pe_op op_mod (pe_callTy call_int1 (by rfl) T.z_int (by decide +kernel) (pa_cons (pe_op op_add (pe_op op_mul (pv 2) (pe_op op_pow pe_int pe_int)) (pe_call (ok_draw T) (hr.mono (by decide)) (by rfl) T.g_draw T.F_draw.kp T.b_draw .nil pass0 (pa_cons (pv 0) (pa_cons (pe_op op_pow pe_int pe_int) pa_nil)))) pa_nil)) (pe_op op_pow pe_int pe_int))))) (pss_one (ps_ret (pe_callB (call_max2 rfl) (by rfl) T.z_max (by decide +kernel) (pa_cons (pv 1) (pa_cons (pe_call (ok_pick T) (hr.mono (by decide)) (by rfl) T.g_pick T.F_pick.kp T.b_pick .nil pass0 (pa_cons (pv 0) (pa_cons (pe_lst (pa_cons (pv 2) (pa_cons (pv 2) (pa_cons (pe_op op_sub (pe_op op_sub (pe_op op_pow pe_int pe_int) pe_int) (pe_op op_mod (pe_callTy call_int1 (by rfl) T.z_int (by decide +kernel) (pa_cons (pv 2) pa_nil)) pe_int)) (pa_cons (pe_op op_mod (pe_callTy call_int1 (by rfl) T.z_int (by decide +kernel) (pa_cons (pv 2) pa_nil)) (pe_op op_pow pe_int pe_int)) pa_nil))))) pa_nil))) pa_nil))))))), ?_⟩
    refine ⟨_, rfl, ?_⟩
    refine for_rangeG (S := Int) (lo := (0 : Int)) (hi := (7 : Int)) (N := Int.toNat (7 : Int)) (fun (s : Int) σ_ h_ => ∃ (w_0 : Option V), σ_ = [some (V.ref ap), some (V.int x_least_here), some (V.int s), w_0] ∧ Wd ms [ap] [] H_0 h_ ∧ Keep ms H_0 h_) ((0 : Int)) (by simp) hM ⟨_, rfl, hW, Keep.refl⟩ ?_ ?_
    · skip
      rintro x1 s3 k4 _ H10 ⟨w9, rfl, hW, hk5⟩ hM Nx7 hN8
      refine ⟨_, rfl, ?_⟩
      refine ⟨_, _, rfl, rfl, ⟨by decide, by decide, by decide⟩, ?_⟩
      refine ⟨_, _, rfl, rfl, .inr ⟨by decide, by decide⟩, ?_⟩
      refine ⟨_, rfl, ?_⟩
      refine ⟨_, _, rfl, rfl, ⟨by decide, by decide, by decide⟩, ?_⟩
      refine ⟨ms, ap, ((10 : Int) ^ Int.toNat (9 : Int)), _, rfl, hW.enterP, hM, fun r11 u14 H15 hM e13 h12 => ?_⟩
      replace hk5 := keep_ret hW e13 hk5
      replace hW := hW.retP e13
      obtain rfl := of_v h12
      refine ⟨_, _, rfl, rfl, ?_⟩
      refine .inl ⟨_, rfl, ?_⟩
      refine ⟨_, _, rfl, rfl, ⟨by decide, by decide, by decide⟩, ?_⟩
      refine ⟨_, _, rfl, rfl, (by show (0 : Int) < ((10 : Int) ^ Int.toNat (59 : Int)); decide), ?_⟩
      exact hN8 ((((s3 * ((10 : Int) ^ Int.toNat (9 : Int))) + r11) % ((10 : Int) ^ Int.toNat (59 : Int)))) _ _ hM ⟨_, rfl, hW, hk5⟩
    · skip
      rintro s16 _ H19 hM ⟨w18, rfl, hW, hk17⟩
      refine ⟨_, rfl, ?_⟩
      refine ⟨_, rfl, ?_⟩
      refine ⟨_, rfl, ?_⟩
      refine ⟨_, rfl, ?_⟩
      refine ⟨_, _, rfl, rfl, ⟨by decide, by decide, by decide⟩, ?_⟩
      refine ⟨_, _, rfl, rfl, ?_⟩
      refine ⟨_, rfl, ?_⟩
      refine .inl ⟨_, rfl, ?_⟩
      refine ⟨_, _, rfl, rfl, (by show (0 : Int) < (50 : Int); decide), ?_⟩
      refine ⟨_, _, rfl, rfl, ?_⟩
      refine ⟨_, rfl, ?_⟩
      refine .inl ⟨_, rfl, ?_⟩
      refine ⟨_, _, rfl, rfl, ⟨by decide, by decide, by decide⟩, ?_⟩
      refine ⟨_, _, rfl, rfl, (by show (0 : Int) < ((10 : Int) ^ Int.toNat (12 : Int)); decide), ?_⟩
      refine ⟨(by show 4 ≤ sizeLine; decide), ?_⟩
      intro p20 n24
      have e21 := Rx.Ext.new (H := H19) (o := (HO.lst [V.int s16, V.int s16, V.int ((((10 : Int) ^ Int.toNat (60 : Int)) - (1 : Int)) - (s16 % (50 : Int))), V.int (s16 % ((10 : Int) ^ Int.toNat (12 : Int)))])) n24
      have hp22 : upd H19 p20 (HO.lst [V.int s16, V.int s16, V.int ((((10 : Int) ^ Int.toNat (60 : Int)) - (1 : Int)) - (s16 % (50 : Int))), V.int (s16 % ((10 : Int) ^ Int.toNat (12 : Int)))]) p20 = some (HO.lst [V.int s16, V.int s16, V.int ((((10 : Int) ^ Int.toNat (60 : Int)) - (1 : Int)) - (s16 % (50 : Int))), V.int (s16 % ((10 : Int) ^ Int.toNat (12 : Int)))]) := upd_same
      generalize upd H19 p20 (HO.lst [V.int s16, V.int s16, V.int ((((10 : Int) ^ Int.toNat (60 : Int)) - (1 : Int)) - (s16 % (50 : Int))), V.int (s16 % ((10 : Int) ^ Int.toNat (12 : Int)))]) = H25 at e21 hp22 ⊢
      have h23 : rep ms H25 (D.lst (([s16, s16, ((((10 : Int) ^ Int.toNat (60 : Int)) - (1 : Int)) - (s16 % (50 : Int))), (s16 % ((10 : Int) ^ Int.toNat (12 : Int)))] : List Int).map (fun y_ : Int => (D.v (V.int y_))))) (.ref p20) := rep_lst_mk hW n24 e21 hp22 (repL_cons rep_v (repL_cons rep_v (repL_cons rep_v (repL_cons rep_v repL_nil))))
      replace hW := hW.ret0 e21
      refine ⟨ms, ap, _, ([s16, s16, ((((10 : Int) ^ Int.toNat (60 : Int)) - (1 : Int)) - (s16 % (50 : Int))), (s16 % ((10 : Int) ^ Int.toNat (12 : Int)))] : List Int), _, rfl, hW.enterP, h23, hM, fun r26 u29 H30 hM e28 h27 => ?_⟩
      replace h23 := rep_ret hW e28 h23
      replace hW := hW.retP e28
      obtain rfl := of_v h27
      refine ⟨_, _, rfl, ?_⟩
      exact hQ (if r26 > x_least_here then r26 else x_least_here) _ _ hM hW.out rep_v
def M_short (x_parts_here : (Str × Str × Str)) (x_size : Int) (KM : Int → Prop) : Prop :=
  (M_least x_parts_here fun r1 => (x_parts_here.2.1.length ≤ sizeLine ∧ (∃ KB9 : Int → Prop, (if (decide (x_size ≤ (r1 + ((40 : Int) * (x_parts_here.2.1.length : Int))))) = true then (KB9 x_size) else (x_parts_here.2.1.length ≤ sizeLine ∧ (0 < (x_parts_here.2.1.length : Int) ∧ (KB9 ((r1 + ((40 : Int) * (x_parts_here.2.1.length : Int))) + ((x_size - (r1 + ((40 : Int) * (x_parts_here.2.1.length : Int)))) % (x_parts_here.2.1.length : Int))))))) ∧ ∀ r16 : Int, KB9 r16 → (KM r16))))
def sp_short (A : Ad) : Sp := fun vs H Q _ => ∃ (ms : List Addr) (v_parts_here : V) (x_parts_here : (Str × Str × Str)) (x_size : Int) (KM : Int → Prop), vs = [v_parts_here, V.int x_size] ∧ Wd ms [] [] H H ∧ rep ms H (D.tup [(D.v (V.str x_parts_here.1)), (D.v (V.str x_parts_here.2.1)), (D.v (V.str x_parts_here.2.2))]) v_parts_here ∧ M_short x_parts_here x_size KM ∧ ∀ (r : Int) (u : V) (H1 : Hp), KM r → Ret [] H H1 → rep ms H1 (D.v (V.int r)) u → Q u H1
set_option maxHeartbeats 16000000 in
theorem ok_short {P : Program} {w : World} {K : PySem.W.Frag} {mg : Str → Option Value} {base : Heap} {A : Ad} (T : Txt w K mg A) : FnOk P w K mg base CX0 2 A.a_short A.d_short ["_law_parts_here", "_law_size"] (sp_short A) := by
  refine T.F_short.ok sc_short (fun vs H Q E h => ?_) (fun cdv A_ outer s_ H_0 vs Q E hr h => ?_)
  · obtain ⟨ms, v_parts_here, x_parts_here, x_size, KM, rfl, _⟩ := h
    rfl
  · obtain ⟨ms, v_parts_here, x_parts_here, x_size, KM, rfl, hW, h_parts_here, hM, hQ⟩ := h
    unfold M_short at hM
    refine ⟨_, (pss_cons (ps_set (i := 2) sc_short.nd rfl (by first | exact Or.inl rfl | exact Or.inr rfl) (pe_op op_add (pe_call (ok_least T) (hr.mono (by decide)) (by rfl) T.g_least T.F_least.kp T.b_least .nil pass0 (pa_cons (pv 0) pa_nil)) (pe_op op_mul pe_int (pe_callB call_len_str (by rfl) T.z_len PySem.boot_len (pa_cons (pe_ix (ix_tupK (K := K) rfl) (pv 0) pe_int (fun _ _ => rfl)) pa_nil))))) (pss_one (ps_ret (pe_up (pe_ifExp (pt_cmpR op_le (pv 1) (pv 2) (nomark _)) (pv 1) (pe_op op_add (pv 2) (pe_op op_mod (pe_callTy call_int1 (by rfl) T.z_int (by decide +kernel) (pa_cons (pe_op op_sub (pv 1) (pv 2)) pa_nil)) (pe_callB call_len_str (by rfl) T.z_len PySem.boot_len (pa_cons (pe_ix (ix_tupK (K := K) rfl) (pv 0) pe_int (fun _ _ => rfl)) pa_nil))))))))), ?_⟩
    refine ⟨_, rfl, ?_⟩
    refine ⟨ms, _, x_parts_here, _, rfl, hW.enter0, h_parts_here, hM, fun r1 u4 H5 hM e3 h2 => ?_⟩
    replace h_parts_here := rep_ext e3 h_parts_here
    replace hW := hW.ret0 e3
    obtain rfl := of_v h2
    refine ⟨_, rfl, ?_⟩
    apply rep_ixT 1 h_parts_here rfl rfl
    intro u7 h6
    obtain rfl := of_v h6
    obtain ⟨g8, hM⟩ := hM
    refine ⟨_, rfl, g8, ?_⟩
    refine ⟨_, _, rfl, rfl, .inl ⟨by decide, by decide⟩, ?_⟩
    refine ⟨_, _, rfl, rfl, ?_⟩
    obtain ⟨KB9, hM, hKKB9⟩ := hM
    refine ⟨fun v H1 => ∃ r : Int, KB9 r ∧ Wd ms [] [] H_0 H1 ∧ Keep ms H5 H1 ∧ rep ms H1 (D.v (V.int r)) v, ?_, ?_⟩
    · skip
      have hj11 := Keep.refl (ms := ms) (H := H5)
      refine ⟨_, rfl, ?_⟩
      refine ⟨_, rfl, ?_⟩
      refine ⟨_, _, rfl, rfl, ?_⟩
      refine ⟨_, rfl, ?_⟩
      refine ite3 hM (fun hM => ?_) (fun hM => ?_)
      · skip
        refine ⟨_, rfl, ?_⟩
        exact ⟨x_size, hM, hW, hj11, rep_v⟩
      · skip
        refine ⟨_, rfl, ?_⟩
        refine ⟨_, rfl, ?_⟩
        refine ⟨_, rfl, ?_⟩
        refine ⟨_, _, rfl, rfl, ?_⟩
        refine .inl ⟨_, rfl, ?_⟩
        refine ⟨_, rfl, ?_⟩
        apply rep_ixT 1 h_parts_here rfl rfl
        intro u13 h12
        obtain rfl := of_v h12
        obtain ⟨g14, hM⟩ := hM
        refine ⟨_, rfl, g14, ?_⟩
        obtain ⟨g15, hM⟩ := hM
        refine ⟨_, _, rfl, rfl, g15, ?_⟩
        refine ⟨_, _, rfl, rfl, ?_⟩
        exact ⟨((r1 + ((40 : Int) * (x_parts_here.2.1.length : Int))) + ((x_size - (r1 + ((40 : Int) * (x_parts_here.2.1.length : Int)))) % (x_parts_here.2.1.length : Int))), hM, hW, hj11, rep_v⟩
    · skip
      rintro u18 Hj10 ⟨r16, hr, hW, hj11, h17⟩
      replace hM := hKKB9 r16 hr
      replace h_parts_here := rep_keep hj11 h_parts_here
      obtain rfl := of_v h17
      exact hQ r16 _ _ hM hW.out rep_v
def M_place_in (x_parts_here : (Str × Str × Str)) (x_size : Int) (x_short_here : Int) (x_at : Int) (KM : Int → Prop) : Prop :=
  (x_parts_here.1.length ≤ sizeLine ∧ (x_parts_here.2.1.length ≤ sizeLine ∧ (if (decide (x_at ≤ ((x_parts_here.1.length : Int) + ((20 : Int) * (x_parts_here.2.1.length : Int))))) = true then (KM x_at) else (x_parts_here.2.1.length ≤ sizeLine ∧ (x_parts_here.1.length ≤ sizeLine ∧ (if (decide ((x_size - x_at) < ((x_short_here - ((20 : Int) * (x_parts_here.2.1.length : Int))) - (x_parts_here.1.length : Int)))) = true then (KM (x_short_here - (x_size - x_at))) else (x_parts_here.1.length ≤ sizeLine ∧ (x_parts_here.1.length ≤ sizeLine ∧ (x_parts_here.2.1.length ≤ sizeLine ∧ (0 < (x_parts_here.2.1.length : Int) ∧ (KM (((x_parts_here.1.length : Int) + (1 : Int)) + (((x_at - (x_parts_here.1.length : Int)) - (1 : Int)) % (x_parts_here.2.1.length : Int))))))))))))))
def sp_place_in (A : Ad) : Sp := fun vs H Q _ => ∃ (ms : List Addr) (v_parts_here : V) (x_parts_here : (Str × Str × Str)) (x_size : Int) (x_short_here : Int) (x_at : Int) (KM : Int → Prop), vs = [v_parts_here, V.int x_size, V.int x_short_here, V.int x_at] ∧ Wd ms [] [] H H ∧ rep ms H (D.tup [(D.v (V.str x_parts_here.1)), (D.v (V.str x_parts_here.2.1)), (D.v (V.str x_parts_here.2.2))]) v_parts_here ∧ M_place_in x_parts_here x_size x_short_here x_at KM ∧ ∀ (r : Int) (u : V) (H1 : Hp), KM r → Ret [] H H1 → rep ms H1 (D.v (V.int r)) u → Q u H1
set_option maxHeartbeats 16000000 in
theorem ok_place_in {P : Program} {w : World} {K : PySem.W.Frag} {mg : Str → Option Value} {base : Heap} {A : Ad} (T : Txt w K mg A) : FnOk P w K mg base CX0 1 A.a_place_in A.d_place_in ["_law_parts_here", "_law_size", "_law_short_here", "_law_at"] (sp_place_in A) := by
  refine T.F_place_in.ok sc_place_in (fun vs H Q E h => ?_) (fun cdv A_ outer s_ H_0 vs Q E hr h => ?_)
  · obtain ⟨ms, v_parts_here, x_parts_here, x_size, x_short_here, x_at, KM, rfl, _⟩ := h
    rfl
  · obtain ⟨ms, v_parts_here, x_parts_here, x_size, x_short_here, x_at, KM, rfl, hW, h_parts_here, hM, hQ⟩ := h
    unfold M_place_in at hM
    refine ⟨_, (pss_cons (ps_if (pt_cmpR op_le (pv 3) (pe_op op_add (pe_callB call_len_str (by rfl) T.z_len PySem.boot_len (pa_cons (pe_ix (ix_tupK (K := K) rfl) (pv 0) pe_int (fun _ _ => rfl)) pa_nil)) (pe_op op_mul pe_int (pe_callB call_len_str (by rfl) T.z_len PySem.boot_len (pa_cons (pe_ix (ix_tupK (K := K) rfl) (pv 0) pe_int (fun _ _ => rfl)) pa_nil)))) (nomark _)) (pss_one (ps_ret (pv 3))) pss_nil) (pss_cons (ps_if (pt_cmpR op_lt (pe_op op_sub (pv 1) (pv 3)) (pe_op op_sub (pe_op op_sub (pv 2) (pe_op op_mul pe_int (pe_callB call_len_str (by rfl) T.z_len PySem.boot_len (pa_cons (pe_ix (ix_tupK (K := K) rfl) (pv 0) pe_int (fun _ _ => rfl)) pa_nil)))) (pe_callB call_len_str (by rfl) T.z_len PySem.boot_len (pa_cons (pe_ix (ix_tupK (K := K) rfl) (pv 0) pe_int (fun _ _ => rfl)) pa_nil))) (nomark _)) (pss_one (ps_ret (pe_op op_sub (pv 2) (pe_op op_sub (pv 1) (pv 3))))) pss_nil) (pss_one (ps_ret (pe_op op_add (pe_op op_add (pe_callB call_len_str (by rfl) T.z_len PySem.boot_len (pa_cons (pe_ix (ix_tupK (K := K) rfl) (pv 0) pe_int (fun _ _ => rfl)) pa_nil)) pe_int) (pe_op op_mod (pe_callTy call_int1 (by rfl) T.z_int (by decide +kernel) (pa_cons (pe_op op_sub (pe_op op_sub (pv 3) (pe_callB call_len_str (by rfl) T.z_len PySem.boot_len (pa_cons (pe_ix (ix_tupK (K := K) rfl) (pv 0) pe_int (fun _ _ => rfl)) pa_nil))) pe_int) pa_nil)) (pe_callB call_len_str (by rfl) T.z_len PySem.boot_len (pa_cons (pe_ix (ix_tupK (K := K) rfl) (pv 0) pe_int (fun _ _ => rfl)) pa_nil)))))))), ?_⟩
    refine ⟨_, rfl, ?_⟩
    refine ⟨_, rfl, ?_⟩
    apply rep_ixT 0 h_parts_here rfl rfl
    intro u2 h1
    obtain rfl := of_v h1
    obtain ⟨g3, hM⟩ := hM
    refine ⟨_, rfl, g3, ?_⟩
    refine ⟨_, rfl, ?_⟩
    apply rep_ixT 1 h_parts_here rfl rfl
    intro u5 h4
    obtain rfl := of_v h4
    obtain ⟨g6, hM⟩ := hM
    refine ⟨_, rfl, g6, ?_⟩
    refine ⟨_, _, rfl, rfl, .inl ⟨by decide, by decide⟩, ?_⟩
    refine ⟨_, _, rfl, rfl, ?_⟩
    refine ⟨_, _, rfl, rfl, ?_⟩
    refine ⟨_, rfl, ?_⟩
    refine ite3 hM (fun hM => ?_) (fun hM => ?_)
    · skip
      refine ⟨_, rfl, ?_⟩
      exact hQ x_at _ _ hM hW.out rep_v
    · skip
      refine ⟨_, rfl, ?_⟩
      refine ⟨_, rfl, ?_⟩
      refine ⟨_, _, rfl, rfl, ?_⟩
      refine ⟨_, rfl, ?_⟩
      refine ⟨_, rfl, ?_⟩
      apply rep_ixT 1 h_parts_here rfl rfl
      intro u8 h7
      obtain rfl := of_v h7
      obtain ⟨g9, hM⟩ := hM
      refine ⟨_, rfl, g9, ?_⟩
      refine ⟨_, _, rfl, rfl, .inl ⟨by decide, by decide⟩, ?_⟩
      refine ⟨_, _, rfl, rfl, ?_⟩
      refine ⟨_, rfl, ?_⟩
      apply rep_ixT 0 h_parts_here rfl rfl
      intro u11 h10
      obtain rfl := of_v h10
      obtain ⟨g12, hM⟩ := hM
      refine ⟨_, rfl, g12, ?_⟩
      refine ⟨_, _, rfl, rfl, ?_⟩
      refine ⟨_, _, rfl, rfl, ?_⟩
      refine ⟨_, rfl, ?_⟩
      refine ite3 hM (fun hM => ?_) (fun hM => ?_)
      · skip
        refine ⟨_, rfl, ?_⟩
        refine ⟨_, rfl, ?_⟩
        refine ⟨_, rfl, ?_⟩
        refine ⟨_, _, rfl, rfl, ?_⟩
        refine ⟨_, _, rfl, rfl, ?_⟩
        exact hQ (x_short_here - (x_size - x_at)) _ _ hM hW.out rep_v
      · skip
        refine ⟨_, rfl, ?_⟩
        apply rep_ixT 0 h_parts_here rfl rfl
        intro u14 h13
        obtain rfl := of_v h13
        obtain ⟨g15, hM⟩ := hM
        refine ⟨_, rfl, g15, ?_⟩
        refine ⟨_, _, rfl, rfl, ?_⟩
        refine ⟨_, rfl, ?_⟩
        refine ⟨_, rfl, ?_⟩
        apply rep_ixT 0 h_parts_here rfl rfl
        intro u17 h16
        obtain rfl := of_v h16
        obtain ⟨g18, hM⟩ := hM
        refine ⟨_, rfl, g18, ?_⟩
        refine ⟨_, _, rfl, rfl, ?_⟩
        refine ⟨_, _, rfl, rfl, ?_⟩
        refine .inl ⟨_, rfl, ?_⟩
        refine ⟨_, rfl, ?_⟩
        apply rep_ixT 1 h_parts_here rfl rfl
        intro u20 h19
        obtain rfl := of_v h19
        obtain ⟨g21, hM⟩ := hM
        refine ⟨_, rfl, g21, ?_⟩
        obtain ⟨g22, hM⟩ := hM
        refine ⟨_, _, rfl, rfl, g22, ?_⟩
        refine ⟨_, _, rfl, rfl, ?_⟩
        exact hQ (((x_parts_here.1.length : Int) + (1 : Int)) + (((x_at - (x_parts_here.1.length : Int)) - (1 : Int)) % (x_parts_here.2.1.length : Int))) _ _ hM hW.out rep_v
def M_steps_right (x_made : (Str × Str × Str)) (x_size : Int) (x_at : Int) (KM : Bool → Prop) : Prop :=
  (M_Word_homes x_made x_size x_at fun r1 => (M_Word_homes x_made x_size (x_at - (1 : Int)) fun r6 => (M_Word_mark x_made x_size x_at fun r11 => (KM (decide (V.int (r1 - r6) = V.int (if (decide (V.str r11 = V.str ("h" : Str))) then (1 : Int) else 0)))))))
def sp_steps_right (A : Ad) : Sp := fun vs H Q _ => ∃ (ms : List Addr) (v_made : V) (x_made : (Str × Str × Str)) (x_size : Int) (x_at : Int) (KM : Bool → Prop), vs = [v_made, V.int x_size, V.int x_at] ∧ Wd ms [] [] H H ∧ rep ms H (eWord A x_made) v_made ∧ M_steps_right x_made x_size x_at KM ∧ ∀ (r : Bool) (u : V) (H1 : Hp), KM r → Ret [] H H1 → rep ms H1 (D.v (V.bl r)) u → Q u H1
set_option maxHeartbeats 16000000 in
theorem ok_steps_right {P : Program} {w : World} {K : PySem.W.Frag} {mg : Str → Option Value} {base : Heap} {A : Ad} (T : Txt w K mg A) : FnOk P w K mg base CX0 5 A.a_steps_right A.d_steps_right ["_law_made", "_law_size", "_law_at"] (sp_steps_right A) := by
  refine T.F_steps_right.ok sc_steps_right (fun vs H Q E h => ?_) (fun cdv A_ outer s_ H_0 vs Q E hr h => ?_)
  · obtain ⟨ms, v_made, x_made, x_size, x_at, KM, rfl, _⟩ := h
    rfl
  · obtain ⟨ms, v_made, x_made, x_size, x_at, KM, rfl, hW, h_made, hM, hQ⟩ := h
    unfold M_steps_right at hM
    refine ⟨_, (pss_cons (ps_set (i := 3) sc_steps_right.nd rfl (by first | exact Or.inl rfl | exact Or.inr rfl) (pe_op op_sub (pe_meth (pv 0) T.cl_Word T.m_Word_homes (ok_Word_homes T) (hr.mono (by decide)) T.b_Word_homes .nil pass0 (pa_cons (pv 1) (pa_cons (pv 2) pa_nil))) (pe_meth (pv 0) T.cl_Word T.m_Word_homes (ok_Word_homes T) (hr.mono (by decide)) T.b_Word_homes .nil pass0 (pa_cons (pv 1) (pa_cons (pe_op op_sub (pv 2) pe_int) pa_nil))))) (pss_one (ps_ret (pe_cmpR op_eq (pv 3) (pe_callTy call_int1 (by rfl) T.z_int (by decide +kernel) (pa_cons (pe_cmpR op_eq (pe_meth (pv 0) T.cl_Word T.m_Word_mark (ok_Word_mark T) (hr.mono (by decide)) T.b_Word_mark .nil pass0 (pa_cons (pv 1) (pa_cons (pv 2) pa_nil))) pe_str (nomark _)) pa_nil)) (nomark _))))), ?_⟩
    refine ⟨_, rfl, ?_⟩
    apply rep_meth (m := "homes") h_made (by decide +kernel)
    refine ⟨_, rfl, ?_⟩
    refine ⟨_, rfl, ?_⟩
    refine ⟨ms, _, x_made, x_size, x_at, _, rfl, hW.enter0, h_made, hM, fun r1 u4 H5 hM e3 h2 => ?_⟩
    replace h_made := rep_ext e3 h_made
    replace hW := hW.ret0 e3
    obtain rfl := of_v h2
    refine ⟨_, rfl, ?_⟩
    apply rep_meth (m := "homes") h_made (by decide +kernel)
    refine ⟨_, rfl, ?_⟩
    refine ⟨_, rfl, ?_⟩
    refine ⟨_, _, rfl, rfl, ?_⟩
    refine ⟨ms, _, x_made, x_size, (x_at - (1 : Int)), _, rfl, hW.enter0, h_made, hM, fun r6 u9 H10 hM e8 h7 => ?_⟩
    replace h_made := rep_ext e8 h_made
    replace hW := hW.ret0 e8
    obtain rfl := of_v h7
    refine ⟨_, _, rfl, rfl, ?_⟩
    refine ⟨_, rfl, ?_⟩
    refine ⟨_, rfl, ?_⟩
    apply rep_meth (m := "mark") h_made (by decide +kernel)
    refine ⟨_, rfl, ?_⟩
    refine ⟨_, rfl, ?_⟩
    refine ⟨ms, _, x_made, x_size, x_at, _, rfl, hW.enter0, h_made, hM, fun r11 u14 H15 hM e13 h12 => ?_⟩
    replace h_made := rep_ext e13 h_made
    replace hW := hW.ret0 e13
    obtain rfl := of_v h12
    refine ⟨rfl, ?_⟩
    refine .inr ⟨_, rfl, ?_⟩
    refine ⟨rfl, ?_⟩
    exact hQ (decide (V.int (r1 - r6) = V.int (if (decide (V.str r11 = V.str ("h" : Str))) then (1 : Int) else 0))) _ _ hM hW.out rep_v
def M_great_right (x_made : (Str × Str × Str)) (x_parts_here : (Str × Str × Str)) (x_size : Int) (KM : Bool → Prop) : Prop :=
  (M_short x_parts_here x_size fun r1 => (M_line x_parts_here r1 fun r6 => (M_great (0 : Int) fun r11 => (0 < x_size ∧ (([(1 : Int), (2 : Int), (5 : Int), x_size, (x_size - (1 : Int)), (x_size - (4 : Int)), (x_size - (9 : Int)), ((1 : Int) + (r11 % x_size)), (x_size / (2 : Int))] : List Int).length < 100000 ∧ filC (fun (x39 : Int) (k32 : Option Int → Prop) => (if (decide ((1 : Int) ≤ x39)) = true then (if (decide (x39 ≤ x_size)) = true then (k32 (some x39)) else (k32 none)) else (k32 none))) ([(1 : Int), (2 : Int), (5 : Int), x_size, (x_size - (1 : Int)), (x_size - (4 : Int)), (x_size - (9 : Int)), ((1 : Int) + (r11 % x_size)), (x_size / (2 : Int))] : List Int) [] fun ys50 => (forC (fun (x58 : Int) (s60 : Unit) (k61 : Unit → Prop) => (M_place_in x_parts_here x_size r1 x58 fun r69 => (r6.length ≤ sizeLine ∧ ∃ c75, atI r6.cps.toList (r69 - (1 : Int)) = some c75 ∧ (M_Word_mark x_made x_size x58 fun r76 => (if (!(decide (V.str r76 = V.str (Str.mk #[c75])))) = true then (KM false) else (M_steps_right x_made x_size x58 fun r81 => (if (!r81) = true then (KM false) else (k61 ())))))))) ys50 () fun s86 => (KM true)))))))
def sp_great_right (A : Ad) : Sp := fun vs H Q _ => ∃ (ms : List Addr) (ap : Addr) (v_made : V) (v_parts_here : V) (x_made : (Str × Str × Str)) (x_parts_here : (Str × Str × Str)) (x_size : Int) (KM : Bool → Prop), vs = [.ref ap, v_made, v_parts_here, V.int x_size] ∧ Wd ms [ap] [] H H ∧ rep ms H (eWord A x_made) v_made ∧ rep ms H (D.tup [(D.v (V.str x_parts_here.1)), (D.v (V.str x_parts_here.2.1)), (D.v (V.str x_parts_here.2.2))]) v_parts_here ∧ M_great_right x_made x_parts_here x_size KM ∧ ∀ (r : Bool) (u : V) (H1 : Hp), KM r → Ret [ap] H H1 → rep ms H1 (D.v (V.bl r)) u → Q u H1
set_option maxHeartbeats 16000000 in
theorem ok_great_right {P : Program} {w : World} {K : PySem.W.Frag} {mg : Str → Option Value} {base : Heap} {A : Ad} (T : Txt w K mg A) : FnOk P w K mg base CX0 6 A.a_great_right A.d_great_right ["_law_pot_here", "_law_made", "_law_parts_here", "_law_size"] (sp_great_right A) := by
  refine T.F_great_right.ok sc_great_right (fun vs H Q E h => ?_) (fun cdv A_ outer s_ H_0 vs Q E hr h => ?_)
  · obtain ⟨ms, ap, v_made, v_parts_here, x_made, x_parts_here, x_size, KM, rfl, _⟩ := h
    rfl
  · obtain ⟨ms, ap, v_made, v_parts_here, x_made, x_parts_here, x_size, KM, rfl, hW, h_made, h_parts_here, hM, hQ⟩ := h
    unfold M_great_right at hM
    refine ⟨_, (pss_cons (ps_set (i := 4) sc_great_right.nd rfl (by first | exact Or.inl rfl | exact Or.inr rfl) (pe_call (ok_short T) (hr.mono (by decide)) (by rfl) T.g_short T.F_short.kp T.b_short .nil pass0 (pa_cons (pv 2) (pa_cons (pv 3) pa_nil)))) (pss_cons (ps_set (i := 5) sc_great_right.nd rfl (by first | exact Or.inl rfl | exact Or.inr rfl) (pe_call (ok_line T) (hr.mono (by decide)) (by rfl) T.g_line T.F_line.kp T.b_line .nil pass0 (pa_cons (pv 2) (pa_cons (pv 4) pa_nil)))) (pss_cons (ps_set (i := 6) sc_great_right.nd rfl (by first | exact Or.inl rfl | exact Or.inr rfl) (pe_lst (pa_cons pe_int (pa_cons pe_int (pa_cons pe_int (pa_cons (pv 3) (pa_cons (pe_op op_sub (pv 3) pe_int) (pa_cons (pe_op op_sub (pv 3) pe_int) (pa_cons (pe_op op_sub (pv 3) pe_int) (pa_cons (pe_op op_add pe_int (pe_op op_mod (pe_callTy call_int1 (by rfl) T.z_int (by decide +kernel) (pa_cons (pe_call (ok_great T) (hr.mono (by decide)) (by rfl) T.g_great T.F_great.kp T.b_great .nil pass0 (pa_cons (pv 0) (pa_cons pe_int pa_nil))) pa_nil)) (pv 3))) (pa_cons (pe_op op_fdivW (pv 3) pe_int) pa_nil))))))))))) (pss_cons (ps_for PassesOwn.never rfl (pi_list (pe_lc (own := [("_law_one", 9)]) (g := gName 9) rfl sc_great_right.nd (pi_list (pv 6)) (blkOk_by (N := ["_law_pot_here", "_law_made", "_law_parts_here", "_law_size", "_law_short_here", "_law_line_here", "_law_some", "_law_at", "_law_due", "_law_one"]) (sc := defScope s_great_right) (by decide +kernel)) (fun _ _ _ _ _ => pg_name (i := 9) sc_great_right.nd rfl (by first | exact Or.inl rfl | exact Or.inr rfl)) (fun _ _ _ _ _ => (pts_one (pt_chain op_le op_le pe_int (pv 9) (pv 3)))) (fun _ _ _ _ _ => (pv 9)))) (pg_name (i := 7) sc_great_right.nd rfl (by first | exact Or.inl rfl | exact Or.inr rfl)) (pss_cons (ps_set (i := 8) sc_great_right.nd rfl (by first | exact Or.inl rfl | exact Or.inr rfl) (pe_ix ix_str (pv 5) (pe_op op_sub (pe_call (ok_place_in T) (hr.mono (by decide)) (by rfl) T.g_place_in T.F_place_in.kp T.b_place_in .nil pass0 (pa_cons (pv 2) (pa_cons (pv 3) (pa_cons (pv 4) (pa_cons (pv 7) pa_nil))))) pe_int) (fun _ _ => rfl))) (pss_one (ps_if (PW.pt (pw_or (pt_cmpR op_ne (pe_meth (pv 1) T.cl_Word T.m_Word_mark (ok_Word_mark T) (hr.mono (by decide)) T.b_Word_mark .nil pass0 (pa_cons (pv 3) (pa_cons (pv 7) pa_nil))) (pv 8) (nomark _)) (pw_or1 (pt_not (pt_val (pe_call (ok_steps_right T) (hr.mono (by decide)) (by rfl) T.g_steps_right T.F_steps_right.kp T.b_steps_right .nil pass0 (pa_cons (pv 1) (pa_cons (pv 3) (pa_cons (pv 7) pa_nil))))))))) (pss_one (ps_ret pe_bl)) pss_nil)))) (pss_one (ps_ret pe_bl)))))), ?_⟩
    refine ⟨_, rfl, ?_⟩
    refine ⟨_, rfl, ?_⟩
    refine ⟨ms, _, x_parts_here, x_size, _, rfl, hW.enter0, h_parts_here, hM, fun r1 u4 H5 hM e3 h2 => ?_⟩
    replace h_made := rep_ext e3 h_made
    replace h_parts_here := rep_ext e3 h_parts_here
    replace hW := hW.ret0 e3
    obtain rfl := of_v h2
    refine ⟨_, rfl, ?_⟩
    refine ⟨_, rfl, ?_⟩
    refine ⟨ms, _, x_parts_here, r1, _, rfl, hW.enter0, h_parts_here, hM, fun r6 u9 H10 hM e8 h7 => ?_⟩
    replace h_made := rep_ext e8 h_made
    replace h_parts_here := rep_ext e8 h_parts_here
    replace hW := hW.ret0 e8
    obtain rfl := of_v h7
    refine ⟨_, rfl, ?_⟩
    refine ⟨_, rfl, ?_⟩
    refine ⟨_, _, rfl, rfl, ?_⟩
    refine ⟨_, rfl, ?_⟩
    refine ⟨_, _, rfl, rfl, ?_⟩
    refine ⟨_, rfl, ?_⟩
    refine ⟨_, _, rfl, rfl, ?_⟩
    refine ⟨_, rfl, ?_⟩
    refine ⟨ms, ap, (0 : Int), _, rfl, hW.enterP, hM, fun r11 u14 H15 hM e13 h12 => ?_⟩
    replace h_made := rep_ret hW e13 h_made
    replace h_parts_here := rep_ret hW e13 h_parts_here
    replace hW := hW.retP e13
    obtain rfl := of_v h12
    refine .inl ⟨_, rfl, ?_⟩
    refine ⟨_, rfl, ?_⟩
    obtain ⟨g16, hM⟩ := hM
    refine ⟨_, _, rfl, rfl, g16, ?_⟩
    refine ⟨_, _, rfl, rfl, ?_⟩
    refine ⟨_, rfl, ?_⟩
    refine ⟨_, _, rfl, rfl, ⟨by decide, by decide⟩, ?_⟩
    refine ⟨(by show 9 ≤ sizeLine; decide), ?_⟩
    intro p17 n21
    have e18 := Rx.Ext.new (H := H15) (o := (HO.lst [V.int (1 : Int), V.int (2 : Int), V.int (5 : Int), V.int x_size, V.int (x_size - (1 : Int)), V.int (x_size - (4 : Int)), V.int (x_size - (9 : Int)), V.int ((1 : Int) + (r11 % x_size)), V.int (x_size / (2 : Int))])) n21
    have hp19 : upd H15 p17 (HO.lst [V.int (1 : Int), V.int (2 : Int), V.int (5 : Int), V.int x_size, V.int (x_size - (1 : Int)), V.int (x_size - (4 : Int)), V.int (x_size - (9 : Int)), V.int ((1 : Int) + (r11 % x_size)), V.int (x_size / (2 : Int))]) p17 = some (HO.lst [V.int (1 : Int), V.int (2 : Int), V.int (5 : Int), V.int x_size, V.int (x_size - (1 : Int)), V.int (x_size - (4 : Int)), V.int (x_size - (9 : Int)), V.int ((1 : Int) + (r11 % x_size)), V.int (x_size / (2 : Int))]) := upd_same
    generalize upd H15 p17 (HO.lst [V.int (1 : Int), V.int (2 : Int), V.int (5 : Int), V.int x_size, V.int (x_size - (1 : Int)), V.int (x_size - (4 : Int)), V.int (x_size - (9 : Int)), V.int ((1 : Int) + (r11 % x_size)), V.int (x_size / (2 : Int))]) = H22 at e18 hp19 ⊢
    have h20 : rep ms H22 (D.lst (([(1 : Int), (2 : Int), (5 : Int), x_size, (x_size - (1 : Int)), (x_size - (4 : Int)), (x_size - (9 : Int)), ((1 : Int) + (r11 % x_size)), (x_size / (2 : Int))] : List Int).map (fun y_ : Int => (D.v (V.int y_))))) (.ref p17) := rep_lst_mk hW n21 e18 hp19 (repL_cons rep_v (repL_cons rep_v (repL_cons rep_v (repL_cons rep_v (repL_cons rep_v (repL_cons rep_v (repL_cons rep_v (repL_cons rep_v (repL_cons rep_v repL_nil)))))))))
    replace h_made := rep_ext e18 h_made
    replace h_parts_here := rep_ext e18 h_parts_here
    replace hW := hW.ret0 e18
    refine ⟨_, rfl, ?_⟩
    apply rep_iter h20
    intro a23 xs24 _ an25 hp26 hl27
    refine fun L28 nl29 => ?_
    have nm43 := nm_new hW nl29
    refine lf_listG (L := L28) (fun n_ ys_ h_ => Wd (L28 :: ms) [ap] [] H_0 h_ ∧ Keep (L28 :: ms) H22 h_ ∧ MutO (L28 :: ms) [ap] H_0 h_ L28 (D.lst (ys_.map (fun y_ : Int => (D.v (V.int y_))))) ∧ ys_.length ≤ n_) (items := ([(1 : Int), (2 : Int), (5 : Int), x_size, (x_size - (1 : Int)), (x_size - (4 : Int)), (x_size - (9 : Int)), ((1 : Int) + (r11 % x_size)), (x_size / (2 : Int))] : List Int)) (e := (fun y_ : Int => (D.v (V.int y_)))) an25 hp26 hl27 nl29 (fun _ _ _ q_ => q_.2.1) hM ⟨wd_cell hW nl29, keep_cell nl29 Keep.refl, mo_newL (ds := []) hW nl29 repL_nil, Nat.le_refl _⟩ ?_ ?_
    · skip
      rintro x39 u40 n30 ys31 k32 H44 hn ⟨hW, hk33, mu34, ln35⟩ h41 hM Nx38 hN36 hNn37
      replace h_made := rep_keep hk33 (rep_new nl29 h_made)
      replace h_parts_here := rep_keep hk33 (rep_new nl29 h_parts_here)
      replace h20 := rep_keep hk33 (rep_new nl29 h20)
      obtain rfl := of_v h41
      refine ⟨rfl, ?_⟩
      refine ⟨_, rfl, ?_⟩
      refine ⟨_, _, rfl, rfl, ?_⟩
      refine ⟨_, rfl, ?_⟩
      refine ite3 hM (fun hM => ?_) (fun hM => ?_)
      · skip
        refine ⟨_, rfl, ?_⟩
        refine ⟨_, _, rfl, rfl, ?_⟩
        refine ⟨_, rfl, ?_⟩
        refine ite3 hM (fun hM => ?_) (fun hM => ?_)
        · skip
          refine ⟨_, rfl, ?_⟩
          refine mo_end mu34 hn (by rw [List.length_map]; exact ln35) fun vs45 hr46 => ?_
          have mk48 := mo_setL mu34 (repL_snoc (e := (fun y_ : Int => (D.v (V.int y_)))) (xs := ys31) (y := x39) hr46 rep_v)
          replace h_made := rep_put (o := .lst (vs45 ++ [V.int x39])) mu34.im h_made
          replace h_parts_here := rep_put (o := .lst (vs45 ++ [V.int x39])) mu34.im h_parts_here
          replace h20 := rep_put (o := .lst (vs45 ++ [V.int x39])) mu34.im h20
          replace hk33 := keep_put (o := .lst (vs45 ++ [V.int x39])) mu34.im hk33
          replace hW := wd_put (o := .lst (vs45 ++ [V.int x39])) hW mu34
          replace mu34 := mk48
          generalize upd H44 L28 (.lst (vs45 ++ [V.int x39])) = H49 at *
          replace mu34 : MutO (L28 :: ms) [ap] H_0 H49 L28 (D.lst ((ys31 ++ [x39]).map (fun y_ : Int => (D.v (V.int y_))))) := mu34
          clear mk48
          exact hN36 x39 _ hM ⟨hW, hk33, mu34, by rw [List.length_append]; exact Nat.add_le_add_right ln35 1⟩
        · skip
          exact hNn37 _ hM ⟨hW, hk33, mu34, Nat.le_succ_of_le ln35⟩
      · skip
        refine ⟨_, rfl, ?_⟩
        refine iteF ?_
        exact hNn37 _ hM ⟨hW, hk33, mu34, Nat.le_succ_of_le ln35⟩
    · skip
      rintro n30 ys50 H51 hM ⟨hW, hk33, mu34, ln35⟩
      replace h_made := rep_keep hk33 (rep_new nl29 h_made)
      replace h_parts_here := rep_keep hk33 (rep_new nl29 h_parts_here)
      replace h20 := rep_keep hk33 (rep_new nl29 h20)
      clear hk33 ln35
      have h52 := mo_rep_dr dr_here nm43 mu34
      replace hW := wd_dr dr_here mu34.hp hW
      replace h_made := rep_dr dr_here h_made
      replace h_parts_here := rep_dr dr_here h_parts_here
      replace h20 := rep_dr dr_here h20
      clear mu34
      apply rep_iter h52
      intro a53 xs54 _ an55 hp56 hl57
      refine for_listG (S := Unit) (items := ys50) (e := (fun y_ : Int => (D.v (V.int y_)))) (ms := ms) (fun (s : Unit) σ_ h_ => ∃ (w_0 : Option V), ∃ (w_1 : Option V), σ_ = [some (V.ref ap), some v_made, some v_parts_here, some (V.int x_size), some (V.int r1), some (V.str r6), some (V.ref p17), w_0, w_1, none] ∧ Wd ms [ap] [] H_0 h_ ∧ Keep ms H51 h_) () an55 hp56 hl57 (fun _ _ _ z_ => by obtain ⟨_, _, _, _, q_⟩ := z_; exact q_) hM ⟨_, _, rfl, hW, Keep.refl⟩ ?_ ?_
      · skip
        rintro x58 u59 s60 k61 _ H68 ⟨w66, w67, rfl, hW, hk62⟩ h63 hM Nx64 hN65
        replace h_made := rep_keep hk62 h_made
        replace h_parts_here := rep_keep hk62 h_parts_here
        replace h20 := rep_keep hk62 h20
        replace h52 := rep_keep hk62 h52
        obtain rfl := of_v h63
        refine ⟨_, rfl, ?_⟩
        refine ⟨_, rfl, ?_⟩
        refine ⟨_, rfl, ?_⟩
        refine ⟨_, rfl, ?_⟩
        refine ⟨_, rfl, ?_⟩
        refine ⟨ms, _, x_parts_here, x_size, r1, x58, _, rfl, hW.enter0, h_parts_here, hM, fun r69 u72 H73 hM e71 h70 => ?_⟩
        replace h_made := rep_ext e71 h_made
        replace h_parts_here := rep_ext e71 h_parts_here
        replace h20 := rep_ext e71 h20
        replace h52 := rep_ext e71 h52
        replace hk62 := keep_ext e71 hk62
        replace hW := hW.ret0 e71
        obtain rfl := of_v h70
        refine ⟨_, _, rfl, rfl, ?_⟩
        obtain ⟨g74, hM⟩ := hM
        obtain ⟨c75, c75h, hM⟩ := hM
        refine ⟨_, _, _, rfl, rfl, g74, c75h, ?_⟩
        refine ⟨_, rfl, ?_⟩
        apply rep_meth (m := "mark") h_made (by decide +kernel)
        refine ⟨_, rfl, ?_⟩
        refine ⟨_, rfl, ?_⟩
        refine ⟨ms, _, x_made, x_size, x58, _, rfl, hW.enter0, h_made, hM, fun r76 u79 H80 hM e78 h77 => ?_⟩
        replace h_made := rep_ext e78 h_made
        replace h_parts_here := rep_ext e78 h_parts_here
        replace h20 := rep_ext e78 h20
        replace h52 := rep_ext e78 h52
        replace hk62 := keep_ext e78 hk62
        replace hW := hW.ret0 e78
        obtain rfl := of_v h77
        refine ⟨_, rfl, ?_⟩
        refine ⟨rfl, ?_⟩
        refine ⟨_, rfl, ?_⟩
        refine ite3 hM (fun hM => ?_) (fun hM => ?_)
        · skip
          refine iteT ?_
          exact hQ false _ _ hM hW.out rep_v
        · skip
          refine ⟨_, rfl, ?_⟩
          refine ⟨_, rfl, ?_⟩
          refine ⟨_, rfl, ?_⟩
          refine ⟨ms, _, x_made, x_size, x58, _, rfl, hW.enter0, h_made, hM, fun r81 u84 H85 hM e83 h82 => ?_⟩
          replace h_made := rep_ext e83 h_made
          replace h_parts_here := rep_ext e83 h_parts_here
          replace h20 := rep_ext e83 h20
          replace h52 := rep_ext e83 h52
          replace hk62 := keep_ext e83 hk62
          replace hW := hW.ret0 e83
          obtain rfl := of_v h82
          refine ⟨_, rfl, ?_⟩
          refine ite3 hM (fun hM => ?_) (fun hM => ?_)
          · skip
            exact hQ false _ _ hM hW.out rep_v
          · skip
            exact hN65 () _ _ hM ⟨_, _, rfl, hW, hk62⟩
      · skip
        rintro s86 _ H90 hM ⟨w88, w89, rfl, hW, hk87⟩
        replace h_made := rep_keep hk87 h_made
        replace h_parts_here := rep_keep hk87 h_parts_here
        replace h20 := rep_keep hk87 h20
        replace h52 := rep_keep hk87 h52
        exact hQ true _ _ hM hW.out rep_v
def M_rounds_right (x_made : (Str × Str × Str)) (x_parts_here : (Str × Str × Str)) (x_size : Int) (KM : Bool → Prop) : Prop :=
  (x_parts_here.1.length ≤ sizeLine ∧ (x_parts_here.2.2.length ≤ sizeLine ∧ (x_parts_here.2.1.length ≤ sizeLine ∧ (if (decide (((x_size - (x_parts_here.2.2.length : Int)) - (x_parts_here.1.length : Int)) < (x_parts_here.2.1.length : Int))) = true then (KM true) else (M_great (0 : Int) fun r10 => (0 < ((((x_size - (x_parts_here.2.2.length : Int)) - (x_parts_here.1.length : Int)) - (x_parts_here.2.1.length : Int)) + (1 : Int)) ∧ (M_Word_homes x_made x_size (((x_parts_here.1.length : Int) + (r10 % ((((x_size - (x_parts_here.2.2.length : Int)) - (x_parts_here.1.length : Int)) - (x_parts_here.2.1.length : Int)) + (1 : Int)))) + (x_parts_here.2.1.length : Int)) fun r16 => (M_Word_homes x_made x_size ((x_parts_here.1.length : Int) + (r10 % ((((x_size - (x_parts_here.2.2.length : Int)) - (x_parts_here.1.length : Int)) - (x_parts_here.2.1.length : Int)) + (1 : Int)))) fun r21 => (if (!(decide (V.int (r16 - r21) = V.int (Txt.count x_parts_here.2.1 ("h" : Str) : Int)))) = true then (KM false) else (CDivW ((x_size - (x_parts_here.2.2.length : Int)) - (x_parts_here.1.length : Int)) (x_parts_here.2.1.length : Int) ∧ (CMulW (((x_size - (x_parts_here.2.2.length : Int)) - (x_parts_here.1.length : Int)) / (x_parts_here.2.1.length : Int)) (Txt.count x_parts_here.2.1 ("h" : Str) : Int) ∧ (CMulW (((x_size - (x_parts_here.2.2.length : Int)) - (x_parts_here.1.length : Int)) / (x_parts_here.2.1.length : Int)) (x_parts_here.2.1.length : Int) ∧ (M_Word_homes x_made x_size ((x_parts_here.1.length : Int) + ((((x_size - (x_parts_here.2.2.length : Int)) - (x_parts_here.1.length : Int)) / (x_parts_here.2.1.length : Int)) * (x_parts_here.2.1.length : Int))) fun r35 => (if (!(decide (V.int r35 = V.int ((Txt.count x_parts_here.1 ("h" : Str) : Int) + ((((x_size - (x_parts_here.2.2.length : Int)) - (x_parts_here.1.length : Int)) / (x_parts_here.2.1.length : Int)) * (Txt.count x_parts_here.2.1 ("h" : Str) : Int)))))) = true then (KM false) else (M_Word_homes x_made x_size (x_parts_here.1.length : Int) fun r40 => (if (!(decide (V.int r40 = V.int (Txt.count x_parts_here.1 ("h" : Str) : Int)))) = true then (KM false) else (M_Word_homes x_made x_size x_size fun r47 => (M_Word_homes x_made x_size (x_size - (x_parts_here.2.2.length : Int)) fun r52 => (if (decide (V.int (r47 - r52) = V.int (Txt.count x_parts_here.2.2 ("h" : Str) : Int))) = true then (M_Word_homes x_made x_size (0 : Int) fun r59 => (KM (decide (V.int r59 = V.int (0 : Int))))) else (KM false))))))))))))))))))))
def sp_rounds_right (A : Ad) : Sp := fun vs H Q _ => ∃ (ms : List Addr) (ap : Addr) (v_made : V) (v_parts_here : V) (x_made : (Str × Str × Str)) (x_parts_here : (Str × Str × Str)) (x_size : Int) (KM : Bool → Prop), vs = [.ref ap, v_made, v_parts_here, V.int x_size] ∧ Wd ms [ap] [] H H ∧ rep ms H (eWord A x_made) v_made ∧ rep ms H (D.tup [(D.v (V.str x_parts_here.1)), (D.v (V.str x_parts_here.2.1)), (D.v (V.str x_parts_here.2.2))]) v_parts_here ∧ M_rounds_right x_made x_parts_here x_size KM ∧ ∀ (r : Bool) (u : V) (H1 : Hp), KM r → Ret [ap] H H1 → rep ms H1 (D.v (V.bl r)) u → Q u H1
set_option maxHeartbeats 16000000 in
theorem ok_rounds_right {P : Program} {w : World} {K : PySem.W.Frag} {mg : Str → Option Value} {base : Heap} {A : Ad} (T : Txt w K mg A) : FnOk P w K mg base CX0 5 A.a_rounds_right A.d_rounds_right ["_law_pot_here", "_law_made", "_law_parts_here", "_law_size"] (sp_rounds_right A) := by
  refine T.F_rounds_right.ok sc_rounds_right (fun vs H Q E h => ?_) (fun cdv A_ outer s_ H_0 vs Q E hr h => ?_)
  · obtain ⟨ms, ap, v_made, v_parts_here, x_made, x_parts_here, x_size, KM, rfl, _⟩ := h
    rfl
  · obtain ⟨ms, ap, v_made, v_parts_here, x_made, x_parts_here, x_size, KM, rfl, hW, h_made, h_parts_here, hM, hQ⟩ := h
    unfold M_rounds_right at hM
    refine ⟨_, (pss_cons (ps_par (i := 4) (j := 5) (by rfl) sc_rounds_right.nd rfl rfl (by decide) rfl rfl (pa_cons (pe_callB call_len_str (by rfl) T.z_len PySem.boot_len (pa_cons (pe_ix (ix_tupK (K := K) rfl) (pv 2) pe_int (fun _ _ => rfl)) pa_nil)) (pa_cons (pe_op op_sub (pv 3) (pe_callB call_len_str (by rfl) T.z_len PySem.boot_len (pa_cons (pe_ix (ix_tupK (K := K) rfl) (pv 2) pe_int (fun _ _ => rfl)) pa_nil))) pa_nil)) (by rfl)) (pss_cons (ps_set (i := 6) sc_rounds_right.nd rfl (by first | exact Or.inl rfl | exact Or.inr rfl) (pe_callB call_len_str (by rfl) T.z_len PySem.boot_len (pa_cons (pe_ix (ix_tupK (K := K) rfl) (pv 2) pe_int (fun _ _ => rfl)) pa_nil))) (pss_cons (ps_if (pt_cmpR op_lt (pe_op op_sub (pv 5) (pv 4)) (pv 6) (nomark _)) (pss_one (ps_ret pe_bl)) pss_nil) (pss_cons (ps_set (i := 7) sc_rounds_right.nd rfl (by first | exact Or.inl rfl | exact Or.inr rfl) (pe_op op_add (pv 4) (pe_op op_mod (pe_callTy call_int1 (by rfl) T.z_int (by decide +kernel) (pa_cons (pe_call (ok_great T) (hr.mono (by decide)) (by rfl) T.g_great T.F_great.kp T.b_great .nil pass0 (pa_cons (pv 0) (pa_cons pe_int pa_nil))) pa_nil)) (pe_op op_add (pe_op op_sub (pe_op op_sub (pv 5) (pv 4)) (pv 6)) pe_int)))) (pss_cons (ps_if (pt_cmpR op_ne (pe_op op_sub (pe_meth (pv 1) T.cl_Word T.m_Word_homes (ok_Word_homes T) (hr.mono (by decide)) T.b_Word_homes .nil pass0 (pa_cons (pv 3) (pa_cons (pe_op op_add (pv 7) (pv 6)) pa_nil))) (pe_meth (pv 1) T.cl_Word T.m_Word_homes (ok_Word_homes T) (hr.mono (by decide)) T.b_Word_homes .nil pass0 (pa_cons (pv 3) (pa_cons (pv 7) pa_nil)))) (pe_m1 PySem.F.slot_str_count PySem.F.type_str_count mt_count (pe_ix (ix_tupK (K := K) rfl) (pv 2) pe_int (fun _ _ => rfl)) pe_str) (nomark _)) (pss_one (ps_ret pe_bl)) pss_nil) (pss_cons (ps_set (i := 8) sc_rounds_right.nd rfl (by first | exact Or.inl rfl | exact Or.inr rfl) (pe_op op_fdivW (pe_op op_sub (pv 5) (pv 4)) (pv 6))) (pss_cons (ps_set (i := 9) sc_rounds_right.nd rfl (by first | exact Or.inl rfl | exact Or.inr rfl) (pe_op op_add (pe_m1 PySem.F.slot_str_count PySem.F.type_str_count mt_count (pe_ix (ix_tupK (K := K) rfl) (pv 2) pe_int (fun _ _ => rfl)) pe_str) (pe_op op_mulW (pv 8) (pe_m1 PySem.F.slot_str_count PySem.F.type_str_count mt_count (pe_ix (ix_tupK (K := K) rfl) (pv 2) pe_int (fun _ _ => rfl)) pe_str)))) (pss_cons (ps_if (PW.pt (pw_or (pt_cmpR op_ne (pe_meth (pv 1) T.cl_Word T.m_Word_homes (ok_Word_homes T) (hr.mono (by decide)) T.b_Word_homes .nil pass0 (pa_cons (pv 3) (pa_cons (pe_op op_add (pv 4) (pe_op op_mulW (pv 8) (pv 6))) pa_nil))) (pv 9) (nomark _)) (pw_or1 (pt_cmpR op_ne (pe_meth (pv 1) T.cl_Word T.m_Word_homes (ok_Word_homes T) (hr.mono (by decide)) T.b_Word_homes .nil pass0 (pa_cons (pv 3) (pa_cons (pv 4) pa_nil))) (pe_m1 PySem.F.slot_str_count PySem.F.type_str_count mt_count (pe_ix (ix_tupK (K := K) rfl) (pv 2) pe_int (fun _ _ => rfl)) pe_str) (nomark _))))) (pss_one (ps_ret pe_bl)) pss_nil) (pss_cons (ps_set (i := 10) sc_rounds_right.nd rfl (by first | exact Or.inl rfl | exact Or.inr rfl) (pe_op op_sub (pe_meth (pv 1) T.cl_Word T.m_Word_homes (ok_Word_homes T) (hr.mono (by decide)) T.b_Word_homes .nil pass0 (pa_cons (pv 3) (pa_cons (pv 3) pa_nil))) (pe_meth (pv 1) T.cl_Word T.m_Word_homes (ok_Word_homes T) (hr.mono (by decide)) T.b_Word_homes .nil pass0 (pa_cons (pv 3) (pa_cons (pv 5) pa_nil))))) (pss_one (ps_ret (pe_and (pe_cmpR op_eq (pv 10) (pe_m1 PySem.F.slot_str_count PySem.F.type_str_count mt_count (pe_ix (ix_tupK (K := K) rfl) (pv 2) pe_int (fun _ _ => rfl)) pe_str) (nomark _)) (pe_one (pe_cmpR op_eq (pe_meth (pv 1) T.cl_Word T.m_Word_homes (ok_Word_homes T) (hr.mono (by decide)) T.b_Word_homes .nil pass0 (pa_cons (pv 3) (pa_cons pe_int pa_nil))) pe_int (nomark _))))))))))))))), ?_⟩
    refine ⟨_, rfl, ?_⟩
    apply rep_ixT 0 h_parts_here rfl rfl
    intro u2 h1
    obtain rfl := of_v h1
    obtain ⟨g3, hM⟩ := hM
    refine ⟨_, rfl, g3, ?_⟩
    refine ⟨_, rfl, ?_⟩
    refine ⟨_, rfl, ?_⟩
    apply rep_ixT 2 h_parts_here rfl rfl
    intro u5 h4
    obtain rfl := of_v h4
    obtain ⟨g6, hM⟩ := hM
    refine ⟨_, rfl, g6, ?_⟩
    refine ⟨_, _, rfl, rfl, ?_⟩
    refine ⟨_, _, rfl, ?_⟩
    refine ⟨_, rfl, ?_⟩
    apply rep_ixT 1 h_parts_here rfl rfl
    intro u8 h7
    obtain rfl := of_v h7
    obtain ⟨g9, hM⟩ := hM
    refine ⟨_, rfl, g9, ?_⟩
    refine ⟨_, rfl, ?_⟩
    refine ⟨_, rfl, ?_⟩
    refine ⟨_, _, rfl, rfl, ?_⟩
    refine ⟨_, rfl, ?_⟩
    refine ⟨_, _, rfl, rfl, ?_⟩
    refine ⟨_, rfl, ?_⟩
    refine ite3 hM (fun hM => ?_) (fun hM => ?_)
    · skip
      exact hQ true _ _ hM hW.out rep_v
    · skip
      refine ⟨_, rfl, ?_⟩
      refine ⟨_, rfl, ?_⟩
      refine ⟨ms, ap, (0 : Int), _, rfl, hW.enterP, hM, fun r10 u13 H14 hM e12 h11 => ?_⟩
      replace h_made := rep_ret hW e12 h_made
      replace h_parts_here := rep_ret hW e12 h_parts_here
      replace hW := hW.retP e12
      obtain rfl := of_v h11
      refine .inl ⟨_, rfl, ?_⟩
      refine ⟨_, rfl, ?_⟩
      refine ⟨_, rfl, ?_⟩
      refine ⟨_, _, rfl, rfl, ?_⟩
      refine ⟨_, rfl, ?_⟩
      refine ⟨_, _, rfl, rfl, ?_⟩
      refine ⟨_, _, rfl, rfl, ?_⟩
      obtain ⟨g15, hM⟩ := hM
      refine ⟨_, _, rfl, rfl, g15, ?_⟩
      refine ⟨_, _, rfl, rfl, ?_⟩
      refine ⟨_, rfl, ?_⟩
      apply rep_meth (m := "homes") h_made (by decide +kernel)
      refine ⟨_, rfl, ?_⟩
      refine ⟨_, rfl, ?_⟩
      refine ⟨_, rfl, ?_⟩
      refine ⟨_, _, rfl, rfl, ?_⟩
      refine ⟨ms, _, x_made, x_size, (((x_parts_here.1.length : Int) + (r10 % ((((x_size - (x_parts_here.2.2.length : Int)) - (x_parts_here.1.length : Int)) - (x_parts_here.2.1.length : Int)) + (1 : Int)))) + (x_parts_here.2.1.length : Int)), _, rfl, hW.enter0, h_made, hM, fun r16 u19 H20 hM e18 h17 => ?_⟩
      replace h_made := rep_ext e18 h_made
      replace h_parts_here := rep_ext e18 h_parts_here
      replace hW := hW.ret0 e18
      obtain rfl := of_v h17
      refine ⟨_, rfl, ?_⟩
      apply rep_meth (m := "homes") h_made (by decide +kernel)
      refine ⟨_, rfl, ?_⟩
      refine ⟨_, rfl, ?_⟩
      refine ⟨ms, _, x_made, x_size, ((x_parts_here.1.length : Int) + (r10 % ((((x_size - (x_parts_here.2.2.length : Int)) - (x_parts_here.1.length : Int)) - (x_parts_here.2.1.length : Int)) + (1 : Int)))), _, rfl, hW.enter0, h_made, hM, fun r21 u24 H25 hM e23 h22 => ?_⟩
      replace h_made := rep_ext e23 h_made
      replace h_parts_here := rep_ext e23 h_parts_here
      replace hW := hW.ret0 e23
      obtain rfl := of_v h22
      refine ⟨_, _, rfl, rfl, ?_⟩
      refine ⟨_, rfl, ?_⟩
      apply rep_ixT 1 h_parts_here rfl rfl
      intro u27 h26
      obtain rfl := of_v h26
      refine ⟨⟨_, rfl⟩, ?_⟩
      refine ⟨_, _, rfl, rfl, ?_⟩
      refine ⟨rfl, ?_⟩
      refine ⟨_, rfl, ?_⟩
      refine ite3 hM (fun hM => ?_) (fun hM => ?_)
      · skip
        exact hQ false _ _ hM hW.out rep_v
      · skip
        refine ⟨_, rfl, ?_⟩
        refine ⟨_, rfl, ?_⟩
        refine ⟨_, _, rfl, rfl, ?_⟩
        refine ⟨_, rfl, ?_⟩
        obtain ⟨g28, hM⟩ := hM
        refine ⟨_, _, rfl, rfl, g28, ?_⟩
        refine ⟨_, rfl, ?_⟩
        apply rep_ixT 0 h_parts_here rfl rfl
        intro u30 h29
        obtain rfl := of_v h29
        refine ⟨⟨_, rfl⟩, ?_⟩
        refine ⟨_, _, rfl, rfl, ?_⟩
        refine ⟨_, rfl, ?_⟩
        refine ⟨_, rfl, ?_⟩
        apply rep_ixT 1 h_parts_here rfl rfl
        intro u32 h31
        obtain rfl := of_v h31
        refine ⟨⟨_, rfl⟩, ?_⟩
        refine ⟨_, _, rfl, rfl, ?_⟩
        obtain ⟨g33, hM⟩ := hM
        refine ⟨_, _, rfl, rfl, g33, ?_⟩
        refine ⟨_, _, rfl, rfl, ?_⟩
        refine ⟨_, rfl, ?_⟩
        apply rep_meth (m := "homes") h_made (by decide +kernel)
        refine ⟨_, rfl, ?_⟩
        refine ⟨_, rfl, ?_⟩
        refine ⟨_, rfl, ?_⟩
        refine ⟨_, rfl, ?_⟩
        obtain ⟨g34, hM⟩ := hM
        refine ⟨_, _, rfl, rfl, g34, ?_⟩
        refine ⟨_, _, rfl, rfl, ?_⟩
        refine ⟨ms, _, x_made, x_size, ((x_parts_here.1.length : Int) + ((((x_size - (x_parts_here.2.2.length : Int)) - (x_parts_here.1.length : Int)) / (x_parts_here.2.1.length : Int)) * (x_parts_here.2.1.length : Int))), _, rfl, hW.enter0, h_made, hM, fun r35 u38 H39 hM e37 h36 => ?_⟩
        replace h_made := rep_ext e37 h_made
        replace h_parts_here := rep_ext e37 h_parts_here
        replace hW := hW.ret0 e37
        obtain rfl := of_v h36
        refine ⟨_, rfl, ?_⟩
        refine ⟨rfl, ?_⟩
        refine ⟨_, rfl, ?_⟩
        refine ite3 hM (fun hM => ?_) (fun hM => ?_)
        · skip
          refine iteT ?_
          exact hQ false _ _ hM hW.out rep_v
        · skip
          refine ⟨_, rfl, ?_⟩
          apply rep_meth (m := "homes") h_made (by decide +kernel)
          refine ⟨_, rfl, ?_⟩
          refine ⟨_, rfl, ?_⟩
          refine ⟨ms, _, x_made, x_size, (x_parts_here.1.length : Int), _, rfl, hW.enter0, h_made, hM, fun r40 u43 H44 hM e42 h41 => ?_⟩
          replace h_made := rep_ext e42 h_made
          replace h_parts_here := rep_ext e42 h_parts_here
          replace hW := hW.ret0 e42
          obtain rfl := of_v h41
          refine ⟨_, rfl, ?_⟩
          apply rep_ixT 0 h_parts_here rfl rfl
          intro u46 h45
          obtain rfl := of_v h45
          refine ⟨⟨_, rfl⟩, ?_⟩
          refine ⟨_, _, rfl, rfl, ?_⟩
          refine ⟨rfl, ?_⟩
          refine ⟨_, rfl, ?_⟩
          refine ite3 hM (fun hM => ?_) (fun hM => ?_)
          · skip
            exact hQ false _ _ hM hW.out rep_v
          · skip
            refine ⟨_, rfl, ?_⟩
            apply rep_meth (m := "homes") h_made (by decide +kernel)
            refine ⟨_, rfl, ?_⟩
            refine ⟨_, rfl, ?_⟩
            refine ⟨ms, _, x_made, x_size, x_size, _, rfl, hW.enter0, h_made, hM, fun r47 u50 H51 hM e49 h48 => ?_⟩
            replace h_made := rep_ext e49 h_made
            replace h_parts_here := rep_ext e49 h_parts_here
            replace hW := hW.ret0 e49
            obtain rfl := of_v h48
            refine ⟨_, rfl, ?_⟩
            apply rep_meth (m := "homes") h_made (by decide +kernel)
            refine ⟨_, rfl, ?_⟩
            refine ⟨_, rfl, ?_⟩
            refine ⟨ms, _, x_made, x_size, (x_size - (x_parts_here.2.2.length : Int)), _, rfl, hW.enter0, h_made, hM, fun r52 u55 H56 hM e54 h53 => ?_⟩
            replace h_made := rep_ext e54 h_made
            replace h_parts_here := rep_ext e54 h_parts_here
            replace hW := hW.ret0 e54
            obtain rfl := of_v h53
            refine ⟨_, _, rfl, rfl, ?_⟩
            refine ⟨_, rfl, ?_⟩
            refine ⟨_, rfl, ?_⟩
            apply rep_ixT 2 h_parts_here rfl rfl
            intro u58 h57
            obtain rfl := of_v h57
            refine ⟨⟨_, rfl⟩, ?_⟩
            refine ⟨_, _, rfl, rfl, ?_⟩
            refine ⟨rfl, ?_⟩
            refine ⟨_, rfl, ?_⟩
            refine ite3 hM (fun hM => ?_) (fun hM => ?_)
            · skip
              refine ⟨_, rfl, ?_⟩
              apply rep_meth (m := "homes") h_made (by decide +kernel)
              refine ⟨_, rfl, ?_⟩
              refine ⟨ms, _, x_made, x_size, (0 : Int), _, rfl, hW.enter0, h_made, hM, fun r59 u62 H63 hM e61 h60 => ?_⟩
              replace h_made := rep_ext e61 h_made
              replace h_parts_here := rep_ext e61 h_parts_here
              replace hW := hW.ret0 e61
              obtain rfl := of_v h60
              refine ⟨rfl, ?_⟩
              exact hQ (decide (V.int r59 = V.int (0 : Int))) _ _ hM hW.out rep_v
            · skip
              exact hQ false _ _ hM hW.out rep_v
def M_right (KM : Bool → Prop) : Prop :=
  (forC (fun (x1 : Int) (s3 : Unit) (k4 : Unit → Prop) => (M_parts  fun r14 => (M_Word_init r14.1 r14.2.1 r14.2.2 ∧ (M_small_right (r14.1, r14.2.1, r14.2.2) r14 fun r29 => (if (!r29) = true then (KM false) else (M_least r14 fun r34 => (M_great r34 fun r39 => (M_least r14 fun r44 => (M_draw (400 : Int) fun r49 => (forC (fun (x65 : Int) (s67 : Unit) (k68 : Unit → Prop) => (M_great_right (r14.1, r14.2.1, r14.2.2) r14 x65 fun r75 => (if (!r75) = true then (KM false) else (M_rounds_right (r14.1, r14.2.1, r14.2.2) r14 x65 fun r80 => (if (!r80) = true then (KM false) else (k68 ())))))) ([r39, (r44 + r49)] : List Int) () fun s85 => (k4 ()))))))))))) (rangeI (0 : Int) (2 : Int)) () fun s89 => (KM true))
def sp_right (A : Ad) : Sp := fun vs H Q _ => ∃ (ms : List Addr) (ap : Addr) (KM : Bool → Prop), vs = [.ref ap] ∧ Wd ms [ap] [] H H ∧ M_right  KM ∧ ∀ (r : Bool) (u : V) (H1 : Hp), KM r → Ret [ap] H H1 → rep ms H1 (D.v (V.bl r)) u → Q u H1
set_option maxHeartbeats 16000000 in
theorem ok_right {P : Program} {w : World} {K : PySem.W.Frag} {mg : Str → Option Value} {base : Heap} {A : Ad} (T : Txt w K mg A) : FnOk P w K mg base CX0 7 A.a_right A.d_right ["_law_pot_here"] (sp_right A) := by
  refine T.F_right.ok sc_right (fun vs H Q E h => ?_) (fun cdv A_ outer s_ H_0 vs Q E hr h => ?_)
  · obtain ⟨ms, ap, KM, rfl, _⟩ := h
    rfl
  · obtain ⟨ms, ap, KM, rfl, hW, hM, hQ⟩ := h
    unfold M_right at hM
    refine ⟨_, (pss_cons (ps_for PassesOwn.never rfl (pi_rangeW1 (by rfl) T.z_range (pa_cons pe_int pa_nil)) (pg_name (i := 1) sc_right.nd rfl (by first | exact Or.inl rfl | exact Or.inr rfl)) (pss_cons (ps_set (i := 2) sc_right.nd rfl (by first | exact Or.inl rfl | exact Or.inr rfl) (pe_call (ok_parts T) (hr.mono (by decide)) (by rfl) T.g_parts T.F_parts.kp T.b_parts .nil pass0 (pa_cons (pv 0) pa_nil))) (pss_cons (ps_set (i := 3) sc_right.nd rfl (by first | exact Or.inl rfl | exact Or.inr rfl) (pe_make T.mk_Word (ok_Word_init T) (hr.mono (by decide)) (by rfl) T.g_Word T.b_Word_init .nil pass0 (pa_cons (pe_ix (ix_tupK (K := K) rfl) (pv 2) pe_int (fun _ _ => rfl)) (pa_cons (pe_ix (ix_tupK (K := K) rfl) (pv 2) pe_int (fun _ _ => rfl)) (pa_cons (pe_ix (ix_tupK (K := K) rfl) (pv 2) pe_int (fun _ _ => rfl)) pa_nil))))) (pss_cons (ps_if (pt_not (pt_val (pe_call (ok_small_right T) (hr.mono (by decide)) (by rfl) T.g_small_right T.F_small_right.kp T.b_small_right .nil pass0 (pa_cons (pv 3) (pa_cons (pv 2) pa_nil))))) (pss_one (ps_ret pe_bl)) pss_nil) (pss_one (ps_for PassesOwn.never rfl (pi_list (pe_lst (pa_cons (pe_call (ok_great T) (hr.mono (by decide)) (by rfl) T.g_great T.F_great.kp T.b_great .nil pass0 (pa_cons (pv 0) (pa_cons (pe_call (ok_least T) (hr.mono (by decide)) (by rfl) T.g_least T.F_least.kp T.b_least .nil pass0 (pa_cons (pv 2) pa_nil)) pa_nil))) (pa_cons (pe_op op_add (pe_call (ok_least T) (hr.mono (by decide)) (by rfl) T.g_least T.F_least.kp T.b_least .nil pass0 (pa_cons (pv 2) pa_nil)) (pe_call (ok_draw T) (hr.mono (by decide)) (by rfl) T.g_draw T.F_draw.kp T.b_draw .nil pass0 (pa_cons (pv 0) (pa_cons pe_int pa_nil)))) pa_nil)))) (pg_name (i := 4) sc_right.nd rfl (by first | exact Or.inl rfl | exact Or.inr rfl)) (pss_one (ps_if (PW.pt (pw_or (pt_not (pt_val (pe_call (ok_great_right T) (hr.mono (by decide)) (by rfl) T.g_great_right T.F_great_right.kp T.b_great_right .nil pass0 (pa_cons (pv 0) (pa_cons (pv 3) (pa_cons (pv 2) (pa_cons (pv 4) pa_nil))))))) (pw_or1 (pt_not (pt_val (pe_call (ok_rounds_right T) (hr.mono (by decide)) (by rfl) T.g_rounds_right T.F_rounds_right.kp T.b_rounds_right .nil pass0 (pa_cons (pv 0) (pa_cons (pv 3) (pa_cons (pv 2) (pa_cons (pv 4) pa_nil)))))))))) (pss_one (ps_ret pe_bl)) pss_nil)))))))) (pss_one (ps_ret pe_bl))), ?_⟩
    refine ⟨_, rfl, ?_⟩
    refine for_rangeG (S := Unit) (lo := (0 : Int)) (hi := (2 : Int)) (N := Int.toNat (2 : Int)) (fun (s : Unit) σ_ h_ => ∃ (w_0 : Option V), ∃ (w_1 : Option V), ∃ (w_2 : Option V), ∃ (w_3 : Option V), σ_ = [some (V.ref ap), w_0, w_1, w_2, w_3] ∧ Wd ms [ap] [] H_0 h_ ∧ Keep ms H_0 h_) () (by simp) hM ⟨_, _, _, _, rfl, hW, Keep.refl⟩ ?_ ?_
    · skip
      rintro x1 s3 k4 _ H13 ⟨w9, w10, w11, w12, rfl, hW, hk5⟩ hM Nx7 hN8
      refine ⟨_, rfl, ?_⟩
      refine ⟨ms, ap, _, rfl, hW.enterP, hM, fun r14 u17 H18 hM e16 h15 => ?_⟩
      replace hk5 := keep_ret hW e16 hk5
      replace hW := hW.retP e16
      refine ⟨_, rfl, ?_⟩
      apply rep_ixT 0 h15 rfl rfl
      intro u20 h19
      obtain rfl := of_v h19
      refine ⟨_, rfl, ?_⟩
      apply rep_ixT 1 h15 rfl rfl
      intro u22 h21
      obtain rfl := of_v h21
      refine ⟨_, rfl, ?_⟩
      apply rep_ixT 2 h15 rfl rfl
      intro u24 h23
      obtain rfl := of_v h23
      conv => whnf
      apply make_Word hW hM
      intro p25 H28 hM e27 h26
      replace hk5 := keep_ext e27 hk5
      replace h15 := rep_ext e27 h15
      replace hW := hW.ret0 e27
      refine ⟨_, rfl, ?_⟩
      refine ⟨_, rfl, ?_⟩
      refine ⟨ms, _, _, (r14.1, r14.2.1, r14.2.2), r14, _, rfl, hW.enter0, h26, h15, hM, fun r29 u32 H33 hM e31 h30 => ?_⟩
      replace hk5 := keep_ext e31 hk5
      replace h15 := rep_ext e31 h15
      replace h26 := rep_ext e31 h26
      replace hW := hW.ret0 e31
      obtain rfl := of_v h30
      refine ⟨_, rfl, ?_⟩
      refine ite3 hM (fun hM => ?_) (fun hM => ?_)
      · skip
        exact hQ false _ _ hM hW.out rep_v
      · skip
        refine ⟨_, rfl, ?_⟩
        refine ⟨_, rfl, ?_⟩
        refine ⟨ms, _, r14, _, rfl, hW.enter0, h15, hM, fun r34 u37 H38 hM e36 h35 => ?_⟩
        replace hk5 := keep_ext e36 hk5
        replace h15 := rep_ext e36 h15
        replace h26 := rep_ext e36 h26
        replace hW := hW.ret0 e36
        obtain rfl := of_v h35
        refine ⟨ms, ap, r34, _, rfl, hW.enterP, hM, fun r39 u42 H43 hM e41 h40 => ?_⟩
        replace hk5 := keep_ret hW e41 hk5
        replace h15 := rep_ret hW e41 h15
        replace h26 := rep_ret hW e41 h26
        replace hW := hW.retP e41
        obtain rfl := of_v h40
        refine ⟨_, rfl, ?_⟩
        refine ⟨ms, _, r14, _, rfl, hW.enter0, h15, hM, fun r44 u47 H48 hM e46 h45 => ?_⟩
        replace hk5 := keep_ext e46 hk5
        replace h15 := rep_ext e46 h15
        replace h26 := rep_ext e46 h26
        replace hW := hW.ret0 e46
        obtain rfl := of_v h45
        refine ⟨_, rfl, ?_⟩
        refine ⟨ms, ap, (400 : Int), _, rfl, hW.enterP, hM, fun r49 u52 H53 hM e51 h50 => ?_⟩
        replace hk5 := keep_ret hW e51 hk5
        replace h15 := rep_ret hW e51 h15
        replace h26 := rep_ret hW e51 h26
        replace hW := hW.retP e51
        obtain rfl := of_v h50
        refine ⟨_, _, rfl, rfl, ?_⟩
        refine ⟨(by show 2 ≤ sizeLine; decide), ?_⟩
        intro p54 n58
        have e55 := Rx.Ext.new (H := H53) (o := (HO.lst [V.int r39, V.int (r44 + r49)])) n58
        have hp56 : upd H53 p54 (HO.lst [V.int r39, V.int (r44 + r49)]) p54 = some (HO.lst [V.int r39, V.int (r44 + r49)]) := upd_same
        generalize upd H53 p54 (HO.lst [V.int r39, V.int (r44 + r49)]) = H59 at e55 hp56 ⊢
        have h57 : rep ms H59 (D.lst (([r39, (r44 + r49)] : List Int).map (fun y_ : Int => (D.v (V.int y_))))) (.ref p54) := rep_lst_mk hW n58 e55 hp56 (repL_cons rep_v (repL_cons rep_v repL_nil))
        replace hk5 := keep_ext e55 hk5
        replace h15 := rep_ext e55 h15
        replace h26 := rep_ext e55 h26
        replace hW := hW.ret0 e55
        apply rep_iter h57
        intro a60 xs61 _ an62 hp63 hl64
        refine for_listG (S := Unit) (items := ([r39, (r44 + r49)] : List Int)) (e := (fun y_ : Int => (D.v (V.int y_)))) (ms := ms) (fun (s : Unit) σ_ h_ => ∃ (w_0 : Option V), σ_ = [some (V.ref ap), some (V.int x1), some u17, some (V.ref p25), w_0] ∧ Wd ms [ap] [] H_0 h_ ∧ Keep ms H59 h_) () an62 hp63 hl64 (fun _ _ _ z_ => by obtain ⟨_, _, _, q_⟩ := z_; exact q_) hM ⟨_, rfl, hW, Keep.refl⟩ ?_ ?_
        · skip
          rintro x65 u66 s67 k68 _ H74 ⟨w73, rfl, hW, hk69⟩ h70 hM Nx71 hN72
          replace hk5 := Keep.trans hk5 hk69
          replace h15 := rep_keep hk69 h15
          replace h26 := rep_keep hk69 h26
          replace h57 := rep_keep hk69 h57
          obtain rfl := of_v h70
          refine ⟨_, rfl, ?_⟩
          refine ⟨_, rfl, ?_⟩
          refine ⟨_, rfl, ?_⟩
          refine ⟨_, rfl, ?_⟩
          refine ⟨ms, ap, _, _, (r14.1, r14.2.1, r14.2.2), r14, x65, _, rfl, hW.enterP, h26, h15, hM, fun r75 u78 H79 hM e77 h76 => ?_⟩
          replace hk5 := keep_ret hW e77 hk5
          replace h15 := rep_ret hW e77 h15
          replace h26 := rep_ret hW e77 h26
          replace h57 := rep_ret hW e77 h57
          replace hk69 := keep_ret hW e77 hk69
          replace hW := hW.retP e77
          obtain rfl := of_v h76
          refine ⟨_, rfl, ?_⟩
          refine ite3 hM (fun hM => ?_) (fun hM => ?_)
          · skip
            refine iteT ?_
            exact hQ false _ _ hM hW.out rep_v
          · skip
            refine ⟨_, rfl, ?_⟩
            refine ⟨_, rfl, ?_⟩
            refine ⟨_, rfl, ?_⟩
            refine ⟨_, rfl, ?_⟩
            refine ⟨ms, ap, _, _, (r14.1, r14.2.1, r14.2.2), r14, x65, _, rfl, hW.enterP, h26, h15, hM, fun r80 u83 H84 hM e82 h81 => ?_⟩
            replace hk5 := keep_ret hW e82 hk5
            replace h15 := rep_ret hW e82 h15
            replace h26 := rep_ret hW e82 h26
            replace h57 := rep_ret hW e82 h57
            replace hk69 := keep_ret hW e82 hk69
            replace hW := hW.retP e82
            obtain rfl := of_v h81
            refine ⟨_, rfl, ?_⟩
            refine ite3 hM (fun hM => ?_) (fun hM => ?_)
            · skip
              exact hQ false _ _ hM hW.out rep_v
            · skip
              exact hN72 () _ _ hM ⟨_, rfl, hW, hk69⟩
        · skip
          rintro s85 _ H88 hM ⟨w87, rfl, hW, hk86⟩
          replace hk5 := Keep.trans hk5 hk86
          replace h15 := rep_keep hk86 h15
          replace h26 := rep_keep hk86 h26
          replace h57 := rep_keep hk86 h57
          exact hN8 () _ _ hM ⟨_, _, _, _, rfl, hW, hk5⟩
    · skip
      rintro s89 _ H95 hM ⟨w91, w92, w93, w94, rfl, hW, hk90⟩
      exact hQ true _ _ hM hW.out rep_v
/-! ### the pot of a cell, and the law -/
def sp_pot (K : PySem.W.Frag) : Sp := fun vs H Q _ => ∃ (a : Addr) (ns : List Int) (k : Int), vs = [.ref a, .int k] ∧ SqL K H a (ns.map V.int) ∧ ns.length ≤ 63 ∧ 0 ≤ k ∧ k ≤ 100 ∧
  ∀ (p : Addr) (H1 : Hp) (i j : Int), H p = none → Rx.Ext H H1 → H1 p = some (.lst [.int i, .int j]) → j.natAbs < 4294967296 → Q (.ref p) H1
theorem ok_pot {P : Program} {w : World} {K : PySem.W.Frag} {mg : Str → Option Value} {base : Heap} {A : Ad} (T : Txt w K mg A) : FnOk P w K mg base CX0 1 A.a_pot A.d_pot ["_law_script", "_law_k"] (sp_pot K) := by
  refine T.F_pot.ok sc_pot (fun vs H Q E h => ?_) (fun cdv A_ outer s_ H_0 vs Q E hr h => ?_)
  · obtain ⟨a, ns, k, rfl, _⟩ := h
    rfl
  · obtain ⟨a, ns, k, rfl, hS, hl, k0, k1, hQ⟩ := h
    refine ⟨_, pss_cons (ps_set (i := 2) sc_pot.nd rfl (.inl rfl) (pe_op op_add (pe_op op_mul pe_int (pv 1)) pe_int))
      (pss_cons (ps_if (pt_cmpR op_lt (pv 1) (pe_callB call_len (by rfl) T.z_len PySem.boot_len (pa_cons (pv 0) pa_nil)) (nomark _))
        (pss_one (ps_set (i := 2) sc_pot.nd rfl (.inl rfl) (pe_callB call_abs (by rfl) T.z_abs (by decide +kernel) (pa_cons (pe_ix ix_list (pv 0) (pv 1) (fun _ _ => rfl)) pa_nil)))) pss_nil)
      (pss_one (ps_ret (pe_lst (pa_cons (pe_callB (call_max2 rfl) (by rfl) T.z_max (by decide +kernel) (pa_cons pe_int (pa_cons (pe_op op_sub (pv 2) (pe_op op_pow pe_int pe_int)) pa_nil)))
        (pa_cons (pe_op op_add (pe_op op_mod (pe_callTy call_int1 (by rfl) T.z_int (by decide +kernel) (pa_cons (pe_op op_add (pe_op op_add (pe_op op_mul (pe_op op_mod (pe_callTy call_int1 (by rfl) T.z_int (by decide +kernel) (pa_cons (pv 2) pa_nil)) pe_int) pe_int) (pe_op op_mul pe_int (pv 1))) pe_int) pa_nil)) pe_int) pe_int) pa_nil)))))), ?_⟩
    refine ⟨_, rfl, _, _, rfl, rfl, .inl ⟨by decide, by decide⟩, _, _, rfl, rfl, ?_⟩
    refine ⟨_, rfl, _, rfl, _, ns.length, rfl, .inl ⟨_, hS, by rw [List.length_map]⟩, _, _, rfl, rfl, _, rfl, ?_⟩
    have fin : ∀ (c : Int) (p : Addr), H_0 p = none → Q (.ref p) (upd H_0 p (.lst [.int (if c - 10 ^ Int.toNat 18 > 0 then c - 10 ^ Int.toNat 18 else 0), .int ((c % 2147483563 * 40009 + 51287 * k + 17) % 2147483629 + 1)])) := fun c p np =>
      hQ p _ _ _ np (Rx.Ext.new np) upd_same (by omega)
    refine ite2 (fun c => ?_) (fun c => ?_)
    · have hk : k.toNat < ns.length := by
        have := of_decide_eq_true c
        omega
      refine ⟨_, rfl, _, rfl, a, _, k, .int (ns[k.toNat]), rfl, rfl, hS, at_of (j := k.toNat) (by omega) (by rw [List.getElem?_map, List.getElem?_eq_getElem hk]; rfl), _, rfl, ?_⟩
      refine ⟨_, rfl, _, _, rfl, rfl, ⟨by decide, by decide, by decide⟩, _, _, rfl, rfl, _, _, rfl, _, rfl, .inl ⟨_, rfl, _, _, rfl, rfl, (by show (0 : Int) < 2147483563; decide), _, _, rfl, rfl, .inr ⟨by decide, by decide⟩, _, rfl, _, _, rfl, rfl, .inl ⟨by decide, by decide⟩, _, _, rfl, rfl, _, _, rfl, rfl, .inl ⟨_, rfl, _, _, rfl, rfl, (by show (0 : Int) < 2147483629; decide), _, _, rfl, rfl, (by show 2 ≤ sizeLine; decide), fun p np => fin _ p np⟩⟩⟩
    · refine ⟨_, rfl, _, _, rfl, rfl, ⟨by decide, by decide, by decide⟩, _, _, rfl, rfl, _, _, rfl, _, rfl, .inl ⟨_, rfl, _, _, rfl, rfl, (by show (0 : Int) < 2147483563; decide), _, _, rfl, rfl, .inr ⟨by decide, by decide⟩, _, rfl, _, _, rfl, rfl, .inl ⟨by decide, by decide⟩, _, _, rfl, rfl, _, _, rfl, rfl, .inl ⟨_, rfl, _, _, rfl, rfl, (by show (0 : Int) < 2147483629; decide), _, _, rfl, rfl, (by show 2 ≤ sizeLine; decide), fun p np => fin _ p np⟩⟩⟩

/-! ### words: what the mirrors ask -/
open Wm
structure WV (w : Str × Str × Str) : Prop where
  h4 : (L w.1).length ≤ 4
  m1 : 1 ≤ (L w.2.1).length
  m4 : (L w.2.1).length ≤ 4
  t4 : (L w.2.2).length ≤ 4
  mh : ∀ c ∈ L w.1, c = 104 ∨ c = 97
  mm : ∀ c ∈ L w.2.1, c = 104 ∨ c = 97
  mt : ∀ c ∈ L w.2.2, c = 104 ∨ c = 97
theorem line_of {z : Str} {n : Nat} (h : (L z).length ≤ n) (hn : n ≤ 100000) : z.length ≤ sizeLine := by
  rw [len_L]
  exact Nat.le_trans h (Nat.le_trans hn (by decide))
theorem line4 {z : Str} (h : (L z).length ≤ 4) : z.length ≤ sizeLine := line_of h (by decide)
def lst (w : Str × Str × Str) : Int := if ((L w.1).length : Int) + (L w.2.2).length > 1 then ((L w.1).length : Int) + (L w.2.2).length else 1
theorem lst_ge {w : Str × Str × Str} : ((L w.1).length : Int) + (L w.2.2).length ≤ lst w ∧ 1 ≤ lst w := by
  unfold lst
  split <;> omega
theorem lst_le {w : Str × Str × Str} (hw : WV w) : lst w ≤ 8 := by
  have := hw.h4
  have := hw.t4
  unfold lst
  split <;> omega
theorem least_ok {w : Str × Str × Str} (hw : WV w) {k : Int → Prop} (q : k (lst w)) : M_least w k := by
  unfold M_least
  refine ⟨line4 hw.h4, line4 hw.t4, ?_⟩
  rw [len_L, len_L]
  exact q
theorem wleast_ok {w : Str × Str × Str} (hw : WV w) {k : Int → Prop} (q : k (lst w)) : M_Word_least w k := by
  unfold M_Word_least
  refine ⟨line4 hw.h4, line4 hw.t4, ?_⟩
  rw [len_L, len_L]
  exact q
theorem checkp_ok {w : Str × Str × Str} (hw : WV w) {n : Int} (hn : lst w ≤ n) {k : Unit → Prop} (q : k ()) : M_check_places w n k := by
  unfold M_check_places M_is_integer
  show (if (!!false) = true then _ else _)
  rw [if_neg (by decide)]
  refine wleast_ok hw ?_
  rw [if_neg (by simpa using hn)]
  exact q
abbrev rw_ (w : Str × Str × Str) (n : Int) : List Nat := row (L w.1) (L w.2.1) (L w.2.2) n.toNat
theorem rw_len {w : Str × Str × Str} {n : Int} (hn : lst w ≤ n) : (rw_ w n).length = n.toNat := row_len (by
  have := @lst_ge w
  omega)
theorem at_nat' {α : Type} {xs : List α} {i : Int} {c : α} (h0 : 0 ≤ i) (h : xs[i.toNat]? = some c) : atI xs i = some c := by
  rw [show i = ((i.toNat : Nat) : Int) by omega]
  exact atI_nat h
theorem emod_nat {x : Int} {n : Nat} (h : 0 ≤ x) : (x % (n : Int)).toNat = x.toNat % n := by
  have e : x = (x.toNat : Int) := by omega
  have : x % (n : Int) = ((x.toNat % n : Nat) : Int) := by rw [Int.natCast_emod, ← e]
  rw [this]
  rfl
theorem mark_ok {w : Str × Str × Str} (hw : WV w) {n i : Int} (hn : lst w ≤ n) (h1 : 1 ≤ i) (h2 : i ≤ n) {k : Str → Prop} (q : ∀ c, (rw_ w n)[(i - 1).toNat]? = some c → k (Str.mk #[c])) : M_Word_mark w n i k := by
  have g := @lst_ge w
  have m1 := hw.m1
  unfold M_Word_mark
  refine checkp_ok hw hn ?_
  show M_is_integer _ _
  unfold M_is_integer
  show (if (!!false) = true then _ else _)
  rw [if_neg (by decide), if_neg (by simpa using h1), if_neg (by simpa using h2)]
  refine ⟨line4 hw.h4, ?_⟩
  have hlen := rw_len hn
  obtain ⟨c, hc⟩ : ∃ c, (rw_ w n)[(i - 1).toNat]? = some c := ⟨_, List.getElem?_eq_getElem (by omega)⟩
  have q' := q c hc
  by_cases b1 : i ≤ (L w.1).length
  · rw [if_pos (by rw [len_L]; simpa using b1)]
    refine ⟨line4 hw.h4, c, at_nat' (by omega) ?_, q'⟩
    rw [row_head (by omega)] at hc
    exact hc
  · rw [if_neg (by rw [len_L]; simpa using b1)]
    refine ⟨line4 hw.t4, ?_⟩
    by_cases b2 : n - (L w.2.2).length < i
    · rw [if_pos (by rw [len_L]; simpa using b2)]
      refine ⟨line4 hw.t4, c, at_nat' (by rw [len_L]; omega) ?_, q'⟩
      rw [row_tail (by omega) (by omega)] at hc
      rw [← hc]
      congr 1
      rw [len_L]
      omega
    · rw [if_neg (by rw [len_L]; simpa using b2)]
      refine ⟨line4 hw.h4, line4 hw.m4, (by rw [len_L]; omega), line4 hw.m4, c, at_nat' (Int.emod_nonneg _ (by rw [len_L]; omega)) ?_, q'⟩
      rw [row_mid (by omega) (by omega) (by omega) (by omega)] at hc
      rw [← hc]
      congr 1
      rw [len_L, len_L, emod_nat (by omega)]
      congr 1
      omega
theorem cm3 {i j : Int} {a : Nat} (ha : i.natAbs < 2 ^ a) (h0 : 0 < a) (hj : j.natAbs < 2 ^ 4) (h : a ≤ 1000) : CMulW i j := wide_mul ha hj h0 (by decide) (by omega)
theorem nat_lt_200 {i : Int} (h0 : 0 ≤ i) (h : i ≤ 10 ^ 60 + 1000) : i.natAbs < 2 ^ 201 := by
  have e : (10 : Int) ^ 60 + 1000 < 2 ^ 201 := by decide
  have e2 : ((2 ^ 201 : Nat) : Int) = (2 : Int) ^ 201 := by decide
  omega
/-- the law's numbers of homes -/
theorem homes_ok {w : Str × Str × Str} (hw : WV w) {n i : Int} (hn : lst w ≤ n) (h1 : 0 ≤ i) (h2 : i ≤ n) (hb : n ≤ 10 ^ 60 + 1000) {k : Int → Prop} (q : k (hom 104 (L w.1) (L w.2.1) (L w.2.2) n.toNat i.toNat)) : M_Word_homes w n i k := by
  have g := @lst_ge w
  have m1 := hw.m1
  have m4 := hw.m4
  unfold M_Word_homes
  refine checkp_ok hw hn ?_
  show M_is_integer _ _
  unfold M_is_integer
  show (if (!!false) = true then _ else _)
  rw [if_neg (by decide), if_neg (by simpa using h1), if_neg (by simpa using h2)]
  refine ⟨line4 hw.h4, line4 hw.t4, line4 hw.h4, line4 hw.t4, ?_⟩
  rw [len_L, len_L]
  generalize hx : (if ((if n - ((L w.2.2).length : Int) < i then n - ((L w.2.2).length : Int) else i) - ((L w.1).length : Int)) > (0 : Int) then ((if n - ((L w.2.2).length : Int) < i then n - ((L w.2.2).length : Int) else i) - ((L w.1).length : Int)) else (0 : Int)) = x
  have x0 : 0 ≤ x ∧ x ≤ n ∧ x.toNat = min i.toNat (n.toNat - (L w.2.2).length) - (L w.1).length := by
    rw [← hx]
    split <;> split <;> omega
  obtain ⟨x0, x1, x2⟩ := x0
  unfold M_times_said
  have hm0 : (0 : Int) < ((L w.2.1).length : Int) := by omega
  refine ⟨line4 m4, ⟨by rw [len_L]; omega, by rw [len_L]; omega⟩, ?_, line4 m4, ?_⟩
  · refine cm3 (a := 201) (nat_lt_200 (Int.ediv_nonneg x0 (by omega)) ?_) (by decide) ?_ (by decide)
    · have := Int.ediv_le_self (w.2.1.length : Int) x0
      omega
    · rw [count_h]
      have := cn_le 104 (L w.2.1)
      have := cn_pos 104 (L w.2.1)
      omega
  · rw [count_h, count_h, count_h, count_h, cut_take _ h1, cut_take _ (Int.emod_nonneg _ (by rw [len_L]; omega)), cut_take _ (by split <;> omega), len_L]
    have e1 : ((x / ((L w.2.1).length : Int)) * cn 104 (L w.2.1) + cn 104 ((L w.2.1).take (x % ((L w.2.1).length : Int)).toNat)) = cyn 104 (L w.2.1) x.toNat := by
      unfold cyn
      have e2 : x = (x.toNat : Int) := by omega
      rw [show x / ((L w.2.1).length : Int) = ((x.toNat / (L w.2.1).length : Nat) : Int) by rw [Int.natCast_ediv, ← e2], emod_nat x0]
    rw [e1, x2]
    unfold hom at q
    have e3 : (if i - (n - ((L w.2.2).length : Int)) > 0 then i - (n - ((L w.2.2).length : Int)) else 0).toNat = i.toNat - (n.toNat - (L w.2.2).length) := by
      split <;> omega
    rw [e3]
    exact q
theorem draw_ok {n : Int} {k : Int → Prop} (h0 : 0 < n) (h1 : n < 1073741824) (q : ∀ d, 0 ≤ d → d < n → k d) : M_draw n k := ⟨⟨h0, h1⟩, q⟩
theorem str1 (c : Nat) : (Str.mk #[c]).length = 1 := rfl
theorem signs_ok {few many : Int} (h0 : 0 ≤ few) (h1 : few ≤ many) (h4 : many ≤ 4) {k : Str → Prop} (q : ∀ z : Str, few ≤ (L z).length → ((L z).length : Int) ≤ many → (∀ c ∈ L z, c = 104 ∨ c = 97) → k z) : M_signs few many k := by
  unfold M_signs
  refine draw_ok (by omega) (by omega) fun d d0 d1 => ⟨by rw [rangeI_len]; omega, ?_⟩
  refine mapC_any (fun y => ∃ c, y = Str.mk #[c] ∧ (c = 104 ∨ c = 97)) (fun x _ k' hk => ?_) fun ys hl hp => ?_
  · refine draw_ok (by decide) (by decide) fun e e0 e1 => ⟨by decide +kernel, ?_⟩
    have he : e = 0 ∨ e = 1 := by omega
    rcases he with rfl | rfl
    · exact ⟨104, by decide +kernel, hk _ ⟨_, rfl, .inl rfl⟩⟩
    · exact ⟨97, by decide +kernel, hk _ ⟨_, rfl, .inr rfl⟩⟩
  · rw [List.nil_append]
    rw [rangeI_len] at hl
    have hs : ∀ zs : List Str, (∀ y ∈ zs, ∃ c, y = Str.mk #[c] ∧ (c = 104 ∨ c = 97)) → (zs.map (·.length)).sum = zs.length ∧ ((zs.map L).flatten).length = zs.length ∧ ∀ c ∈ (zs.map L).flatten, c = 104 ∨ c = 97 := by
      intro zs
      induction zs with
      | nil => intro _; exact ⟨rfl, rfl, fun c hc => absurd hc (by simp)⟩
      | cons z zs ih =>
        intro h
        obtain ⟨c, rfl, hc⟩ := h z List.mem_cons_self
        obtain ⟨i1, i2, i3⟩ := ih fun y hy => h y (List.mem_cons_of_mem _ hy)
        refine ⟨?_, ?_, fun c' hc' => ?_⟩
        · rw [List.map_cons, List.sum_cons, i1, str1, List.length_cons]
          omega
        · rw [List.map_cons, List.flatten_cons, List.length_append, i2, L_one, List.length_cons, List.length_cons, List.length_nil]
          omega
        · rw [List.map_cons, List.flatten_cons, L_one] at hc'
          rcases List.mem_append.mp hc' with hc' | hc'
          · rw [List.mem_singleton.mp hc']
            exact hc
          · exact i3 c' hc'
    obtain ⟨s1, s2, s3⟩ := hs ys hp
    refine ⟨?_, q _ ?_ ?_ ?_⟩
    · rw [s1, len_L, L_empty]
      show ys.length + ys.length * 0 ≤ _
      omega
    · rw [join_L, s2]
      omega
    · rw [join_L, s2]
      omega
    · rw [join_L]
      exact s3
theorem parts_ok {k : Str × Str × Str → Prop} (q : ∀ w, WV w → k w) : M_parts k := by
  unfold M_parts
  refine signs_ok (by decide) (by decide) (by decide) fun h h1 h2 h3 => signs_ok (by decide) (by decide) (by decide) fun m m1 m2 m3 => signs_ok (by decide) (by decide) (by decide) fun t t1 t2 t3 => q _ ⟨?_, ?_, ?_, ?_, h3, m3, t3⟩
  · show (L h).length ≤ 4
    omega
  · show 1 ≤ (L m).length
    omega
  · show (L m).length ≤ 4
    omega
  · show (L t).length ≤ 4
    omega
theorem word_ok {w : Str × Str × Str} (hw : WV w) : M_Word_init w.1 w.2.1 w.2.2 := by
  have one : ∀ {z : Str} {k : Unit → Prop}, (L z).length ≤ 4 → (∀ c ∈ L z, c = 104 ∨ c = 97) → k () → M_check_part z k := fun {z k} h4 hm q => by
    unfold M_check_part M_is_marks
    refine ⟨line4 h4, ?_⟩
    rw [count_h, count_a, marks_all _ hm, len_L]
    show (if (!decide (V.int _ = V.int _)) = true then _ else _)
    rw [if_neg (by simp)]
    refine ⟨line4 h4, ?_⟩
    rw [if_neg (by simp only [decide_eq_true_eq]; omega)]
    exact q
  unfold M_Word_init
  refine one hw.h4 hw.mh (one hw.m4 hw.mm ?_)
  rw [if_neg]
  · exact one hw.t4 hw.mt trivial
  · rw [eqS, L_empty]
    have := hw.m1
    simp
    intro z
    rw [show L w.2.1 = [] from by rw [L, z]] at this
    simp at this
theorem dec_true {p : Prop} [Decidable p] (h : p) : decide p = true := decide_eq_true h
/-- a line, as long as need be -/
theorem line_ok {w : Str × Str × Str} (hw : WV w) {n : Int} (hn : lst w ≤ n) (hb : n ≤ 5000) {k : Str → Prop} (q : ∀ z : Str, L z = rw_ w n → k z) : M_line w n k := by
  have g := @lst_ge w
  have m1 := hw.m1
  have m4 := hw.m4
  have hm : 0 < (L w.2.1).length := by omega
  unfold M_line
  refine whileC_ok (fun s => ∃ j : Nat, L s = cyc (L w.2.1) (j * (L w.2.1).length) ∧ j * (L w.2.1).length ≤ n.toNat + 4) (fun s => n.toNat + 8 - (L s).length) (fun s k1 ⟨j, hs, hj⟩ hk => ?_) ⟨0, by rw [L_empty, Nat.zero_mul]; rfl, by omega⟩
  have hl : (L s).length = j * (L w.2.1).length := by rw [hs, cyc_len]
  refine ⟨line_of (n := 6000) (by omega) (by decide), ?_⟩
  rw [len_L]
  by_cases c : ((L s).length : Int) < n
  · rw [if_pos (dec_true c)]
    refine ⟨?_, hk _ ⟨j + 1, ?_, ?_⟩ ?_⟩
    · have e : sizeLine = 16777216 := sizeLine_eq
      rw [len_L, e]
      omega
    · rw [L_app, hs, cyc_end hm]
    · rw [Nat.succ_mul]
      omega
    · rw [L_app, List.length_append]
      omega
  · rw [if_neg (by simpa using c)]
    have hi : 0 ≤ n - ((L w.1).length : Int) - ((L w.2.2).length : Int) := by omega
    have hc : L (cutS s none (some (n - ((L w.1).length : Int) - ((L w.2.2).length : Int)))) = cyc (L w.2.1) (n.toNat - (L w.1).length - (L w.2.2).length) := by
      rw [cut_take _ hi, hs, cyc_take _ (by omega)]
      congr 1
      omega
    have e : sizeLine = 16777216 := sizeLine_eq
    refine ⟨line4 hw.h4, line4 hw.t4, line_of (n := 6000) (by omega) (by decide), ?_, ?_, q _ ?_⟩
    · rw [len_L, len_L, len_L, hc, cyc_len, e]
      have := hw.h4
      omega
    · rw [len_L, L_app, List.length_append, len_L, len_L, hc, cyc_len, e]
      have := hw.h4
      have := hw.t4
      omega
    · rw [L_app, L_app, len_L, len_L, hc]
      rfl
theorem p10 {a : Int} {n : Nat} (h : a = (n : Int)) : Int.toNat a = n := by omega
theorem great_ok {l : Int} (h0 : 0 ≤ l) (h1 : l ≤ 10 ^ 60) {k : Int → Prop} (q : ∀ g : Int, l ≤ g → g ≤ 10 ^ 60 → k g) : M_great l k := by
  unfold M_great
  rw [show Int.toNat 9 = 9 from rfl, show Int.toNat 59 = 59 from rfl, show Int.toNat 60 = 60 from rfl, show Int.toNat 12 = 12 from rfl]
  refine forC_ok (fun s => 0 ≤ s ∧ s < 10 ^ 59) (fun x _ s k' _ hk => ?_) (by decide) fun s ⟨s0, s1⟩ => ?_
  · refine draw_ok (by decide) (by decide) fun d _ _ => hk _ ⟨Int.emod_nonneg _ (by decide), Int.emod_lt_of_pos _ (by decide)⟩
  · unfold M_pick
    refine draw_ok (by simp) (by simp) fun d d0 d1 => ?_
    have d4 : d < 4 := by simpa using d1
    refine ⟨d0, by simp; omega, fun x hx => ?_⟩
    have b0 : 0 ≤ x ∧ x ≤ 10 ^ 60 := by
      have c : d = 0 ∨ d = 1 ∨ d = 2 ∨ d = 3 := by omega
      have e1 : (10 : Int) ^ 59 ≤ 10 ^ 60 := by decide
      have e2 : (1000 : Int) ≤ 10 ^ 60 := by decide
      have e3 : (10 : Int) ^ 12 ≤ 10 ^ 60 := by decide
      have r1 := Int.emod_nonneg s (show (50 : Int) ≠ 0 by decide)
      have r2 := Int.emod_lt_of_pos s (show (0 : Int) < 50 by decide)
      have r3 := Int.emod_nonneg s (show (10 : Int) ^ 12 ≠ 0 by decide)
      have r4 := Int.emod_lt_of_pos s (show (0 : Int) < 10 ^ 12 by decide)
      rcases c with rfl | rfl | rfl | rfl
      · have hx' : x = s := hx
        omega
      · have hx' : x = s := hx
        omega
      · have hx' : x = 10 ^ 60 - 1 - s % 50 := hx
        omega
      · have hx' : x = s % 10 ^ 12 := hx
        omega
    show k (if x > l then x else l)
    by_cases c : x > l
    · rw [if_pos c]
      exact q _ (by omega) b0.2
    · rw [if_neg c]
      exact q _ (by omega) h1

theorem all_len {ys : List Str} (h : ∀ y ∈ ys, y.length = 1) : (ys.map (·.length)).sum = ys.length := by
  induction ys with
  | nil => rfl
  | cons y ys ih =>
    rw [List.map_cons, List.sum_cons, ih fun z hz => h z (List.mem_cons_of_mem _ hz), h y List.mem_cons_self, List.length_cons]
    omega
theorem flat_one (l : List Nat) : ((l.map fun c => Str.mk #[c]).map L).flatten = l := by
  induction l with
  | nil => rfl
  | cons c l ih =>
    rw [List.map_cons, List.map_cons, List.flatten_cons, L_one, ih]
    rfl
theorem ints_py (ns : List Int) : pyOf (D.lst (ns.map fun y => D.v (V.int y))) = .list (ns.map PyData.int) := by
  simp only [pyOf]
  congr 1
  induction ns with
  | nil => rfl
  | cons n ns ih =>
    rw [List.map_cons, List.map_cons]
    simp only [pyL, pyOf]
    rw [ih]
theorem ints_plain (ns : List Int) : plainD (D.lst (ns.map fun y => D.v (V.int y))) = true := by
  simp only [plainD]
  induction ns with
  | nil => rfl
  | cons n ns ih =>
    rw [List.map_cons]
    simp only [plainL, plainD, Bool.true_and]
    exact ih
theorem ints_shaped (ns : List Int) : SeqAt.shaped (pyOf (D.lst (ns.map fun y => D.v (V.int y)))) = true := by
  rw [ints_py]
  unfold SeqAt.shaped
  rw [Bool.and_eq_true]
  have h : ∀ ns : List Int, PyData.canLayAll0 (ns.map PyData.int) = true ∧ PyData.depthAll (ns.map PyData.int) ≤ 1 := by
    intro ns
    induction ns with
    | nil => exact ⟨rfl, by simp [PyData.depthAll]⟩
    | cons n ns ih =>
      refine ⟨?_, ?_⟩
      · rw [List.map_cons]
        simp only [PyData.canLayAll0, PyData.canLay0, Bool.true_and]
        exact ih.1
      · rw [List.map_cons]
        simp only [PyData.depthAll, PyData.depth]
        have := ih.2
        omega
  refine ⟨?_, ?_⟩
  · simp only [PyData.canLay0]
    exact (h ns).1
  · refine decide_eq_true ?_
    simp only [PyData.depth]
    have := (h ns).2
    omega
/-- the marks of a row, one by one -/
theorem marks_row {w : Str × Str × Str} (hw : WV w) {n : Int} (hn : lst w ≤ n) (hb : n ≤ 90000) {k : List Str → Prop} (q : k ((rw_ w n).map fun c => Str.mk #[c])) :
    mapC (fun (x : Int) (k' : Str → Prop) => M_Word_mark w n x fun r => k' r) (rangeI 1 (n + 1)) [] k := by
  have g := @lst_ge w
  have hl := rw_len hn
  refine mapC_ok (fun x => Str.mk #[(rw_ w n).getD (x - 1).toNat 0]) (fun x hx k' hk => ?_) ?_
  · obtain ⟨x1, x2⟩ := rangeI_mem hx
    refine mark_ok hw hn x1 (by omega) fun c hc => ?_
    rw [List.getD_eq_getElem?_getD, hc] at hk
    exact hk
  · rw [List.nil_append]
    have e : (rangeI 1 (n + 1)).map (fun x => Str.mk #[(rw_ w n).getD (x - 1).toNat 0]) = (rw_ w n).map fun c => Str.mk #[c] := by
      apply List.ext_getElem?
      intro j
      rw [List.getElem?_map, List.getElem?_map]
      by_cases h : j < n.toNat
      · rw [rangeI_get (by omega), List.getElem?_eq_getElem (by omega)]
        show some (Str.mk #[(rw_ w n).getD (1 + (j : Int) - 1).toNat 0]) = some _
        rw [show (1 + (j : Int) - 1).toNat = j by omega, List.getD_eq_getElem?_getD, List.getElem?_eq_getElem (by omega)]
        rfl
      · rw [List.getElem?_eq_none (by rw [rangeI_len]; omega), List.getElem?_eq_none (by omega)]
        rfl
    rw [e]
    exact q
theorem hom_row {w : Str × Str × Str} (hw : WV w) {n i : Int} (hn : lst w ≤ n) (h0 : 0 ≤ i) (hi : i ≤ n) : hom 104 (L w.1) (L w.2.1) (L w.2.2) n.toNat i.toNat = cn 104 ((rw_ w n).take i.toNat) := by
  have g := @lst_ge w
  have := hw.m1
  exact (hom_eq 104 (by omega) (by omega) _ (by omega)).symm
theorem small_ok {w : Str × Str × Str} (hw : WV w) {k : Bool → Prop} (q : k true) : M_small_right w w k := by
  have g := @lst_ge w
  have g8 := lst_le hw
  have hb : (10 : Int) ^ 60 + 1000 ≥ 1000 := by decide
  unfold M_small_right
  refine least_ok hw (least_ok hw ?_)
  refine forC_ok (fun _ => True) (fun n hn s k' _ hk => ?_) trivial fun _ _ => ?_
  · obtain ⟨n1, n2⟩ := rangeI_mem hn
    have hl := rw_len n1
    refine line_ok hw n1 (by omega) fun z hz => ?_
    refine ⟨by rw [rangeI_len]; omega, marks_row hw n1 (by omega) ?_⟩
    have h1 : ∀ y ∈ (rw_ w n).map (fun c => Str.mk #[c]), y.length = 1 := fun y hy => by
      obtain ⟨c, _, e⟩ := List.mem_map.mp hy
      rw [← e]
      rfl
    refine ⟨?_, ?_⟩
    · rw [all_len h1, List.length_map, hl, len_L, L_empty]
      show n.toNat + n.toNat * 0 ≤ _
      omega
    · rw [eqS, join_L, flat_one, hz, if_neg (by simp)]
      refine ⟨by rw [rangeI_len]; omega, ?_⟩
      refine mapC_ok (fun x => cn 104 ((rw_ w n).take x.toNat)) (fun x hx k2 hk2 => ?_) ?_
      · obtain ⟨x1, x2⟩ := rangeI_mem hx
        refine homes_ok hw n1 x1 (by omega) (by omega) ?_
        rw [hom_row hw n1 x1 (by omega)]
        exact hk2
      · rw [List.nil_append]
        refine ⟨by rw [rangeI_len]; omega, ?_⟩
        refine mapC_ok (fun x => cn 104 ((rw_ w n).take x.toNat)) (fun x hx k2 hk2 => ?_) ?_
        · obtain ⟨x1, x2⟩ := rangeI_mem hx
          refine ⟨line_of (n := 6000) (by rw [hz]; omega) (by decide), ?_⟩
          rw [count_h, cut_take _ x1, hz]
          exact hk2
        · rw [List.nil_append]
          refine ⟨⟨ints_plain _, ints_plain _, ints_shaped _, ints_shaped _⟩, ?_⟩
          rw [SeqAt.eqv_refl _ (SeqAt.canLay_of_shaped (ints_shaped _)), if_neg (by decide)]
          exact hk () trivial
  · refine line_ok hw (by omega) (by decide) fun z hz => ?_
    have n1 : lst w ≤ 30 := by omega
    have hl := rw_len n1
    refine mark_ok hw n1 (by decide) (by decide) fun c hc => ?_
    have hc' : (rw_ w 30)[0]? = some c := hc
    refine ⟨line_of (n := 6000) (by rw [hz]; omega) (by decide), c, at_nat' (by decide) (by rw [show z.cps.toList = rw_ w 30 from hz]; exact hc'), ?_⟩
    rw [if_pos (by simp)]
    refine homes_ok hw n1 (by decide) (by decide) (by omega) ?_
    rw [hom_row hw n1 (by decide) (by decide), eqI, count_h, hz, List.take_of_length_le (by omega), dec_true rfl]
    exact q

theorem steps_ok {w : Str × Str × Str} (hw : WV w) {n x : Int} (hn : lst w ≤ n) (hb : n ≤ 10 ^ 60 + 1000) (h1 : 1 ≤ x) (h2 : x ≤ n) {k : Bool → Prop} (q : k true) : M_steps_right w n x k := by
  have hl := rw_len hn
  have g := @lst_ge w
  unfold M_steps_right
  refine homes_ok hw hn (by omega) h2 hb (homes_ok hw hn (by omega) (by omega) hb (mark_ok hw hn h1 h2 fun c hc => ?_))
  rw [hom_row hw hn (by omega) h2, hom_row hw hn (by omega) (by omega), eqI, eqS, L_one, L_h]
  rw [show x.toNat = (x - 1).toNat + 1 by omega, cn_succ 104 hc]
  have e : (cn 104 ((rw_ w n).take (x - 1).toNat) + (if c = 104 then 1 else 0) - cn 104 ((rw_ w n).take (x - 1).toNat)) = (if decide ([c] = [104]) = true then (1 : Int) else 0) := by
    by_cases h : c = 104
    · subst h
      simp
      omega
    · simp [h]
  rw [e, dec_true rfl]
  exact q
/-- the short size with the same rest -/
def SH (w : Str × Str × Str) (n s : Int) : Prop := (n ≤ lst w + 40 * (L w.2.1).length → s = n) ∧ (lst w + 40 * (L w.2.1).length < n → s = lst w + 40 * (L w.2.1).length + (n - (lst w + 40 * (L w.2.1).length)) % ((L w.2.1).length : Int))
theorem short_ok {w : Str × Str × Str} (hw : WV w) {n : Int} {k : Int → Prop} (q : ∀ s, SH w n s → k s) : M_short w n k := by
  have m1 := hw.m1
  have m4 := hw.m4
  unfold M_short
  refine least_ok hw ⟨line4 m4, fun s => SH w n s, ?_, fun r hr => q r hr⟩
  rw [len_L]
  by_cases c : n ≤ lst w + 40 * ((L w.2.1).length : Int)
  · rw [if_pos (dec_true c)]
    exact ⟨fun _ => rfl, fun h => by omega⟩
  · rw [if_neg (by simpa using c)]
    exact ⟨line4 m4, by omega, fun h => by omega, fun _ => rfl⟩
theorem mod_same {a b : Nat} {m : Nat} (h : ((a : Int) - b) % (m : Int) = 0) : a % m = b % m := by
  obtain ⟨z, hz⟩ := Int.dvd_of_emod_eq_zero h
  have : ((a : Int)) % (m : Int) = (b : Int) % (m : Int) := by
    rw [show (a : Int) = b + m * z by omega, Int.add_mul_emod_self_left]
  omega
theorem place_ok {w : Str × Str × Str} (hw : WV w) {n s x : Int} (hn : lst w ≤ n) (hs : SH w n s) (h1 : 1 ≤ x) (h2 : x ≤ n) {k : Int → Prop} (q : ∀ p : Int, 1 ≤ p → p ≤ s → (rw_ w s)[(p - 1).toNat]? = (rw_ w n)[(x - 1).toNat]? → k p) : M_place_in w n s x k := by
  have g := @lst_ge w
  have m1 := hw.m1
  have m4 := hw.m4
  have hm : 0 < (L w.2.1).length := by omega
  have hm' : (0 : Int) < ((L w.2.1).length : Int) := by omega
  obtain ⟨s1, s2⟩ := hs
  unfold M_place_in
  refine ⟨line4 hw.h4, line4 m4, ?_⟩
  rw [len_L, len_L]
  have nn : (n.toNat : Int) = n := by omega
  generalize hM : ((L w.2.1).length : Int) = M at *
  have hMn : (L w.2.1).length = M.toNat := by omega
  -- s, and how far n is from it
  have hsn : lst w ≤ s ∧ s ≤ n ∧ (n - s) % M = 0 ∧ (n = s ∨ lst w + 40 * M ≤ s) := by
    by_cases c : n ≤ lst w + 40 * M
    · have e := s1 c
      subst e
      exact ⟨hn, by omega, by rw [Int.sub_self]; exact Int.zero_emod _, .inl rfl⟩
    · have e := s2 (by omega)
      have r0 := Int.emod_nonneg (n - (lst w + 40 * M)) (by omega : M ≠ 0)
      have r1 := Int.emod_lt_of_pos (n - (lst w + 40 * M)) hm'
      have r2 := Int.mul_ediv_add_emod (n - (lst w + 40 * M)) M
      have r3 : 0 ≤ (n - (lst w + 40 * M)) / M := Int.ediv_nonneg (by omega) (by omega)
      have r4 : 0 ≤ M * ((n - (lst w + 40 * M)) / M) := Int.mul_nonneg (by omega) r3
      refine ⟨by omega, by omega, ?_, .inr (by omega)⟩
      have e2 : n - s = M * ((n - (lst w + 40 * M)) / M) := by omega
      rw [e2]
      exact Int.mul_emod_right _ _
  obtain ⟨a1, a2, a3, a4⟩ := hsn
  have mid : ∀ p : Int, ((L w.1).length : Int) < p → p ≤ s - ((L w.2.2).length : Int) → ((L w.1).length : Int) < x → x ≤ n - ((L w.2.2).length : Int) → (x - p) % M = 0 → (rw_ w s)[(p - 1).toNat]? = (rw_ w n)[(x - 1).toNat]? := fun p p1 p2 x1 x2 hd => by
    rw [row_mid hm (by omega) (by omega) (by omega), row_mid hm (by omega) (by omega) (by omega)]
    congr 1
    refine (mod_same ?_).symm
    rw [hM, ← hd]
    congr 1
    omega
  by_cases c1 : x ≤ ((L w.1).length : Int) + 20 * M
  · rw [if_pos (dec_true c1)]
    refine q x h1 (by omega) ?_
    by_cases c2 : x ≤ ((L w.1).length : Int)
    · rw [row_head (by omega), row_head (by omega)]
    · rcases a4 with e | e
      · rw [e]
      · exact mid x (by omega) (by omega) (by omega) (by omega) (by rw [Int.sub_self]; exact Int.zero_emod _)
  · rw [if_neg (by simpa using c1)]
    refine ⟨line4 m4, line4 hw.h4, ?_⟩
    by_cases c2 : n - x < s - 20 * M - ((L w.1).length : Int)
    · rw [if_pos (dec_true c2)]
      refine q _ (by omega) (by omega) ?_
      by_cases c3 : n - x < ((L w.2.2).length : Int)
      · rw [row_tail (by omega) (by omega), row_tail (by omega) (by omega)]
        congr 1
        omega
      · refine mid _ (by omega) (by omega) (by omega) (by omega) ?_
        rw [← a3]
        congr 1
        omega
    · rw [if_neg (by simpa using c2)]
      have r0 := Int.emod_nonneg (x - ((L w.1).length : Int) - 1) (by omega : M ≠ 0)
      have r1 := Int.emod_lt_of_pos (x - ((L w.1).length : Int) - 1) hm'
      have r2 := Int.mul_ediv_add_emod (x - ((L w.1).length : Int) - 1) M
      refine ⟨line4 hw.h4, line4 hw.h4, line4 m4, hm', q _ (by omega) (by omega) (mid _ (by omega) (by omega) (by omega) (by omega) ?_)⟩
      have e : x - (((L w.1).length : Int) + 1 + (x - ((L w.1).length : Int) - 1) % M) = M * ((x - ((L w.1).length : Int) - 1) / M) := by omega
      rw [e]
      exact Int.mul_emod_right _ _
theorem gright_ok {w : Str × Str × Str} (hw : WV w) {n : Int} (hn : lst w ≤ n) (hb : n ≤ 10 ^ 60 + 1000) {k : Bool → Prop} (q : k true) : M_great_right w w n k := by
  have g := @lst_ge w
  have g8 := lst_le hw
  have m1 := hw.m1
  have m4 := hw.m4
  have hl := rw_len hn
  unfold M_great_right
  refine short_ok hw fun s hs => ?_
  have hsb : lst w ≤ s ∧ s ≤ 5000 := by
    obtain ⟨s1, s2⟩ := hs
    by_cases c : n ≤ lst w + 40 * ((L w.2.1).length : Int)
    · have := s1 c
      omega
    · have := s2 (by omega)
      have r0 := Int.emod_nonneg (n - (lst w + 40 * ((L w.2.1).length : Int))) (by omega : ((L w.2.1).length : Int) ≠ 0)
      have r1 := Int.emod_lt_of_pos (n - (lst w + 40 * ((L w.2.1).length : Int))) (by omega : (0 : Int) < ((L w.2.1).length : Int))
      omega
  refine line_ok hw hsb.1 hsb.2 fun z hz => ?_
  have hls := rw_len hsb.1
  refine great_ok (by decide) (by decide) fun a a0 a1 => ⟨by omega, by simp, ?_⟩
  refine filC_ok (fun x => if 1 ≤ x ∧ x ≤ n then some x else none) (fun x _ k' hk => ?_) ?_
  · by_cases c1 : 1 ≤ x
    · rw [if_pos (dec_true c1)]
      by_cases c2 : x ≤ n
      · rw [if_pos (dec_true c2)]
        rw [if_pos ⟨c1, c2⟩] at hk
        exact hk
      · rw [if_neg (by simpa using c2)]
        rw [if_neg (fun h => c2 h.2)] at hk
        exact hk
    · rw [if_neg (by simpa using c1)]
      rw [if_neg (fun h => c1 h.1)] at hk
      exact hk
  · rw [List.nil_append]
    refine forC_ok (fun _ => True) (fun x hx s' k' _ hk => ?_) trivial fun _ _ => q
    obtain ⟨y, _, hy⟩ := List.mem_filterMap.mp hx
    have hxb : 1 ≤ x ∧ x ≤ n := by
      by_cases c : 1 ≤ y ∧ y ≤ n
      · rw [if_pos c] at hy
        have := Option.some.inj hy
        omega
      · rw [if_neg c] at hy
        cases hy
    refine place_ok hw hn hs hxb.1 hxb.2 fun p p1 p2 hp => ?_
    obtain ⟨c, hc⟩ : ∃ c, (rw_ w n)[(x - 1).toNat]? = some c := ⟨_, List.getElem?_eq_getElem (by omega)⟩
    refine ⟨line_of (n := 6000) (by rw [hz]; omega) (by decide), c, at_nat' (by omega) (by rw [show z.cps.toList = rw_ w s from hz, hp]; exact hc), ?_⟩
    refine mark_ok hw hn hxb.1 hxb.2 fun c' hc' => ?_
    rw [hc] at hc'
    have ec : c = c' := Option.some.inj hc'
    subst ec
    rw [if_neg (by simp)]
    refine steps_ok hw hn hb hxb.1 hxb.2 ?_
    rw [if_neg (by decide)]
    exact hk () trivial

theorem rounds_ok {w : Str × Str × Str} (hw : WV w) {n : Int} (hn : lst w ≤ n) (hb : n ≤ 10 ^ 60 + 1000) {k : Bool → Prop} (q : k true) : M_rounds_right w w n k := by
  have g := @lst_ge w
  have m1 := hw.m1
  have m4 := hw.m4
  have hm : 0 < (L w.2.1).length := by omega
  have hm' : (0 : Int) < ((L w.2.1).length : Int) := by omega
  have c0 := cn_pos 104 (L w.2.1)
  have c1 := cn_le 104 (L w.2.1)
  unfold M_rounds_right
  refine ⟨line4 hw.h4, line4 hw.t4, line4 m4, ?_⟩
  rw [len_L, len_L, len_L, count_h, count_h, count_h]
  by_cases c : n - ((L w.2.2).length : Int) - ((L w.1).length : Int) < ((L w.2.1).length : Int)
  · rw [if_pos (dec_true c)]
    exact q
  · rw [if_neg (by simpa using c)]
    generalize hE : n - ((L w.2.2).length : Int) - ((L w.1).length : Int) = E at *
    refine great_ok (by decide) (by decide) fun a a0 a1 => ⟨by omega, ?_⟩
    have r0 := Int.emod_nonneg a (by omega : E - ((L w.2.1).length : Int) + 1 ≠ 0)
    have r1 := Int.emod_lt_of_pos a (by omega : 0 < E - ((L w.2.1).length : Int) + 1)
    generalize hR : a % (E - ((L w.2.1).length : Int) + 1) = R at *
    have midh : ∀ x : Int, 0 ≤ x → x ≤ E → hom 104 (L w.1) (L w.2.1) (L w.2.2) n.toNat (((L w.1).length : Int) + x).toNat = cn 104 (L w.1) + cyn 104 (L w.2.1) x.toNat := fun x x0 x1 => by
      unfold hom
      rw [List.take_of_length_le (by omega), show (((L w.1).length : Int) + x).toNat - (n.toNat - (L w.2.2).length) = 0 by omega, List.take_zero, cn_nil,
        show min (((L w.1).length : Int) + x).toNat (n.toNat - (L w.2.2).length) - (L w.1).length = x.toNat by omega]
      omega
    have d1 : CDivW E ((L w.2.1).length : Int) := wide_div hm' (b := 4) (by omega) (by decide) (by decide)
    have q0 : 0 ≤ E / ((L w.2.1).length : Int) := Int.ediv_nonneg (by omega) (by omega)
    have q1 : E / ((L w.2.1).length : Int) ≤ E := Int.ediv_le_self _ (by omega)
    have q2 : E / ((L w.2.1).length : Int) * ((L w.2.1).length : Int) ≤ E := Int.ediv_mul_le _ (by omega)
    have q3 : 0 ≤ E / ((L w.2.1).length : Int) * ((L w.2.1).length : Int) := Int.mul_nonneg q0 (by omega)
    refine homes_ok hw hn (by omega) (by omega) hb (homes_ok hw hn (by omega) (by omega) hb ?_)
    rw [Int.add_assoc, midh _ (by omega) (by omega), midh _ (by omega) (by omega), show (R + ((L w.2.1).length : Int)).toNat = R.toNat + (L w.2.1).length by omega, cyn_add 104 hm, eqI]
    rw [if_neg (by simp; omega)]
    refine ⟨d1, cm3 (a := 201) (nat_lt_200 q0 (by omega)) (by decide) (by omega) (by decide), cm3 (a := 201) (nat_lt_200 q0 (by omega)) (by decide) (by omega) (by decide), ?_⟩
    refine homes_ok hw hn (by omega) (by omega) hb ?_
    have e1 : (E / ((L w.2.1).length : Int) * ((L w.2.1).length : Int)).toNat = (E / ((L w.2.1).length : Int)).toNat * (L w.2.1).length := by
      have e2 : E / ((L w.2.1).length : Int) = (((E / ((L w.2.1).length : Int)).toNat : Nat) : Int) := by omega
      rw [e2, ← Int.natCast_mul]
      rfl
    rw [midh _ q3 q2, e1, cyn_mul 104 hm, eqI, show (((E / ((L w.2.1).length : Int)).toNat : Nat) : Int) = E / ((L w.2.1).length : Int) by omega]
    rw [if_neg (by simp)]
    refine homes_ok hw hn (by omega) (by omega) hb ?_
    have m0 := midh 0 (by decide) (by omega)
    rw [Int.add_zero] at m0
    rw [m0, show (0 : Int).toNat = 0 from rfl, show cyn 104 (L w.2.1) 0 = 0 by rw [← cyn_eq 104 hm]; rfl, eqI]
    rw [if_neg (by simp)]
    refine homes_ok hw hn (by omega) (by omega) hb (homes_ok hw hn (by omega) (by omega) hb ?_)
    have e3 : hom 104 (L w.1) (L w.2.1) (L w.2.2) n.toNat n.toNat - hom 104 (L w.1) (L w.2.1) (L w.2.2) n.toNat (n - ((L w.2.2).length : Int)).toNat = cn 104 (L w.2.2) := by
      unfold hom
      rw [List.take_of_length_le (by omega), List.take_of_length_le (l := L w.1) (i := (n - ((L w.2.2).length : Int)).toNat) (by omega), List.take_of_length_le (l := L w.2.2) (by omega),
        show (n - ((L w.2.2).length : Int)).toNat - (n.toNat - (L w.2.2).length) = 0 by omega, List.take_zero, cn_nil,
        show min n.toNat (n.toNat - (L w.2.2).length) = min (n - ((L w.2.2).length : Int)).toNat (n.toNat - (L w.2.2).length) by omega]
      omega
    rw [e3, eqI, if_pos (dec_true rfl)]
    refine homes_ok hw hn (by decide) (by omega) hb ?_
    have e4 : hom 104 (L w.1) (L w.2.1) (L w.2.2) n.toNat (Int.toNat 0) = 0 := by
      unfold hom
      rw [show Int.toNat 0 = 0 from rfl, List.take_zero, cn_nil, Nat.zero_min, Nat.zero_sub, Nat.zero_sub, List.take_zero, cn_nil, show cyn 104 (L w.2.1) 0 = 0 by rw [← cyn_eq 104 hm]; rfl]
      rfl
    rw [e4, eqI, dec_true rfl]
    exact q
theorem right_true : M_right (fun r => r = true) := by
  have hb : (10 : Int) ^ 60 ≥ 1000 := by decide
  unfold M_right
  refine forC_ok (fun _ => True) (fun x _ s k' _ hk => ?_) trivial fun _ _ => rfl
  refine parts_ok fun w hw => ⟨word_ok hw, small_ok hw ?_⟩
  have g := @lst_ge w
  have g8 := lst_le hw
  rw [if_neg (by decide)]
  refine least_ok hw (great_ok (by omega) (by omega) fun a a0 a1 => least_ok hw (draw_ok (by decide) (by decide) fun d d0 d1 => ?_))
  refine forC_ok (fun _ => True) (fun n hn s2 k2 _ hk2 => ?_) trivial fun _ _ => hk () trivial
  have nb : lst w ≤ n ∧ n ≤ 10 ^ 60 + 1000 := by
    rcases List.mem_cons.mp hn with e | hn
    · omega
    · have e := List.mem_singleton.mp hn
      omega
  refine gright_ok hw nb.1 nb.2 ?_
  rw [if_neg (by decide)]
  refine rounds_ok hw nb.1 nb.2 ?_
  rw [if_neg (by decide)]
  exact hk2 () trivial

def sp_law (K : PySem.W.Frag) : Sp := fun vs H Q _ => ∃ (a : Addr) (ns : List Int), vs = [.ref a] ∧ SqL K H a (ns.map V.int) ∧ ns.length ≤ 63 ∧ ∀ H1 : Hp, Q (.bl true) H1
theorem law_enter {K : PySem.W.Frag} {H : Hp} {a : Addr} {ns : List Int} (hl : ns.length ≤ 63) (_ : Only H) (hS : SqL K H a (ns.map V.int)) : sp_law K [.ref a] H (fun v _ => v = .bl true) fun _ _ _ => False := ⟨a, ns, rfl, hS, hl, fun _ => rfl⟩
theorem sq_keep {K : PySem.W.Frag} {H H1 : Hp} {a : Addr} {xs : List V} (k : ∀ b o, H b = some o → H1 b = some o) (h : SqL K H a xs) : SqL K H1 a xs := by
  rcases h with (h | ⟨o, h⟩) | h
  · exact .inl (.inl (k _ _ h))
  · exact .inl (.inr ⟨o, k _ _ h⟩)
  · exact .inr h
theorem ok_law {P : Program} {w : World} {K : PySem.W.Frag} {mg : Str → Option Value} {base : Heap} {A : Ad} (T : Txt w K mg A) : FnOk P w K mg base CX0 8 A.a_law A.d_law ["_law_script"] (sp_law K) := by
  refine T.F_law.ok sc_law (fun vs H Q E h => ?_) (fun cdv A_ outer s_ H_0 vs Q E hr h => ?_)
  · obtain ⟨a, ns, rfl, _⟩ := h
    rfl
  · obtain ⟨a, ns, rfl, hS, hl, hQ⟩ := h
    refine ⟨_, pss_one (ps_ret (pe_callB (cr_all rfl) (by rfl) T.z_all (by decide +kernel) (pa_cons (pe_lc (own := [("_law_k", 1)]) (g := gName 1) rfl sc_law.nd
      (pi_range1 (by rfl) T.z_range (pa_cons (pe_callB (call_max2 rfl) (by rfl) T.z_max (by decide +kernel) (pa_cons pe_int (pa_cons (pe_callB (call_min2 rfl) (by rfl) T.z_min (by decide +kernel) (pa_cons (pe_callB call_len (by rfl) T.z_len PySem.boot_len (pa_cons (pv 0) pa_nil)) (pa_cons pe_int pa_nil))) pa_nil))) pa_nil))
      (blkOk_by (N := ["_law_script", "_law_k"]) (sc := defScope s_law) (by decide +kernel)) (fun _ _ _ _ _ => pg_name (i := 1) sc_law.nd rfl (by first | exact Or.inl rfl | exact Or.inr rfl)) (fun _ _ _ _ _ => pts_nil)
      (fun _ _ _ _ _ => pe_call (ok_right T) (hr.mono (by decide)) (by rfl) T.g_right T.F_right.kp T.b_right .nil pass0 (pa_cons (pe_call (ok_pot T) (hr.mono (by decide)) (by rfl) T.g_pot T.F_pot.kp T.b_pot .nil pass0 (pa_cons (pv 0) (pa_cons (pv 1) pa_nil))) pa_nil))) pa_nil))), ?_⟩
    refine ⟨_, rfl, _, ns.length, rfl, .inl ⟨_, hS, by rw [List.length_map]⟩, _, _, rfl, _, _, rfl, _, rfl, ?_, ?_, fun L nl => ?_⟩
    · split <;> split <;> omega
    · split <;> split <;> omega
    have hsq : ∀ H : Hp, (∀ o, H_0 a = some o → H a = some o) → SqL K H a (ns.map V.int) := fun H k => by
      rcases hS with (h | ⟨o, h⟩) | h
      · exact .inl (.inl (k _ h))
      · exact .inl (.inr ⟨o, k _ h⟩)
      · exact .inr h
    refine lc_range (lo := 0) (fun i H => (∀ o, H_0 a = some o → H a = some o) ∧ ∃ n, n ≤ i ∧ H L = some (.lst (List.replicate n (.bl true)))) ⟨fun o h => (Rx.Ext.new nl).keep h, 0, Nat.le_refl _, upd_same⟩ (fun i H hi ⟨hS1, n, hn, hL⟩ => ?_) (fun H ⟨hS1, n, hn, hL⟩ => ?_)
    · refine ⟨rfl, ?_⟩
      refine tyes_of ?_
      have hi4 : i < 64 := by
        refine Nat.lt_of_lt_of_le hi ?_
        split <;> split <;> omega
      refine ⟨_, rfl, _, rfl, a, ns, 0 + (i : Int), rfl, hsq H hS1, hl, by omega, by omega, fun p H1 i1 j1 np e1 hp hj => ?_⟩
      refine ⟨[p], p, fun r => r = true, rfl, ⟨fun _ _ _ h => h, fun _ h => h, fun m hm => ?_, fun b hb => ?_, fun b hb => hb, fun c hc => absurd hc List.not_mem_nil⟩, right_true, fun r u H2 hr2 e2 hu => ?_⟩
      · rw [List.mem_singleton.mp hm, hp]
        exact fun z => nomatch z
      · rw [List.mem_singleton.mp hb]
        exact ⟨i1, j1, hp, hj⟩
      · obtain rfl := of_v hu
        have e3 : ∀ b o, H b = some o → H2 b = some o := fun b o h => e2.kp b o (fun z => by
          rw [List.mem_singleton.mp z, np] at h
          cases h) (e1.keep h)
        refine ⟨_, e3 _ _ hL, ?_, fun o h => ?_, n + 1, Nat.succ_le_succ hn, by rw [upd_same, hr2, List.replicate_succ']⟩
        · rw [List.length_replicate]
          exact Nat.lt_of_le_of_lt (show n ≤ 64 by omega) (by decide)
        · rw [upd_ne (ne_of_none h nl)]
          exact e3 _ _ (hS1 _ h)
    · refine ⟨L, List.replicate n true, rfl, .inl (.inl (by rw [List.map_replicate]; exact hL)), ?_⟩
      have : (List.replicate n true).all id = true := by
        rw [List.all_eq_true]
        intro x hx
        rw [(List.mem_replicate.mp hx).2]
        rfl
      rw [this]
      exact hQ _

theorem all_mk {l : PySem.W.OpenLaw} {w : World} {K : PySem.W.Frag} {h : Heap} {mg : Str → Option Value} {fa Ais_marks Acheck_part Adraw Asigns Aparts Aleast Aline Ais_integer AWord_least Acheck_places AWord_mark Atimes_said AWord_homes Asmall_right Apick Agreat Ashort Aplace_in Asteps_right Agreat_right Arounds_right Aright Apot Alaw AWord_init CWord : Addr} (X : K.In h) (G : h.Ns mainGlobals mg) (hfa : mg "law" = some (.ref fa))
    {odis_marks anis_marks : Option Addr} {slis_marks : Array (Option Value)} {ocis_marks kVis_marks dcis_marks pmis_marks cdis_marks ctis_marks : Value}
    {odcheck_part ancheck_part : Option Addr} {slcheck_part : Array (Option Value)} {occheck_part kVcheck_part dccheck_part pmcheck_part cdcheck_part ctcheck_part : Value}
    {oddraw andraw : Option Addr} {sldraw : Array (Option Value)} {ocdraw kVdraw dcdraw pmdraw cddraw ctdraw : Value}
    {odsigns ansigns : Option Addr} {slsigns : Array (Option Value)} {ocsigns kVsigns dcsigns pmsigns cdsigns ctsigns : Value}
    {odparts anparts : Option Addr} {slparts : Array (Option Value)} {ocparts kVparts dcparts pmparts cdparts ctparts : Value}
    {odleast anleast : Option Addr} {slleast : Array (Option Value)} {ocleast kVleast dcleast pmleast cdleast ctleast : Value}
    {odline anline : Option Addr} {slline : Array (Option Value)} {ocline kVline dcline pmline cdline ctline : Value}
    {odis_integer anis_integer : Option Addr} {slis_integer : Array (Option Value)} {ocis_integer kVis_integer dcis_integer pmis_integer cdis_integer ctis_integer : Value}
    {PWord_least : Addr}
    {RWord_least : List Value}
    {odWord_least anWord_least : Option Addr} {slWord_least : Array (Option Value)} {ocWord_least kVWord_least dcWord_least pmWord_least cdWord_least ctWord_least : Value}
    {odcheck_places ancheck_places : Option Addr} {slcheck_places : Array (Option Value)} {occheck_places kVcheck_places dccheck_places pmcheck_places cdcheck_places ctcheck_places : Value}
    {odWord_mark anWord_mark : Option Addr} {slWord_mark : Array (Option Value)} {ocWord_mark kVWord_mark dcWord_mark pmWord_mark cdWord_mark ctWord_mark : Value}
    {odtimes_said antimes_said : Option Addr} {sltimes_said : Array (Option Value)} {octimes_said kVtimes_said dctimes_said pmtimes_said cdtimes_said cttimes_said : Value}
    {odWord_homes anWord_homes : Option Addr} {slWord_homes : Array (Option Value)} {ocWord_homes kVWord_homes dcWord_homes pmWord_homes cdWord_homes ctWord_homes : Value}
    {odsmall_right ansmall_right : Option Addr} {slsmall_right : Array (Option Value)} {ocsmall_right kVsmall_right dcsmall_right pmsmall_right cdsmall_right ctsmall_right : Value}
    {odpick anpick : Option Addr} {slpick : Array (Option Value)} {ocpick kVpick dcpick pmpick cdpick ctpick : Value}
    {odgreat angreat : Option Addr} {slgreat : Array (Option Value)} {ocgreat kVgreat dcgreat pmgreat cdgreat ctgreat : Value}
    {odshort anshort : Option Addr} {slshort : Array (Option Value)} {ocshort kVshort dcshort pmshort cdshort ctshort : Value}
    {odplace_in anplace_in : Option Addr} {slplace_in : Array (Option Value)} {ocplace_in kVplace_in dcplace_in pmplace_in cdplace_in ctplace_in : Value}
    {odsteps_right ansteps_right : Option Addr} {slsteps_right : Array (Option Value)} {ocsteps_right kVsteps_right dcsteps_right pmsteps_right cdsteps_right ctsteps_right : Value}
    {odgreat_right angreat_right : Option Addr} {slgreat_right : Array (Option Value)} {ocgreat_right kVgreat_right dcgreat_right pmgreat_right cdgreat_right ctgreat_right : Value}
    {odrounds_right anrounds_right : Option Addr} {slrounds_right : Array (Option Value)} {ocrounds_right kVrounds_right dcrounds_right pmrounds_right cdrounds_right ctrounds_right : Value}
    {odright anright : Option Addr} {slright : Array (Option Value)} {ocright kVright dcright pmright cdright ctright : Value}
    {odpot anpot : Option Addr} {slpot : Array (Option Value)} {ocpot kVpot dcpot pmpot cdpot ctpot : Value}
    {odlaw anlaw : Option Addr} {sllaw : Array (Option Value)} {oclaw kVlaw dclaw pmlaw cdlaw ctlaw : Value}
    {odWord_init anWord_init : Option Addr} {slWord_init : Array (Option Value)} {ocWord_init kVWord_init dcWord_init pmWord_init cdWord_init ctWord_init : Value}
    {tMOST_MARKS : Tok}
    (a_is_marks : PySem.W.nsIn K mainGlobals "is_marks" = some (some (.ref Ais_marks)))
    (l_is_marks : K.lookup Ais_marks = some ⟨ocis_marks, odis_marks, .func (PySem.W.fnOf "is_marks" "is_marks" (defArgs s_is_marks) (defBody s_is_marks) (defScope s_is_marks) .none kVis_marks dcis_marks pmis_marks anis_marks cdis_marks ctis_marks), slis_marks⟩)
    (o_is_marks : PySem.W.codeIn K cdis_marks "is_marks" = true)
    (k_is_marks : PySem.W.keepIn K (.ref Ais_marks) = true)
    (a_check_part : PySem.W.nsIn K mainGlobals "_check_part" = some (some (.ref Acheck_part)))
    (l_check_part : K.lookup Acheck_part = some ⟨occheck_part, odcheck_part, .func (PySem.W.fnOf "_check_part" "_check_part" (defArgs s_check_part) (defBody s_check_part) (defScope s_check_part) .none kVcheck_part dccheck_part pmcheck_part ancheck_part cdcheck_part ctcheck_part), slcheck_part⟩)
    (o_check_part : PySem.W.codeIn K cdcheck_part "_check_part" = true)
    (k_check_part : PySem.W.keepIn K (.ref Acheck_part) = true)
    (a_draw : PySem.W.nsIn K mainGlobals "_law_draw" = some (some (.ref Adraw)))
    (l_draw : K.lookup Adraw = some ⟨ocdraw, oddraw, .func (PySem.W.fnOf "_law_draw" "_law_draw" (defArgs s_draw) (defBody s_draw) (defScope s_draw) .none kVdraw dcdraw pmdraw andraw cddraw ctdraw), sldraw⟩)
    (o_draw : PySem.W.codeIn K cddraw "_law_draw" = true)
    (k_draw : PySem.W.keepIn K (.ref Adraw) = true)
    (a_signs : PySem.W.nsIn K mainGlobals "_law_signs" = some (some (.ref Asigns)))
    (l_signs : K.lookup Asigns = some ⟨ocsigns, odsigns, .func (PySem.W.fnOf "_law_signs" "_law_signs" (defArgs s_signs) (defBody s_signs) (defScope s_signs) .none kVsigns dcsigns pmsigns ansigns cdsigns ctsigns), slsigns⟩)
    (o_signs : PySem.W.codeIn K cdsigns "_law_signs" = true)
    (k_signs : PySem.W.keepIn K (.ref Asigns) = true)
    (a_parts : PySem.W.nsIn K mainGlobals "_law_parts" = some (some (.ref Aparts)))
    (l_parts : K.lookup Aparts = some ⟨ocparts, odparts, .func (PySem.W.fnOf "_law_parts" "_law_parts" (defArgs s_parts) (defBody s_parts) (defScope s_parts) .none kVparts dcparts pmparts anparts cdparts ctparts), slparts⟩)
    (o_parts : PySem.W.codeIn K cdparts "_law_parts" = true)
    (k_parts : PySem.W.keepIn K (.ref Aparts) = true)
    (a_least : PySem.W.nsIn K mainGlobals "_law_least" = some (some (.ref Aleast)))
    (l_least : K.lookup Aleast = some ⟨ocleast, odleast, .func (PySem.W.fnOf "_law_least" "_law_least" (defArgs s_least) (defBody s_least) (defScope s_least) .none kVleast dcleast pmleast anleast cdleast ctleast), slleast⟩)
    (o_least : PySem.W.codeIn K cdleast "_law_least" = true)
    (k_least : PySem.W.keepIn K (.ref Aleast) = true)
    (a_line : PySem.W.nsIn K mainGlobals "_law_line" = some (some (.ref Aline)))
    (l_line : K.lookup Aline = some ⟨ocline, odline, .func (PySem.W.fnOf "_law_line" "_law_line" (defArgs s_line) (defBody s_line) (defScope s_line) .none kVline dcline pmline anline cdline ctline), slline⟩)
    (o_line : PySem.W.codeIn K cdline "_law_line" = true)
    (k_line : PySem.W.keepIn K (.ref Aline) = true)
    (a_is_integer : PySem.W.nsIn K mainGlobals "is_integer" = some (some (.ref Ais_integer)))
    (l_is_integer : K.lookup Ais_integer = some ⟨ocis_integer, odis_integer, .func (PySem.W.fnOf "is_integer" "is_integer" (defArgs s_is_integer) (defBody s_is_integer) (defScope s_is_integer) .none kVis_integer dcis_integer pmis_integer anis_integer cdis_integer ctis_integer), slis_integer⟩)
    (o_is_integer : PySem.W.codeIn K cdis_integer "is_integer" = true)
    (k_is_integer : PySem.W.keepIn K (.ref Ais_integer) = true)
    (pa_Word_least : PySem.W.findIn K (.ref CWord) "least" = some (some (.ref PWord_least)))
    (pg_Word_least : PySem.W.specialIn K (.ref PWord_least) "__get__" = some (some (.builtin "property.__get__")))
    (pt_Word_least : PySem.W.takesIn K (.ref PWord_least) = some true)
    (pr_Word_least : PySem.W.recIn K PWord_least "property" = some (.ref AWord_least :: RWord_least))
    (l_Word_least : K.lookup AWord_least = some ⟨ocWord_least, odWord_least, .func (PySem.W.fnOf "least" "Word.least" (defArgs s_Word_least) (defBody s_Word_least) (defScope s_Word_least) .none kVWord_least dcWord_least pmWord_least anWord_least cdWord_least ctWord_least), slWord_least⟩)
    (o_Word_least : PySem.W.codeIn K cdWord_least "Word.least" = true)
    (k_Word_least : PySem.W.keepIn K (.ref AWord_least) = true)
    (a_check_places : PySem.W.nsIn K mainGlobals "_check_places" = some (some (.ref Acheck_places)))
    (l_check_places : K.lookup Acheck_places = some ⟨occheck_places, odcheck_places, .func (PySem.W.fnOf "_check_places" "_check_places" (defArgs s_check_places) (defBody s_check_places) (defScope s_check_places) .none kVcheck_places dccheck_places pmcheck_places ancheck_places cdcheck_places ctcheck_places), slcheck_places⟩)
    (o_check_places : PySem.W.codeIn K cdcheck_places "_check_places" = true)
    (k_check_places : PySem.W.keepIn K (.ref Acheck_places) = true)
    (a_Word_mark : PySem.W.findIn K (.ref CWord) "mark" = some (some (.ref AWord_mark)))
    (i_Word_mark : PySem.W.isFn K (.ref AWord_mark) = true)
    (l_Word_mark : K.lookup AWord_mark = some ⟨ocWord_mark, odWord_mark, .func (PySem.W.fnOf "mark" "Word.mark" (defArgs s_Word_mark) (defBody s_Word_mark) (defScope s_Word_mark) .none kVWord_mark dcWord_mark pmWord_mark anWord_mark cdWord_mark ctWord_mark), slWord_mark⟩)
    (o_Word_mark : PySem.W.codeIn K cdWord_mark "Word.mark" = true)
    (k_Word_mark : PySem.W.keepIn K (.ref AWord_mark) = true)
    (a_times_said : PySem.W.nsIn K mainGlobals "times_said" = some (some (.ref Atimes_said)))
    (l_times_said : K.lookup Atimes_said = some ⟨octimes_said, odtimes_said, .func (PySem.W.fnOf "times_said" "times_said" (defArgs s_times_said) (defBody s_times_said) (defScope s_times_said) .none kVtimes_said dctimes_said pmtimes_said antimes_said cdtimes_said cttimes_said), sltimes_said⟩)
    (o_times_said : PySem.W.codeIn K cdtimes_said "times_said" = true)
    (k_times_said : PySem.W.keepIn K (.ref Atimes_said) = true)
    (a_Word_homes : PySem.W.findIn K (.ref CWord) "homes" = some (some (.ref AWord_homes)))
    (i_Word_homes : PySem.W.isFn K (.ref AWord_homes) = true)
    (l_Word_homes : K.lookup AWord_homes = some ⟨ocWord_homes, odWord_homes, .func (PySem.W.fnOf "homes" "Word.homes" (defArgs s_Word_homes) (defBody s_Word_homes) (defScope s_Word_homes) .none kVWord_homes dcWord_homes pmWord_homes anWord_homes cdWord_homes ctWord_homes), slWord_homes⟩)
    (o_Word_homes : PySem.W.codeIn K cdWord_homes "Word.homes" = true)
    (k_Word_homes : PySem.W.keepIn K (.ref AWord_homes) = true)
    (a_small_right : PySem.W.nsIn K mainGlobals "_law_small_right" = some (some (.ref Asmall_right)))
    (l_small_right : K.lookup Asmall_right = some ⟨ocsmall_right, odsmall_right, .func (PySem.W.fnOf "_law_small_right" "_law_small_right" (defArgs s_small_right) (defBody s_small_right) (defScope s_small_right) .none kVsmall_right dcsmall_right pmsmall_right ansmall_right cdsmall_right ctsmall_right), slsmall_right⟩)
    (o_small_right : PySem.W.codeIn K cdsmall_right "_law_small_right" = true)
    (k_small_right : PySem.W.keepIn K (.ref Asmall_right) = true)
    (a_pick : PySem.W.nsIn K mainGlobals "_law_pick" = some (some (.ref Apick)))
    (l_pick : K.lookup Apick = some ⟨ocpick, odpick, .func (PySem.W.fnOf "_law_pick" "_law_pick" (defArgs s_pick) (defBody s_pick) (defScope s_pick) .none kVpick dcpick pmpick anpick cdpick ctpick), slpick⟩)
    (o_pick : PySem.W.codeIn K cdpick "_law_pick" = true)
    (k_pick : PySem.W.keepIn K (.ref Apick) = true)
    (a_great : PySem.W.nsIn K mainGlobals "_law_great" = some (some (.ref Agreat)))
    (l_great : K.lookup Agreat = some ⟨ocgreat, odgreat, .func (PySem.W.fnOf "_law_great" "_law_great" (defArgs s_great) (defBody s_great) (defScope s_great) .none kVgreat dcgreat pmgreat angreat cdgreat ctgreat), slgreat⟩)
    (o_great : PySem.W.codeIn K cdgreat "_law_great" = true)
    (k_great : PySem.W.keepIn K (.ref Agreat) = true)
    (a_short : PySem.W.nsIn K mainGlobals "_law_short" = some (some (.ref Ashort)))
    (l_short : K.lookup Ashort = some ⟨ocshort, odshort, .func (PySem.W.fnOf "_law_short" "_law_short" (defArgs s_short) (defBody s_short) (defScope s_short) .none kVshort dcshort pmshort anshort cdshort ctshort), slshort⟩)
    (o_short : PySem.W.codeIn K cdshort "_law_short" = true)
    (k_short : PySem.W.keepIn K (.ref Ashort) = true)
    (a_place_in : PySem.W.nsIn K mainGlobals "_law_place_in" = some (some (.ref Aplace_in)))
    (l_place_in : K.lookup Aplace_in = some ⟨ocplace_in, odplace_in, .func (PySem.W.fnOf "_law_place_in" "_law_place_in" (defArgs s_place_in) (defBody s_place_in) (defScope s_place_in) .none kVplace_in dcplace_in pmplace_in anplace_in cdplace_in ctplace_in), slplace_in⟩)
    (o_place_in : PySem.W.codeIn K cdplace_in "_law_place_in" = true)
    (k_place_in : PySem.W.keepIn K (.ref Aplace_in) = true)
    (a_steps_right : PySem.W.nsIn K mainGlobals "_law_steps_right" = some (some (.ref Asteps_right)))
    (l_steps_right : K.lookup Asteps_right = some ⟨ocsteps_right, odsteps_right, .func (PySem.W.fnOf "_law_steps_right" "_law_steps_right" (defArgs s_steps_right) (defBody s_steps_right) (defScope s_steps_right) .none kVsteps_right dcsteps_right pmsteps_right ansteps_right cdsteps_right ctsteps_right), slsteps_right⟩)
    (o_steps_right : PySem.W.codeIn K cdsteps_right "_law_steps_right" = true)
    (k_steps_right : PySem.W.keepIn K (.ref Asteps_right) = true)
    (a_great_right : PySem.W.nsIn K mainGlobals "_law_great_right" = some (some (.ref Agreat_right)))
    (l_great_right : K.lookup Agreat_right = some ⟨ocgreat_right, odgreat_right, .func (PySem.W.fnOf "_law_great_right" "_law_great_right" (defArgs s_great_right) (defBody s_great_right) (defScope s_great_right) .none kVgreat_right dcgreat_right pmgreat_right angreat_right cdgreat_right ctgreat_right), slgreat_right⟩)
    (o_great_right : PySem.W.codeIn K cdgreat_right "_law_great_right" = true)
    (k_great_right : PySem.W.keepIn K (.ref Agreat_right) = true)
    (a_rounds_right : PySem.W.nsIn K mainGlobals "_law_rounds_right" = some (some (.ref Arounds_right)))
    (l_rounds_right : K.lookup Arounds_right = some ⟨ocrounds_right, odrounds_right, .func (PySem.W.fnOf "_law_rounds_right" "_law_rounds_right" (defArgs s_rounds_right) (defBody s_rounds_right) (defScope s_rounds_right) .none kVrounds_right dcrounds_right pmrounds_right anrounds_right cdrounds_right ctrounds_right), slrounds_right⟩)
    (o_rounds_right : PySem.W.codeIn K cdrounds_right "_law_rounds_right" = true)
    (k_rounds_right : PySem.W.keepIn K (.ref Arounds_right) = true)
    (a_right : PySem.W.nsIn K mainGlobals "_law_right" = some (some (.ref Aright)))
    (l_right : K.lookup Aright = some ⟨ocright, odright, .func (PySem.W.fnOf "_law_right" "_law_right" (defArgs s_right) (defBody s_right) (defScope s_right) .none kVright dcright pmright anright cdright ctright), slright⟩)
    (o_right : PySem.W.codeIn K cdright "_law_right" = true)
    (k_right : PySem.W.keepIn K (.ref Aright) = true)
    (a_pot : PySem.W.nsIn K mainGlobals "_law_pot" = some (some (.ref Apot)))
    (l_pot : K.lookup Apot = some ⟨ocpot, odpot, .func (PySem.W.fnOf "_law_pot" "_law_pot" (defArgs s_pot) (defBody s_pot) (defScope s_pot) .none kVpot dcpot pmpot anpot cdpot ctpot), slpot⟩)
    (o_pot : PySem.W.codeIn K cdpot "_law_pot" = true)
    (k_pot : PySem.W.keepIn K (.ref Apot) = true)
    (a_law : PySem.W.nsIn K mainGlobals "law" = some (some (.ref Alaw)))
    (l_law : K.lookup Alaw = some ⟨oclaw, odlaw, .func (PySem.W.fnOf "law" "law" (defArgs s_law) (defBody s_law) (defScope s_law) .none kVlaw dclaw pmlaw anlaw cdlaw ctlaw), sllaw⟩)
    (o_law : PySem.W.codeIn K cdlaw "law" = true)
    (k_law : PySem.W.keepIn K (.ref Alaw) = true)
    (a_Word_init : PySem.W.findIn K (.ref CWord) "__init__" = some (some (.ref AWord_init)))
    (i_Word_init : PySem.W.isFn K (.ref AWord_init) = true)
    (l_Word_init : K.lookup AWord_init = some ⟨ocWord_init, odWord_init, .func (PySem.W.fnOf "__init__" "Word.__init__" (defArgs s_Word_init) (defBody s_Word_init) (defScope s_Word_init) .none kVWord_init dcWord_init pmWord_init anWord_init cdWord_init ctWord_init), slWord_init⟩)
    (o_Word_init : PySem.W.codeIn K cdWord_init "Word.__init__" = true)
    (k_Word_init : PySem.W.keepIn K (.ref AWord_init) = true)
    (aC_Word : PySem.W.nsIn K mainGlobals "Word" = some (some (.ref CWord)))
    (pg_Word : PySem.W.plainGet K CWord Str.empty = true)
    (hd_Word : PySem.W.hasDictIn K CWord = true)
    (po_Word : PySem.W.plainOver K CWord = true)
    (sa_Word : PySem.W.findIn K (.ref CWord) "__setattr__" = some (some (.builtin "object.__setattr__")))
    (mk_Word : PySem.W.makesIn K CWord = true)
    (kc_Word : PySem.W.keepIn K (.ref CWord) = true)
    (na_Word__head : PySem.W.findIn K (.ref CWord) "_head" = some none)
    (na_Word__middle : PySem.W.findIn K (.ref CWord) "_middle" = some none)
    (na_Word__tail : PySem.W.findIn K (.ref CWord) "_tail" = some none)
    (z_abs : PySem.W.nsIn K mainGlobals "abs" = some none)
    (z_all : PySem.W.nsIn K mainGlobals "all" = some none)
    (z_bool : PySem.W.nsIn K mainGlobals "bool" = some none)
    (z_divmod : PySem.W.nsIn K mainGlobals "divmod" = some none)
    (z_int : PySem.W.nsIn K mainGlobals "int" = some none)
    (z_isinstance : PySem.W.nsIn K mainGlobals "isinstance" = some none)
    (z_len : PySem.W.nsIn K mainGlobals "len" = some none)
    (z_max : PySem.W.nsIn K mainGlobals "max" = some none)
    (z_min : PySem.W.nsIn K mainGlobals "min" = some none)
    (z_range : PySem.W.nsIn K mainGlobals "range" = some none)
    (z_str : PySem.W.nsIn K mainGlobals "str" = some none)
    (c_MOST_MARKS : PySem.W.nsIn K mainGlobals "MOST_MARKS" = some (some (.int 4 tMOST_MARKS))) :
    ∃ fd : FuncData, (∀ (s : Shared) (v : Value), BindsTo s fd ⟨[v], []⟩ [("_law_script", v)]) ∧ ∀ base : Heap, K.In base → base.Ns mainGlobals mg → FnOk l.prog w K mg base CX0 8 fa fd ["_law_script"] (sp_law K) := by
  have e := hfa.symm.trans (PySem.W.mg_of X G a_law)
  cases e
  have T : Txt w K mg ⟨Ais_marks, (PySem.W.fnOf "is_marks" "is_marks" (defArgs s_is_marks) (defBody s_is_marks) (defScope s_is_marks) .none kVis_marks dcis_marks pmis_marks anis_marks cdis_marks ctis_marks), Acheck_part, (PySem.W.fnOf "_check_part" "_check_part" (defArgs s_check_part) (defBody s_check_part) (defScope s_check_part) .none kVcheck_part dccheck_part pmcheck_part ancheck_part cdcheck_part ctcheck_part), Adraw, (PySem.W.fnOf "_law_draw" "_law_draw" (defArgs s_draw) (defBody s_draw) (defScope s_draw) .none kVdraw dcdraw pmdraw andraw cddraw ctdraw), Asigns, (PySem.W.fnOf "_law_signs" "_law_signs" (defArgs s_signs) (defBody s_signs) (defScope s_signs) .none kVsigns dcsigns pmsigns ansigns cdsigns ctsigns), Aparts, (PySem.W.fnOf "_law_parts" "_law_parts" (defArgs s_parts) (defBody s_parts) (defScope s_parts) .none kVparts dcparts pmparts anparts cdparts ctparts), Aleast, (PySem.W.fnOf "_law_least" "_law_least" (defArgs s_least) (defBody s_least) (defScope s_least) .none kVleast dcleast pmleast anleast cdleast ctleast), Aline, (PySem.W.fnOf "_law_line" "_law_line" (defArgs s_line) (defBody s_line) (defScope s_line) .none kVline dcline pmline anline cdline ctline), Ais_integer, (PySem.W.fnOf "is_integer" "is_integer" (defArgs s_is_integer) (defBody s_is_integer) (defScope s_is_integer) .none kVis_integer dcis_integer pmis_integer anis_integer cdis_integer ctis_integer), AWord_least, (PySem.W.fnOf "least" "Word.least" (defArgs s_Word_least) (defBody s_Word_least) (defScope s_Word_least) .none kVWord_least dcWord_least pmWord_least anWord_least cdWord_least ctWord_least), Acheck_places, (PySem.W.fnOf "_check_places" "_check_places" (defArgs s_check_places) (defBody s_check_places) (defScope s_check_places) .none kVcheck_places dccheck_places pmcheck_places ancheck_places cdcheck_places ctcheck_places), AWord_mark, (PySem.W.fnOf "mark" "Word.mark" (defArgs s_Word_mark) (defBody s_Word_mark) (defScope s_Word_mark) .none kVWord_mark dcWord_mark pmWord_mark anWord_mark cdWord_mark ctWord_mark), Atimes_said, (PySem.W.fnOf "times_said" "times_said" (defArgs s_times_said) (defBody s_times_said) (defScope s_times_said) .none kVtimes_said dctimes_said pmtimes_said antimes_said cdtimes_said cttimes_said), AWord_homes, (PySem.W.fnOf "homes" "Word.homes" (defArgs s_Word_homes) (defBody s_Word_homes) (defScope s_Word_homes) .none kVWord_homes dcWord_homes pmWord_homes anWord_homes cdWord_homes ctWord_homes), Asmall_right, (PySem.W.fnOf "_law_small_right" "_law_small_right" (defArgs s_small_right) (defBody s_small_right) (defScope s_small_right) .none kVsmall_right dcsmall_right pmsmall_right ansmall_right cdsmall_right ctsmall_right), Apick, (PySem.W.fnOf "_law_pick" "_law_pick" (defArgs s_pick) (defBody s_pick) (defScope s_pick) .none kVpick dcpick pmpick anpick cdpick ctpick), Agreat, (PySem.W.fnOf "_law_great" "_law_great" (defArgs s_great) (defBody s_great) (defScope s_great) .none kVgreat dcgreat pmgreat angreat cdgreat ctgreat), Ashort, (PySem.W.fnOf "_law_short" "_law_short" (defArgs s_short) (defBody s_short) (defScope s_short) .none kVshort dcshort pmshort anshort cdshort ctshort), Aplace_in, (PySem.W.fnOf "_law_place_in" "_law_place_in" (defArgs s_place_in) (defBody s_place_in) (defScope s_place_in) .none kVplace_in dcplace_in pmplace_in anplace_in cdplace_in ctplace_in), Asteps_right, (PySem.W.fnOf "_law_steps_right" "_law_steps_right" (defArgs s_steps_right) (defBody s_steps_right) (defScope s_steps_right) .none kVsteps_right dcsteps_right pmsteps_right ansteps_right cdsteps_right ctsteps_right), Agreat_right, (PySem.W.fnOf "_law_great_right" "_law_great_right" (defArgs s_great_right) (defBody s_great_right) (defScope s_great_right) .none kVgreat_right dcgreat_right pmgreat_right angreat_right cdgreat_right ctgreat_right), Arounds_right, (PySem.W.fnOf "_law_rounds_right" "_law_rounds_right" (defArgs s_rounds_right) (defBody s_rounds_right) (defScope s_rounds_right) .none kVrounds_right dcrounds_right pmrounds_right anrounds_right cdrounds_right ctrounds_right), Aright, (PySem.W.fnOf "_law_right" "_law_right" (defArgs s_right) (defBody s_right) (defScope s_right) .none kVright dcright pmright anright cdright ctright), Apot, (PySem.W.fnOf "_law_pot" "_law_pot" (defArgs s_pot) (defBody s_pot) (defScope s_pot) .none kVpot dcpot pmpot anpot cdpot ctpot), fa, (PySem.W.fnOf "law" "law" (defArgs s_law) (defBody s_law) (defScope s_law) .none kVlaw dclaw pmlaw anlaw cdlaw ctlaw), AWord_init, (PySem.W.fnOf "__init__" "Word.__init__" (defArgs s_Word_init) (defBody s_Word_init) (defScope s_Word_init) .none kVWord_init dcWord_init pmWord_init anWord_init cdWord_init ctWord_init), CWord, PWord_least⟩ := ⟨fun_mk (st := s_is_marks) l_is_marks o_is_marks k_is_marks, (fun_mk (st := s_is_marks) l_is_marks o_is_marks k_is_marks).binds (ps := ["value"]) fun _ _ _ _ _ _ us hl => match us, hl with | [_], _ => rfl, PySem.W.mg_of X G a_is_marks, fun_mk (st := s_check_part) l_check_part o_check_part k_check_part, (fun_mk (st := s_check_part) l_check_part o_check_part k_check_part).binds (ps := ["marks"]) fun _ _ _ _ _ _ us hl => match us, hl with | [_], _ => rfl, PySem.W.mg_of X G a_check_part, fun_mk (st := s_draw) l_draw o_draw k_draw, (fun_mk (st := s_draw) l_draw o_draw k_draw).binds (ps := ["_law_pot_here", "_law_size"]) fun _ _ _ _ _ _ us hl => match us, hl with | [_, _], _ => rfl, PySem.W.mg_of X G a_draw, fun_mk (st := s_signs) l_signs o_signs k_signs, (fun_mk (st := s_signs) l_signs o_signs k_signs).binds (ps := ["_law_pot_here", "_law_few", "_law_many"]) fun _ _ _ _ _ _ us hl => match us, hl with | [_, _, _], _ => rfl, PySem.W.mg_of X G a_signs, fun_mk (st := s_parts) l_parts o_parts k_parts, (fun_mk (st := s_parts) l_parts o_parts k_parts).binds (ps := ["_law_pot_here"]) fun _ _ _ _ _ _ us hl => match us, hl with | [_], _ => rfl, PySem.W.mg_of X G a_parts, fun_mk (st := s_least) l_least o_least k_least, (fun_mk (st := s_least) l_least o_least k_least).binds (ps := ["_law_parts_here"]) fun _ _ _ _ _ _ us hl => match us, hl with | [_], _ => rfl, PySem.W.mg_of X G a_least, fun_mk (st := s_line) l_line o_line k_line, (fun_mk (st := s_line) l_line o_line k_line).binds (ps := ["_law_parts_here", "_law_size"]) fun _ _ _ _ _ _ us hl => match us, hl with | [_, _], _ => rfl, PySem.W.mg_of X G a_line, fun_mk (st := s_is_integer) l_is_integer o_is_integer k_is_integer, (fun_mk (st := s_is_integer) l_is_integer o_is_integer k_is_integer).binds (ps := ["value"]) fun _ _ _ _ _ _ us hl => match us, hl with | [_], _ => rfl, PySem.W.mg_of X G a_is_integer, fun_mk (st := s_Word_least) l_Word_least o_Word_least k_Word_least, (fun_mk (st := s_Word_least) l_Word_least o_Word_least k_Word_least).binds (ps := ["self"]) fun _ _ _ _ _ _ us hl => match us, hl with | [_], _ => rfl, ⟨pa_Word_least, pg_Word_least, pt_Word_least, ⟨_, pr_Word_least⟩⟩, fun_mk (st := s_check_places) l_check_places o_check_places k_check_places, (fun_mk (st := s_check_places) l_check_places o_check_places k_check_places).binds (ps := ["word", "places"]) fun _ _ _ _ _ _ us hl => match us, hl with | [_, _], _ => rfl, PySem.W.mg_of X G a_check_places, fun_mk (st := s_Word_mark) l_Word_mark o_Word_mark k_Word_mark, (fun_mk (st := s_Word_mark) l_Word_mark o_Word_mark k_Word_mark).binds (ps := ["self", "places", "place"]) fun _ _ _ _ _ _ us hl => match us, hl with | [_, _, _], _ => rfl, ⟨a_Word_mark, i_Word_mark, k_Word_mark⟩, fun_mk (st := s_times_said) l_times_said o_times_said k_times_said, (fun_mk (st := s_times_said) l_times_said o_times_said k_times_said).binds (ps := ["marks", "mark", "many"]) fun _ _ _ _ _ _ us hl => match us, hl with | [_, _, _], _ => rfl, PySem.W.mg_of X G a_times_said, fun_mk (st := s_Word_homes) l_Word_homes o_Word_homes k_Word_homes, (fun_mk (st := s_Word_homes) l_Word_homes o_Word_homes k_Word_homes).binds (ps := ["self", "places", "place"]) fun _ _ _ _ _ _ us hl => match us, hl with | [_, _, _], _ => rfl, ⟨a_Word_homes, i_Word_homes, k_Word_homes⟩, fun_mk (st := s_small_right) l_small_right o_small_right k_small_right, (fun_mk (st := s_small_right) l_small_right o_small_right k_small_right).binds (ps := ["_law_made", "_law_parts_here"]) fun _ _ _ _ _ _ us hl => match us, hl with | [_, _], _ => rfl, PySem.W.mg_of X G a_small_right, fun_mk (st := s_pick) l_pick o_pick k_pick, (fun_mk (st := s_pick) l_pick o_pick k_pick).binds (ps := ["_law_pot_here", "_law_some"]) fun _ _ _ _ _ _ us hl => match us, hl with | [_, _], _ => rfl, PySem.W.mg_of X G a_pick, fun_mk (st := s_great) l_great o_great k_great, (fun_mk (st := s_great) l_great o_great k_great).binds (ps := ["_law_pot_here", "_law_least_here"]) fun _ _ _ _ _ _ us hl => match us, hl with | [_, _], _ => rfl, PySem.W.mg_of X G a_great, fun_mk (st := s_short) l_short o_short k_short, (fun_mk (st := s_short) l_short o_short k_short).binds (ps := ["_law_parts_here", "_law_size"]) fun _ _ _ _ _ _ us hl => match us, hl with | [_, _], _ => rfl, PySem.W.mg_of X G a_short, fun_mk (st := s_place_in) l_place_in o_place_in k_place_in, (fun_mk (st := s_place_in) l_place_in o_place_in k_place_in).binds (ps := ["_law_parts_here", "_law_size", "_law_short_here", "_law_at"]) fun _ _ _ _ _ _ us hl => match us, hl with | [_, _, _, _], _ => rfl, PySem.W.mg_of X G a_place_in, fun_mk (st := s_steps_right) l_steps_right o_steps_right k_steps_right, (fun_mk (st := s_steps_right) l_steps_right o_steps_right k_steps_right).binds (ps := ["_law_made", "_law_size", "_law_at"]) fun _ _ _ _ _ _ us hl => match us, hl with | [_, _, _], _ => rfl, PySem.W.mg_of X G a_steps_right, fun_mk (st := s_great_right) l_great_right o_great_right k_great_right, (fun_mk (st := s_great_right) l_great_right o_great_right k_great_right).binds (ps := ["_law_pot_here", "_law_made", "_law_parts_here", "_law_size"]) fun _ _ _ _ _ _ us hl => match us, hl with | [_, _, _, _], _ => rfl, PySem.W.mg_of X G a_great_right, fun_mk (st := s_rounds_right) l_rounds_right o_rounds_right k_rounds_right, (fun_mk (st := s_rounds_right) l_rounds_right o_rounds_right k_rounds_right).binds (ps := ["_law_pot_here", "_law_made", "_law_parts_here", "_law_size"]) fun _ _ _ _ _ _ us hl => match us, hl with | [_, _, _, _], _ => rfl, PySem.W.mg_of X G a_rounds_right, fun_mk (st := s_right) l_right o_right k_right, (fun_mk (st := s_right) l_right o_right k_right).binds (ps := ["_law_pot_here"]) fun _ _ _ _ _ _ us hl => match us, hl with | [_], _ => rfl, PySem.W.mg_of X G a_right, fun_mk (st := s_pot) l_pot o_pot k_pot, (fun_mk (st := s_pot) l_pot o_pot k_pot).binds (ps := ["_law_script", "_law_k"]) fun _ _ _ _ _ _ us hl => match us, hl with | [_, _], _ => rfl, PySem.W.mg_of X G a_pot, fun_mk (st := s_law) l_law o_law k_law, (fun_mk (st := s_law) l_law o_law k_law).binds (ps := ["_law_script"]) fun _ _ _ _ _ _ us hl => match us, hl with | [_], _ => rfl, PySem.W.mg_of X G a_law, fun_mk (st := s_Word_init) l_Word_init o_Word_init k_Word_init, (fun_mk (st := s_Word_init) l_Word_init o_Word_init k_Word_init).binds (ps := ["self", "head", "middle", "tail"]) fun _ _ _ _ _ _ us hl => match us, hl with | [_, _, _, _], _ => rfl, ⟨pg_Word, hd_Word, po_Word, sa_Word⟩, PySem.W.mg_of X G aC_Word, ⟨mk_Word, a_Word_init, i_Word_init, kc_Word⟩, na_Word__head, na_Word__middle, na_Word__tail, PySem.W.mg_none_of X G z_abs, PySem.W.mg_none_of X G z_all, PySem.W.mg_none_of X G z_bool, PySem.W.mg_none_of X G z_divmod, PySem.W.mg_none_of X G z_int, PySem.W.mg_none_of X G z_isinstance, PySem.W.mg_none_of X G z_len, PySem.W.mg_none_of X G z_max, PySem.W.mg_none_of X G z_min, PySem.W.mg_none_of X G z_range, PySem.W.mg_none_of X G z_str, ⟨_, PySem.W.mg_of X G c_MOST_MARKS, ⟨_, rfl⟩⟩, ⟨fun s us ws _ h1 h2 => match us, ws, h1, h2 with | [_], [_, _], _, _ => .of_eq rfl, fun r1 r2 => r1.append (.cons (vals_getD r2 1) (.cons (vals_getD r2 0) (.nil)))⟩, ⟨fun s us ws _ h1 h2 => match us, ws, h1, h2 with | [_], [_, _], _, _ => .of_eq rfl, fun r1 r2 => r1.append (.cons (vals_getD r2 1) (.cons (vals_getD r2 0) (.nil)))⟩⟩
  exact ⟨_, fun s v => .of_eq rfl, fun base _ _ => ok_law T⟩
end Lw
open PySem PySem.W PyProof.Rows in
set_option maxRecDepth 100000 in
set_option maxHeartbeats 0 in
theorem PySem.Challenge.cw_ringrows_k22_marks_and_homes_holds : PySem.Challenge.rw_ringrows_k22_marks_and_homes.Holds := by
  w_on; o_law; k_head; (case hw => w_witness2)
  k_fill
  refine L2.walk_of (l := PySem.Challenge.rw_ringrows_k22_marks_and_homes) (n := 63) (k := 8) (x := "_law_script") (CX := fun _ => L2.CX0) (sp := fun w => Lw.sp_law _) rfl (by decide) rfl ⟨rfl, by decide, by decide⟩ (fun w h Y => PySem.W.kIn_of Y) ?F (fun w H a ns hl hO hS => Lw.law_enter hl hO hS) (fun _ _ _ _ _ h => h)
  case F =>
    intro w mg fa h KX G hmg
    refine' Lw.all_mk KX G hmg ?a_is_marks ?l_is_marks ?o_is_marks ?k_is_marks ?a_check_part ?l_check_part ?o_check_part ?k_check_part ?a_draw ?l_draw ?o_draw ?k_draw ?a_signs ?l_signs ?o_signs ?k_signs ?a_parts ?l_parts ?o_parts ?k_parts ?a_least ?l_least ?o_least ?k_least ?a_line ?l_line ?o_line ?k_line ?a_is_integer ?l_is_integer ?o_is_integer ?k_is_integer ?pa_Word_least ?pg_Word_least ?pt_Word_least ?pr_Word_least ?l_Word_least ?o_Word_least ?k_Word_least ?a_check_places ?l_check_places ?o_check_places ?k_check_places ?a_Word_mark ?i_Word_mark ?l_Word_mark ?o_Word_mark ?k_Word_mark ?a_times_said ?l_times_said ?o_times_said ?k_times_said ?a_Word_homes ?i_Word_homes ?l_Word_homes ?o_Word_homes ?k_Word_homes ?a_small_right ?l_small_right ?o_small_right ?k_small_right ?a_pick ?l_pick ?o_pick ?k_pick ?a_great ?l_great ?o_great ?k_great ?a_short ?l_short ?o_short ?k_short ?a_place_in ?l_place_in ?o_place_in ?k_place_in ?a_steps_right ?l_steps_right ?o_steps_right ?k_steps_right ?a_great_right ?l_great_right ?o_great_right ?k_great_right ?a_rounds_right ?l_rounds_right ?o_rounds_right ?k_rounds_right ?a_right ?l_right ?o_right ?k_right ?a_pot ?l_pot ?o_pot ?k_pot ?a_law ?l_law ?o_law ?k_law ?a_Word_init ?i_Word_init ?l_Word_init ?o_Word_init ?k_Word_init ?aC_Word ?pg_Word ?hd_Word ?po_Word ?sa_Word ?mk_Word ?kc_Word ?na_Word__head ?na_Word__middle ?na_Word__tail ?z_abs ?z_all ?z_bool ?z_divmod ?z_int ?z_isinstance ?z_len ?z_max ?z_min ?z_range ?z_str ?c_MOST_MARKS
    (case aC_Word => k_is); (case a_is_marks => k_is); (case l_is_marks => k_is); (case o_is_marks => k_is); (case k_is_marks => k_is); (case a_check_part => k_is); (case l_check_part => k_is); (case o_check_part => k_is); (case k_check_part => k_is); (case a_draw => k_is); (case l_draw => k_is); (case o_draw => k_is); (case k_draw => k_is); (case a_signs => k_is); (case l_signs => k_is); (case o_signs => k_is); (case k_signs => k_is); (case a_parts => k_is); (case l_parts => k_is); (case o_parts => k_is); (case k_parts => k_is); (case a_least => k_is); (case l_least => k_is); (case o_least => k_is); (case k_least => k_is); (case a_line => k_is); (case l_line => k_is); (case o_line => k_is); (case k_line => k_is); (case a_is_integer => k_is); (case l_is_integer => k_is); (case o_is_integer => k_is); (case k_is_integer => k_is); (case pa_Word_least => k_is); (case pg_Word_least => k_is); (case pt_Word_least => k_is); (case pr_Word_least => k_is); (case l_Word_least => k_is); (case o_Word_least => k_is); (case k_Word_least => k_is); (case a_check_places => k_is); (case l_check_places => k_is); (case o_check_places => k_is); (case k_check_places => k_is); (case a_Word_mark => k_is); (case i_Word_mark => k_is); (case l_Word_mark => k_is); (case o_Word_mark => k_is); (case k_Word_mark => k_is); (case a_times_said => k_is); (case l_times_said => k_is); (case o_times_said => k_is); (case k_times_said => k_is); (case a_Word_homes => k_is); (case i_Word_homes => k_is); (case l_Word_homes => k_is); (case o_Word_homes => k_is); (case k_Word_homes => k_is); (case a_small_right => k_is); (case l_small_right => k_is); (case o_small_right => k_is); (case k_small_right => k_is); (case a_pick => k_is); (case l_pick => k_is); (case o_pick => k_is); (case k_pick => k_is); (case a_great => k_is); (case l_great => k_is); (case o_great => k_is); (case k_great => k_is); (case a_short => k_is); (case l_short => k_is); (case o_short => k_is); (case k_short => k_is); (case a_place_in => k_is); (case l_place_in => k_is); (case o_place_in => k_is); (case k_place_in => k_is); (case a_steps_right => k_is); (case l_steps_right => k_is); (case o_steps_right => k_is); (case k_steps_right => k_is); (case a_great_right => k_is); (case l_great_right => k_is); (case o_great_right => k_is); (case k_great_right => k_is); (case a_rounds_right => k_is); (case l_rounds_right => k_is); (case o_rounds_right => k_is); (case k_rounds_right => k_is); (case a_right => k_is); (case l_right => k_is); (case o_right => k_is); (case k_right => k_is); (case a_pot => k_is); (case l_pot => k_is); (case o_pot => k_is); (case k_pot => k_is); (case a_law => k_is); (case l_law => k_is); (case o_law => k_is); (case k_law => k_is); (case a_Word_init => k_is); (case i_Word_init => k_is); (case l_Word_init => k_is); (case o_Word_init => k_is); (case k_Word_init => k_is); (case pg_Word => k_is); (case hd_Word => k_is); (case po_Word => k_is); (case sa_Word => k_is); (case mk_Word => k_is); (case kc_Word => k_is); (case na_Word__head => k_is); (case na_Word__middle => k_is); (case na_Word__tail => k_is); (case z_abs => k_is); (case z_all => k_is); (case z_bool => k_is); (case z_divmod => k_is); (case z_int => k_is); (case z_isinstance => k_is); (case z_len => k_is); (case z_max => k_is); (case z_min => k_is); (case z_range => k_is); (case z_str => k_is); (case c_MOST_MARKS => k_is)
