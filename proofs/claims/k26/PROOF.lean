import PyProof.Rows.All
import Wide.All
import OpenK.AllK
import Wide.FinOn
import HandS.ForMost
import HandS.Property
import HandS.IsInst
import HandS.Wide
import HandS.WideBits
import HandS.Defaults
import HandS.StrMore
import HandS.Style
import HandS.Codes
import HandS.OwnEq
import HandS.Conv
import HandS.SetFor
import HandS.WrittenGet
import PyProof.StrBlock2
import PyProof.LongRange
import PyProof.ReprRoads
import HandS.FStr
import HandS.MakeKwOnly
import HandS.ListItems
import HandS.Gcd
import HandS.Small
import HandS.NoneIn
import HandS.Walk
import PySem.Challenge.RW_ringrows_k26_whole_words_that_part_late
set_option Elab.async false
set_option linter.all false
set_option maxRecDepth 100000
set_option maxHeartbeats 4000000
namespace Rx
open PySem PySem.Spec PyProof.Rows L2

inductive D where
  | v (x : V)
  | lst (xs : List D)
  | tup (xs : List D)
  | ins (C : Addr) (ns : List Str) (xs : List D)
  | dct (ks : List Key) (xs : List D)

mutual
def rep (ms : List Addr) (H : Hp) : D → V → Prop
  | .v x, u => u = x
  | .lst ds, u => ∃ p vs, u = .ref p ∧ p ∉ ms ∧ H p = some (.lst vs) ∧ repL ms H ds vs
  | .tup ds, u => ∃ p vs, u = .ref p ∧ p ∉ ms ∧ H p = some (.tup vs) ∧ repL ms H ds vs
  | .ins C ns ds, u => ∃ p dx vs, u = .ref p ∧ p ∉ ms ∧ H p = some (.ins C dx (ns.zip vs)) ∧ ns.length = vs.length ∧ repL ms H ds vs
  | .dct ks ds, u => ∃ p vs, u = .ref p ∧ p ∉ ms ∧ H p = some (.dK (ks.zip vs)) ∧ ks.length = vs.length ∧ repL ms H ds vs
def repL (ms : List Addr) (H : Hp) : List D → List V → Prop
  | [], vs => vs = []
  | d :: ds, vs => ∃ u us, vs = u :: us ∧ rep ms H d u ∧ repL ms H ds us
end

mutual
theorem rep_map {ms ms' : List Addr} {H H' : Hp} (f : ∀ p o, p ∉ ms → H p = some o → p ∉ ms' ∧ H' p = some o) : ∀ (d : D) (u : V), rep ms H d u → rep ms' H' d u
  | .v x, u, h => by
    simp only [rep] at h ⊢
    exact h
  | .lst ds, u, h => by
    simp only [rep] at h ⊢
    obtain ⟨p, vs, e, n, hp, hl⟩ := h
    exact ⟨p, vs, e, (f p _ n hp).1, (f p _ n hp).2, repL_map f ds vs hl⟩
  | .tup ds, u, h => by
    simp only [rep] at h ⊢
    obtain ⟨p, vs, e, n, hp, hl⟩ := h
    exact ⟨p, vs, e, (f p _ n hp).1, (f p _ n hp).2, repL_map f ds vs hl⟩
  | .ins C ns ds, u, h => by
    simp only [rep] at h ⊢
    obtain ⟨p, dx, vs, e, n, hp, hn, hl⟩ := h
    exact ⟨p, dx, vs, e, (f p _ n hp).1, (f p _ n hp).2, hn, repL_map f ds vs hl⟩
  | .dct ks ds, u, h => by
    simp only [rep] at h ⊢
    obtain ⟨p, vs, e, n, hp, hn, hl⟩ := h
    exact ⟨p, vs, e, (f p _ n hp).1, (f p _ n hp).2, hn, repL_map f ds vs hl⟩
theorem repL_map {ms ms' : List Addr} {H H' : Hp} (f : ∀ p o, p ∉ ms → H p = some o → p ∉ ms' ∧ H' p = some o) : ∀ (ds : List D) (us : List V), repL ms H ds us → repL ms' H' ds us
  | [], us, h => by
    simp only [repL] at h ⊢
    exact h
  | d :: ds, us, h => by
    simp only [repL] at h ⊢
    obtain ⟨u, vs, e, h1, h2⟩ := h
    exact ⟨u, vs, e, rep_map f d u h1, repL_map f ds vs h2⟩
end

theorem repL_len {ms : List Addr} {H : Hp} : ∀ {ds : List D} {vs : List V}, repL ms H ds vs → ds.length = vs.length
  | [], vs, h => by
    simp only [repL] at h
    rw [h]
    rfl
  | d :: ds, vs, h => by
    simp only [repL] at h
    obtain ⟨u, us, e, _, h2⟩ := h
    rw [e]
    show ds.length + 1 = us.length + 1
    rw [repL_len h2]
theorem repL_get {ms : List Addr} {H : Hp} : ∀ {ds : List D} {vs : List V} {j : Nat} {d : D}, repL ms H ds vs → ds[j]? = some d → ∃ v, vs[j]? = some v ∧ rep ms H d v
  | [], vs, j, d, h, e => by simp at e
  | d0 :: ds, vs, 0, d, h, e => by
    simp only [repL] at h
    obtain ⟨u, us, rfl, h1, _⟩ := h
    have e' : d0 = d := Option.some.inj e
    subst e'
    exact ⟨u, rfl, h1⟩
  | d0 :: ds, vs, j + 1, d, h, e => by
    simp only [repL] at h
    obtain ⟨u, us, rfl, _, h2⟩ := h
    exact repL_get (j := j) h2 (by simpa using e)
theorem repL_app {ms : List Addr} {H : Hp} : ∀ {ds es : List D} {vs us : List V}, repL ms H ds vs → repL ms H es us → repL ms H (ds ++ es) (vs ++ us)
  | [], es, vs, us, h, h' => by
    simp only [repL] at h
    rw [h]
    exact h'
  | d :: ds, es, vs, us, h, h' => by
    simp only [repL] at h
    obtain ⟨u, ws, rfl, h1, h2⟩ := h
    show repL ms H (d :: (ds ++ es)) (u :: (ws ++ us))
    simp only [repL]
    exact ⟨u, ws ++ us, rfl, h1, repL_app h2 h'⟩
theorem repL_one {ms : List Addr} {H : Hp} {d : D} {u : V} (h : rep ms H d u) : repL ms H [d] [u] := by
  simp only [repL]
  exact ⟨u, [], rfl, h, rfl⟩
theorem repL_nil {ms : List Addr} {H : Hp} : repL ms H [] [] := by simp only [repL]
theorem repL_cons {ms : List Addr} {H : Hp} {d : D} {u : V} {ds : List D} {us : List V} (h : rep ms H d u) (t : repL ms H ds us) : repL ms H (d :: ds) (u :: us) := by
  simp only [repL]
  exact ⟨u, us, rfl, h, t⟩
theorem rep_v {ms : List Addr} {H : Hp} {x : V} : rep ms H (.v x) x := by simp only [rep]
theorem of_v {ms : List Addr} {H : Hp} {x u : V} (h : rep ms H (.v x) u) : u = x := by
  simp only [rep] at h
  exact h
/-- a list of flat values -/
theorem repL_flat {ms : List Addr} {H : Hp} : ∀ {xs vs : List V}, repL ms H (xs.map D.v) vs ↔ vs = xs
  | [], vs => by simp only [List.map_nil, repL]
  | x :: xs, vs => by
    simp only [List.map_cons, repL]
    constructor
    · rintro ⟨u, us, rfl, h1, h2⟩
      rw [of_v h1, repL_flat.mp h2]
    · rintro rfl
      exact ⟨x, xs, rfl, rep_v, repL_flat.mpr rfl⟩

/-! ### frames -/
def PotH (H : Hp) (a : Addr) : Prop := ∃ i j : Int, H a = some (.lst [.int i, .int j]) ∧ j.natAbs < 4294967296
structure Ret (ps : List Addr) (H H' : Hp) : Prop where
  kp : ∀ a o, a ∉ ps → H a = some o → H' a = some o
  pot : ∀ a ∈ ps, PotH H' a
  grow : ∀ a, H a ≠ none → H' a ≠ none
abbrev Ext (H H' : Hp) : Prop := Ret [] H H'
theorem Ret.rfl0 {H : Hp} : Ret [] H H := ⟨fun _ _ _ h => h, fun _ h => absurd h List.not_mem_nil, fun _ h => h⟩
theorem Ext.keep {H H' : Hp} (e : Ext H H') {a : Addr} {o : HO} (h : H a = some o) : H' a = some o := e.kp a o (by simp) h
theorem Ext.new {H : Hp} {p : Addr} {o : HO} (np : H p = none) : Ext H (upd H p o) := by
  refine ⟨fun a u _ h => ?_, fun _ h => absurd h List.not_mem_nil, fun a h => ?_⟩
  · rw [upd_ne (ne_of_none h np)]
    exact h
  · by_cases e : a = p
    · rw [e, upd_same]
      exact fun z => nomatch z
    · rw [upd_ne e]
      exact h
theorem newH {H : Hp} {o : HO} {Q : V → Hp → Prop} (h : ∀ p H', H p = none → Ext H H' → H' p = some o → Q (.ref p) H') : ∀ p, H p = none → Q (.ref p) (upd H p o) :=
  fun p np => h p _ np (Ext.new np) upd_same

structure Wd (ms ps : List Addr) (cs : List (Addr × List V)) (H0 H : Hp) : Prop where
  kp : ∀ a o, a ∉ ps → H0 a = some o → H a = some o
  grow : ∀ a, H0 a ≠ none → H a ≠ none
  tr : ∀ m ∈ ms, H m ≠ none
  pot : ∀ a ∈ ps, PotH H a
  pm : ∀ a ∈ ps, a ∈ ms
  cel : ∀ c ∈ cs, H c.1 = some (.lst c.2) ∧ c.1 ∈ ms ∧ c.1 ∉ ps ∧ H0 c.1 = none

section
variable {ms ps ps' : List Addr} {cs : List (Addr × List V)} {H0 H H' : Hp} {d : D} {u : V}
theorem Wd.ret (hs : ∀ a ∈ ps', a ∈ ps) (w : Wd ms ps cs H0 H) (e : Ret ps' H H') : Wd ms ps cs H0 H' where
  kp := fun a o n h => e.kp a o (fun z => n (hs a z)) (w.kp a o n h)
  grow := fun a h => e.grow a (w.grow a h)
  tr := fun m h => e.grow m (w.tr m h)
  pot := fun a h => by
    by_cases z : a ∈ ps'
    · exact e.pot a z
    · obtain ⟨i, j, h1, h2⟩ := w.pot a h
      exact ⟨i, j, e.kp a _ z h1, h2⟩
  pm := w.pm
  cel := fun c h => by
    obtain ⟨h1, h2, h3, h4⟩ := w.cel c h
    exact ⟨e.kp _ _ (fun z => h3 (hs _ z)) h1, h2, h3, h4⟩
theorem Wd.ret0 (w : Wd ms ps cs H0 H) (e : Ret [] H H') : Wd ms ps cs H0 H' := w.ret (fun _ h => absurd h List.not_mem_nil) e
theorem Wd.retP (w : Wd ms ps cs H0 H) (e : Ret ps H H') : Wd ms ps cs H0 H' := w.ret (fun _ h => h) e
theorem Wd.enter0 (w : Wd ms ps cs H0 H) : Wd ms [] [] H H := ⟨fun _ _ _ h => h, fun _ h => h, w.tr, fun _ h => absurd h List.not_mem_nil, fun _ h => absurd h List.not_mem_nil, fun _ h => absurd h List.not_mem_nil⟩
theorem Wd.enterP (w : Wd ms ps cs H0 H) : Wd ms ps [] H H := ⟨fun _ _ _ h => h, fun _ h => h, w.tr, w.pot, w.pm, fun _ h => absurd h List.not_mem_nil⟩
theorem Wd.out (w : Wd ms ps cs H0 H) : Ret ps H0 H := ⟨w.kp, w.pot, w.grow⟩
theorem rep_ret (w : Wd ms ps cs H0 H) (e : Ret ps H H') (h : rep ms H d u) : rep ms H' d u := rep_map (fun p o n hp => ⟨n, e.kp p o (fun z => n (w.pm p z)) hp⟩) d u h
theorem rep_ext (e : Ret [] H H') (h : rep ms H d u) : rep ms H' d u := rep_map (fun p o n hp => ⟨n, e.kp p o (by simp) hp⟩) d u h
theorem repL_ret {ds : List D} {us : List V} (w : Wd ms ps cs H0 H) (e : Ret ps H H') (h : repL ms H ds us) : repL ms H' ds us := repL_map (fun p o n hp => ⟨n, e.kp p o (fun z => n (w.pm p z)) hp⟩) ds us h
theorem repL_ext {ds : List D} {us : List V} (e : Ret [] H H') (h : repL ms H ds us) : repL ms H' ds us := repL_map (fun p o n hp => ⟨n, e.kp p o (by simp) hp⟩) ds us h
/-- a new cell -/
theorem Wd.cell {l : Addr} {xs : List V} (w : Wd ms ps cs H0 H) (nl : H l = none) : Wd (l :: ms) ps ((l, xs) :: cs) H0 (upd H l (.lst xs)) := by
  have e : Ext H (upd H l (.lst xs)) := Ext.new nl
  have w1 := w.ret0 e
  refine ⟨w1.kp, w1.grow, fun m h => ?_, w1.pot, fun a h => List.mem_cons_of_mem _ (w.pm a h), fun c h => ?_⟩
  · rcases List.mem_cons.mp h with rfl | h
    · rw [upd_same]
      exact fun z => nomatch z
    · exact w1.tr m h
  · rcases List.mem_cons.mp h with rfl | h
    · refine ⟨upd_same, List.mem_cons_self, fun z => ?_, ?_⟩
      · obtain ⟨i, j, h1, _⟩ := w.pot _ z
        rw [nl] at h1
        cases h1
      · show H0 l = none
        cases q : H0 l with
        | none => rfl
        | some o => exact absurd nl (w.grow l (by rw [q]; exact fun z => nomatch z))
    · obtain ⟨h1, h2, h3, h4⟩ := w1.cel c h
      exact ⟨h1, List.mem_cons_of_mem _ h2, h3, h4⟩
theorem rep_cell {l : Addr} {o : HO} (nl : H l = none) (h : rep ms H d u) : rep (l :: ms) (upd H l o) d u := by
  refine rep_map (fun p o n hp => ?_) d u h
  have ne : p ≠ l := ne_of_none hp nl
  refine ⟨fun z => ?_, by rw [upd_ne ne]; exact hp⟩
  rcases List.mem_cons.mp z with z | z
  · exact ne z
  · exact n z
/-- a cell's store -/
theorem Wd.put {l : Addr} {xs ys : List V} (w : Wd ms ps ((l, xs) :: cs) H0 H) (hn : ∀ c ∈ cs, c.1 ≠ l) : Wd ms ps ((l, ys) :: cs) H0 (upd H l (.lst ys)) := by
  obtain ⟨hl, lm, lp, l0⟩ := w.cel _ List.mem_cons_self
  refine ⟨fun a o n h => ?_, fun a h => ?_, fun m h => ?_, fun a h => ?_, w.pm, fun c h => ?_⟩
  · rw [upd_ne (ne_of_none h l0)]
    exact w.kp a o n h
  · by_cases e : a = l
    · rw [e, upd_same]
      exact fun z => nomatch z
    · rw [upd_ne e]
      exact w.grow a h
  · by_cases e : m = l
    · rw [e, upd_same]
      exact fun z => nomatch z
    · rw [upd_ne e]
      exact w.tr m h
  · obtain ⟨i, j, h1, h2⟩ := w.pot a h
    exact ⟨i, j, by rw [upd_ne (fun z => lp (by rw [← z]; exact h))]; exact h1, h2⟩
  · rcases List.mem_cons.mp h with rfl | h
    · exact ⟨upd_same, lm, lp, l0⟩
    · obtain ⟨h1, h2, h3, h4⟩ := w.cel c (List.mem_cons_of_mem _ h)
      exact ⟨by rw [upd_ne (hn c h)]; exact h1, h2, h3, h4⟩
theorem rep_put {l : Addr} {o : HO} (lm : l ∈ ms) (h : rep ms H d u) : rep ms (upd H l o) d u :=
  rep_map (fun p o n hp => ⟨n, by rw [upd_ne (fun z => n (by rw [z]; exact lm))]; exact hp⟩) d u h
theorem repL_put {ds : List D} {us : List V} {l : Addr} {o : HO} (lm : l ∈ ms) (h : repL ms H ds us) : repL ms (upd H l o) ds us :=
  repL_map (fun p o n hp => ⟨n, by rw [upd_ne (fun z => n (by rw [z]; exact lm))]; exact hp⟩) ds us h
/-- the newest cell is a list for good -/
theorem Wd.froze {l : Addr} {xs : List V} (w : Wd (l :: ms) ps ((l, xs) :: cs) H0 H) (hp : ∀ a ∈ ps, a ∈ ms) (hc : ∀ c ∈ cs, c.1 ∈ ms) : Wd ms ps cs H0 H :=
  ⟨w.kp, w.grow, fun m h => w.tr m (List.mem_cons_of_mem _ h), w.pot, hp, fun c h => by
    obtain ⟨h1, _, h3, h4⟩ := w.cel c (List.mem_cons_of_mem _ h)
    exact ⟨h1, hc c h, h3, h4⟩⟩
theorem rep_weak {l : Addr} (h : rep (l :: ms) H d u) : rep ms H d u := rep_map (fun p o n hp => ⟨fun z => n (List.mem_cons_of_mem _ z), hp⟩) d u h
theorem repL_weak {ds : List D} {us : List V} {l : Addr} (h : repL (l :: ms) H ds us) : repL ms H ds us := repL_map (fun p o n hp => ⟨fun z => n (List.mem_cons_of_mem _ z), hp⟩) ds us h
end

/-! ### a reading may be weakened at its end: the places where ways are joined -/
def upE (t : TE) : TE := fun σ H Q => ∃ Q' : VK, t σ H Q' ∧ ∀ v H', Q' v H' → Q v H'
def upT (t : TT) : TT := fun σ H Q => ∃ Q' : Bool → Hp → Prop, t σ H Q' ∧ ∀ b H', Q' b H' → Q b H'
def upS (t : TS) : TS := fun D σ H => ∃ N : L2.St → Hp → Prop, t { D with nx := N } σ H ∧ ∀ σ' H', N σ' H' → D.nx σ' H'
section
variable {X : Cx}
theorem pe_up {e : Expr} {t : TE} (h : PE X e t) : PE X e (upE t) := ⟨fun pins s σ H Q I ⟨Q', hq, m⟩ => thn (h.run pins s σ H Q' I hq) fun u s' ⟨v, H', I', r, q⟩ => ⟨v, H', I', r, m v H' q⟩⟩
theorem pt_up {e : Expr} {t : TT} (h : PT X e t) : PT X e (upT t) := ⟨fun pins s σ H Q I ⟨Q', hq, m⟩ => thn (h.run pins s σ H Q' I hq) fun u s' ⟨H', I', q⟩ => ⟨H', I', m u H' q⟩⟩
theorem ps_up {st : Stmt} {t : TS} (h : PS X st t) : PS X st (upS t) := ⟨fun pins s σ H D I ⟨N, hq, m⟩ => thn (h.run pins s σ H _ I hq) fun f s' q => by
  cases f with
  | next => obtain ⟨σ', H', I', n⟩ := q; exact ⟨σ', H', I', m _ _ n⟩
  | brk => exact q
  | cont => exact q
  | ret u => exact q⟩
end

/-! ### loops by data -/
def mapC {α β : Type} (body : α → (β → Prop) → Prop) : List α → List β → (List β → Prop) → Prop
  | [], acc, k => k acc
  | x :: xs, acc, k => body x fun y => mapC body xs (acc ++ [y]) k
def filC {α β : Type} (body : α → (Option β → Prop) → Prop) : List α → List β → (List β → Prop) → Prop
  | [], acc, k => k acc
  | x :: xs, acc, k => body x fun o => match o with
    | some y => filC body xs (acc ++ [y]) k
    | none => filC body xs acc k
def forC {α S : Type} (body : α → S → (S → Prop) → Prop) : List α → S → (S → Prop) → Prop
  | [], s, k => k s
  | x :: xs, s, k => body x s fun s' => forC body xs s' k
def whileC {S : Type} (body : S → (S → Prop) → (S → Prop) → Prop) : Nat → S → (S → Prop) → Prop
  | 0, _, _ => False
  | n + 1, s, k => body s (fun s' => whileC body n s' k) k
def rangeI (lo hi : Int) : List Int := (List.range (hi - lo).toNat).map fun i => lo + ((i : Nat) : Int)
theorem rangeI_len {lo hi : Int} : (rangeI lo hi).length = (hi - lo).toNat := by simp [rangeI]
theorem rangeI_get {lo hi : Int} {i : Nat} (h : i < (hi - lo).toNat) : (rangeI lo hi)[i]? = some (lo + (i : Int)) := by
  simp [rangeI, List.getElem?_map, List.getElem?_range h]
theorem drop_cons' {α : Type} {xs : List α} {i : Nat} {x : α} (h : xs[i]? = some x) : xs.drop i = x :: xs.drop (i + 1) := by
  obtain ⟨h1, h2⟩ := List.getElem?_eq_some_iff.mp h
  rw [List.drop_eq_getElem_cons h1, h2]

/-- what a loop keeps of all that it does not change -/
def Keep (ms : List Addr) (H H' : Hp) : Prop := ∀ a o, a ∉ ms → H a = some o → H' a = some o
section
variable {ms ps : List Addr} {cs : List (Addr × List V)} {H0 H H1 H' : Hp} {d : D} {u : V}
theorem Keep.refl : Keep ms H H := fun _ _ _ h => h
theorem keep_ret (w : Wd ms ps cs H0 H) (e : Ret ps H H') (k : Keep ms H1 H) : Keep ms H1 H' := fun a o n h => e.kp a o (fun z => n (w.pm a z)) (k a o n h)
theorem keep_ext (e : Ret [] H H') (k : Keep ms H1 H) : Keep ms H1 H' := fun a o n h => e.kp a o (by simp) (k a o n h)
theorem keep_cell {l : Addr} {o : HO} (nl : H l = none) (k : Keep ms H1 H) : Keep (l :: ms) H1 (upd H l o) := fun a u n h => by
  rw [upd_ne (fun z => n (by rw [z]; exact List.mem_cons_self))]
  exact k a u (fun z => n (List.mem_cons_of_mem _ z)) h
theorem keep_put {l : Addr} {o : HO} (lm : l ∈ ms) (k : Keep ms H1 H) : Keep ms H1 (upd H l o) := fun a u n h => by
  rw [upd_ne (fun z => n (by rw [z]; exact lm))]
  exact k a u n h
theorem rep_keep (k : Keep ms H H') (h : rep ms H d u) : rep ms H' d u := rep_map (fun p o n hp => ⟨n, k p o n hp⟩) d u h
theorem repL_keep {ds : List D} {us : List V} (k : Keep ms H H') (h : repL ms H ds us) : repL ms H' ds us := repL_map (fun p o n hp => ⟨n, k p o n hp⟩) ds us h
theorem at_keep {a : Addr} {o : HO} (k : Keep ms H H') (n : a ∉ ms) (h : H a = some o) : H' a = some o := k a o n h
end

theorem ite3 {c : Prop} [Decidable c] {A B P R : Prop} (h : if c then A else B) (h1 : A → P) (h2 : B → R) : if c then P else R := by
  by_cases q : c
  · rw [if_pos q] at h ⊢
    exact h1 h
  · rw [if_neg q] at h ⊢
    exact h2 h

section
variable {K : PySem.W.Frag} {ms ps : List Addr} {cs : List (Addr × List V)} {H0 H : Hp} {d : D} {u x : V}
/-! ### readings by data -/
theorem rep_fld {C : Addr} {ns : List Str} {ds : List D} {f : Str} {Q : VK} {j : Nat} (h : rep ms H (.ins C ns ds) x) (c : Cls K C) (n : NoAttr K C f) (nd : ns.Nodup) (hn : ns[j]? = some f) (hd : ds[j]? = some d) (k : ∀ v, rep ms H d v → Q v H) :
    ∃ a C dx fs v, x = .ref a ∧ H a = some (.ins C dx fs) ∧ Cls K C ∧ NoAttr K C f ∧ fs.lookup f = some v ∧ Q v H := by
  simp only [rep] at h
  obtain ⟨p, dx, vs, e, _, hp, hl, hr⟩ := h
  obtain ⟨v, hv, rv⟩ := repL_get hr hd
  refine ⟨p, C, dx, _, v, e, hp, c, n, ?_, k v rv⟩
  clear hr hd hp e k rv
  induction ns generalizing vs j with
  | nil => simp at hn
  | cons n0 ns ih =>
    cases vs with
    | nil => simp at hv
    | cons v0 vs =>
      cases j with
      | zero =>
        have e1 : n0 = f := Option.some.inj hn
        have e2 : v0 = v := Option.some.inj hv
        subst e1 e2
        simp [List.lookup]
      | succ j =>
        have hn' : ns[j]? = some f := by simpa using hn
        have hv' : vs[j]? = some v := by simpa using hv
        have ne : f ≠ n0 := fun z => by
          subst z
          exact (List.nodup_cons.mp nd).1 (List.mem_of_getElem? hn')
        show ((n0, v0) :: ns.zip vs).lookup f = some v
        rw [List.lookup_cons, show (f == n0) = false from beq_eq_false_iff_ne.mpr ne]
        exact ih (List.nodup_cons.mp nd).2 hn' vs (by simpa using hl) hv'
theorem lookup_zip_none {m : Str} : ∀ {ns : List Str} {vs : List V}, m ∉ ns → (ns.zip vs).lookup m = none
  | [], vs, _ => by simp
  | n :: ns, [], _ => by simp
  | n :: ns, v :: vs, h => by
    show ((n, v) :: ns.zip vs).lookup m = none
    rw [List.lookup_cons, show (m == n) = false from beq_eq_false_iff_ne.mpr fun z => h (by rw [z]; exact List.mem_cons_self)]
    exact lookup_zip_none fun z => h (List.mem_cons_of_mem _ z)
theorem rep_meth {C : Addr} {ns : List Str} {ds : List D} {m : Str} {P : Hp → Prop} (h : rep ms H (.ins C ns ds) x) (hm : m ∉ ns) (k : P H) : ∃ a dx fs, x = .ref a ∧ H a = some (.ins C dx fs) ∧ fs.lookup m = none ∧ P H := by
  simp only [rep] at h
  obtain ⟨p, dx, vs, e, _, hp, hl, hr⟩ := h
  exact ⟨p, dx, _, e, hp, lookup_zip_none hm, k⟩
theorem rep_prop {C : Addr} {ns : List Str} {ds : List D} {P : Addr → Prop} (h : rep ms H (.ins C ns ds) x) (k : ∀ a, rep ms H (.ins C ns ds) (.ref a) → P a) : ∃ a dx fs, x = .ref a ∧ H a = some (.ins C dx fs) ∧ P a := by
  have h' := h
  simp only [rep] at h
  obtain ⟨p, dx, vs, e, _, hp, hl, hr⟩ := h
  subst e
  exact ⟨p, dx, _, rfl, hp, k p h'⟩
/-- t[j], j written -/
theorem rep_ixT {ds : List D} {i : Int} (j : Nat) {σ : L2.St} {Q : VK} (h : rep ms H (.tup ds) x) (hi : i = (j : Int)) (hd : ds[j]? = some d) (k : ∀ v, rep ms H d v → Q v H) : tC (V.int i) σ H fun y H2 => rIxT K x y H2 Q := by
  subst hi
  simp only [rep] at h
  obtain ⟨p, vs, e, _, hp, hr⟩ := h
  obtain ⟨v, hv, rv⟩ := repL_get hr hd
  exact ⟨p, vs, _, v, e, rfl, .inl (.inl hp), atI_nat hv, k v rv⟩
/-- xs[i] -/
theorem rep_ixL {α : Type} {e : α → D} {xs : List α} {i : Int} {Q : VK} (h : rep ms H (.lst (xs.map e)) x) (h0 : 0 ≤ i) (hi : i.toNat < xs.length) (k : ∀ v, rep ms H (e (xs[i.toNat]'hi)) v → Q v H) : rIxL K x (.int i) H Q := by
  simp only [rep] at h
  obtain ⟨p, vs, e', _, hp, hr⟩ := h
  obtain ⟨v, hv, rv⟩ := repL_get (d := e (xs[i.toNat]'hi)) hr (by rw [List.getElem?_map, List.getElem?_eq_getElem hi]; rfl)
  refine ⟨p, vs, i, v, e', rfl, .inl (.inl hp), at_of (j := i.toNat) (by omega) hv, k v rv⟩
theorem rep_lenL {α : Type} {e : α → D} {xs : List α} {P : Nat → Prop} (h : rep ms H (.lst (xs.map e)) x) (k : P xs.length) : ∃ y n, [x] = [y] ∧ LenV K y H n ∧ P n := by
  simp only [rep] at h
  obtain ⟨p, vs, e', _, hp, hr⟩ := h
  subst e'
  have hl := repL_len hr
  rw [List.length_map] at hl
  exact ⟨_, xs.length, rfl, .inl ⟨vs, .inl (.inl hp), hl⟩, k⟩
theorem rep_iter {ds : List D} {P : Addr → Prop} (h : rep ms H (.lst ds) x) (k : ∀ a xs, x = .ref a → a ∉ ms → H a = some (.lst xs) → repL ms H ds xs → P a) : ∃ a, x = .ref a ∧ (∃ xs, SqL K H a xs) ∧ P a := by
  simp only [rep] at h
  obtain ⟨p, vs, e, n, hp, hr⟩ := h
  exact ⟨p, e, ⟨vs, .inl (.inl hp)⟩, k p vs e n hp hr⟩
theorem rep_gtup {ds : List D} {n : Nat} {Q : L2.St → Hp → Prop} {t : TGs} {σ : L2.St} (h : rep ms H (.tup ds) x) (hn : ds.length = n) (k : ∀ vs, repL ms H ds vs → t vs σ H Q) : ∃ a xs, x = .ref a ∧ SqT K H a xs ∧ xs.length = n ∧ t xs σ H Q := by
  simp only [rep] at h
  obtain ⟨p, vs, e, _, hp, hr⟩ := h
  exact ⟨p, vs, e, .inl (.inl hp), by rw [← repL_len hr]; exact hn, k vs hr⟩
theorem rep_tup_mk {p : Addr} {ds : List D} {vs : List V} (w : Wd ms ps cs H0 H) (np : H p = none) (e : Ext H H') (hp : H' p = some (.tup vs)) (hr : repL ms H ds vs) : rep ms H' (.tup ds) (.ref p) := by
  simp only [rep]
  exact ⟨p, vs, rfl, fun z => w.tr p z np, hp, repL_ext e hr⟩
theorem rep_lst_mk {p : Addr} {ds : List D} {vs : List V} (w : Wd ms ps cs H0 H) (np : H p = none) (e : Ext H H') (hp : H' p = some (.lst vs)) (hr : repL ms H ds vs) : rep ms H' (.lst ds) (.ref p) := by
  simp only [rep]
  exact ⟨p, vs, rfl, fun z => w.tr p z np, hp, repL_ext e hr⟩
end

/-! ### comprehensions -/
section
variable {α β : Type} {K : PySem.W.Frag} {ms ps : List Addr} {cs : List (Addr × List V)} {H0 H1 : Hp} {g : TG} {tt : TT} {te : TE} {vl : List Nat} {σ : L2.St} {Qd : Hp → Prop}
/-- where a turn begins: the new list at L holds what is made so far -/
structure Trn (ms ps : List Addr) (cs : List (Addr × List V)) (H0 H1 : Hp) (L : Addr) (eb : β → D) (n : Nat) (ys : List β) (vs : List V) (H : Hp) : Prop where
  w : Wd (L :: ms) ps ((L, vs) :: cs) H0 H
  k : Keep (L :: ms) H1 H
  r : repL (L :: ms) H (ys.map eb) vs
  n : ys.length ≤ n
theorem Trn.add {L : Addr} {eb : β → D} {n : Nat} {ys : List β} {vs : List V} {H : Hp} {y : β} {u : V} (hc : ∀ c ∈ cs, c.1 ≠ L) (w : Wd (L :: ms) ps ((L, vs) :: cs) H0 H) (k : Keep (L :: ms) H1 H) (r : repL (L :: ms) H (ys.map eb) vs) (hn : ys.length ≤ n) (hr : rep (L :: ms) H (eb y) u) :
    Trn ms ps cs H0 H1 L eb (n + 1) (ys ++ [y]) (vs ++ [u]) (upd H L (.lst (vs ++ [u]))) := by
  refine ⟨w.put hc, keep_put List.mem_cons_self k, ?_, by rw [List.length_append]; exact Nat.add_le_add_right hn 1⟩
  rw [List.map_append]
  exact repL_put List.mem_cons_self (repL_app r (repL_one hr))
theorem new_ne {L : Addr} (w : Wd ms ps cs H0 H1) (nl : H1 L = none) : ∀ c ∈ cs, c.1 ≠ L := fun c h z => by
  have q := (w.cel c h).1
  rw [z, nl] at q
  cases q
theorem Trn.start {L : Addr} {eb : β → D} (w : Wd ms ps cs H0 H1) (nl : H1 L = none) : Trn ms ps cs H0 H1 L eb 0 [] [] (upd H1 L (.lst [])) :=
  ⟨w.cell nl, fun a o n h => by rw [upd_ne (ne_of_none h nl)]; exact h, repL_nil, Nat.le_refl _⟩
theorem Trn.done {L : Addr} {eb : β → D} {n : Nat} {ys : List β} {vs : List V} {H : Hp} (w : Wd ms ps cs H0 H1) (nl : H1 L = none) (t : Trn ms ps cs H0 H1 L eb n ys vs H) : Wd ms ps cs H0 H ∧ Keep ms H1 H ∧ rep ms H (.lst (ys.map eb)) (.ref L) := by
  refine ⟨t.w.froze w.pm fun c h => (w.cel c h).2.1, fun a o n h => t.k a o (fun z => ?_) h, ?_⟩
  · rcases List.mem_cons.mp z with z | z
    · rw [z, nl] at h
      cases h
    · exact n z
  · simp only [rep]
    exact ⟨L, vs, rfl, fun z => w.tr L z nl, (t.w.cel _ List.mem_cons_self).1, repL_weak t.r⟩

/-- [e for x in range(lo, hi)] -/
theorem lc_rangeC {lo hi : Int} {N : Nat} {L : Addr} {eb : β → D} {body : Int → (β → Prop) → Prop} {KM : List β → Prop} (hN : N = (hi - lo).toNat) (w : Wd ms ps cs H0 H1) (nl : H1 L = none) (hM : (rangeI lo hi).length < 100000 ∧ mapC body (rangeI lo hi) [] KM)
    (hs : ∀ (x : Int) (n : Nat) (ys : List β) (vs : List V) (k : β → Prop) (H : Hp), n < 100000 → Trn ms ps cs H0 H1 L eb n ys vs H → body x k → ∀ Nx : Hp → Prop, (∀ y vs' H', k y → Trn ms ps cs H0 H1 L eb (n + 1) (ys ++ [y]) vs' H' → Nx H') →
      g (.int x) (wipe σ vl) H fun σ2 H2 => wipe σ2 vl = wipe σ vl ∧ tt σ2 H2 fun b H3 => if b = true then te σ2 H3 fun y H4 => ∃ acc, H4 L = some (.lst acc) ∧ acc.length < sizeLine ∧ Nx (upd H4 L (.lst (acc ++ [y]))) else Nx H3)
    (hd : ∀ ys H, KM ys → Wd ms ps cs H0 H → Keep ms H1 H → rep ms H (.lst (ys.map eb)) (.ref L) → Qd H) :
    ∃ W : Nat → Nat → Hp → Prop, (∃ m, W 0 m (upd H1 L (.lst []))) ∧ ∀ i m H, W i m H →
      ((Itr lo N).stop i H ∧ Qd H) ∨ ((Itr lo N).go i H ∧ ∃ Nx : Hp → Prop, (∀ H', Nx H' → ∃ m', m' < m ∧ W (i + 1) m' H') ∧ ∀ x H', (Itr lo N).yld i H x H' → g x (wipe σ vl) H' fun σ2 H2 => wipe σ2 vl = wipe σ vl ∧ tt σ2 H2 fun b H3 =>
        if b = true then te σ2 H3 fun y H4 => ∃ acc, H4 L = some (.lst acc) ∧ acc.length < sizeLine ∧ Nx (upd H4 L (.lst (acc ++ [y]))) else Nx H3) := by
  obtain ⟨hn, hM⟩ := hM
  subst hN
  rw [rangeI_len] at hn
  refine ⟨fun i m H => m = (hi - lo).toNat - i ∧ i ≤ (hi - lo).toNat ∧ ∃ ys vs, Trn ms ps cs H0 H1 L eb i ys vs H ∧ mapC body ((rangeI lo hi).drop i) ys KM, ⟨_, rfl, Nat.zero_le _, [], [], Trn.start w nl, hM⟩, ?_⟩
  rintro i m H ⟨rfl, hi', ys, vs, T, q⟩
  by_cases hlt : i < (hi - lo).toNat
  · refine .inr ⟨hlt, fun H' => i + 1 ≤ (hi - lo).toNat ∧ ∃ ys vs, Trn ms ps cs H0 H1 L eb (i + 1) ys vs H' ∧ mapC body ((rangeI lo hi).drop (i + 1)) ys KM, fun H' p' => ⟨_, by omega, rfl, p'⟩, fun x H' y => ?_⟩
    obtain ⟨e, y⟩ := y
    subst e y
    rw [drop_cons' (rangeI_get hlt)] at q
    exact hs _ i ys vs _ H' (by omega) T q _ fun y vs' H' k T' => ⟨hlt, _, _, T', k⟩
  · have e : i = (hi - lo).toNat := by omega
    refine .inl ⟨by rw [e]; exact Nat.le_refl _, ?_⟩
    have q' : KM ys := by
      rw [List.drop_of_length_le (by rw [rangeI_len]; omega)] at q
      exact q
    obtain ⟨w', k', r'⟩ := T.done w nl
    exact hd ys H q' w' k' r'
/-- [e for x in xs] -/
theorem lc_listC {items : List α} {a : Addr} {xs : List V} {L : Addr} {e : α → D} {eb : β → D} {body : α → (β → Prop) → Prop} {KM : List β → Prop} (w : Wd ms ps cs H0 H1) (an : a ∉ ms) (ha : H1 a = some (.lst xs)) (hx : repL ms H1 (items.map e) xs) (nl : H1 L = none) (hM : items.length < 100000 ∧ mapC body items [] KM)
    (hs : ∀ (x : α) (u : V) (n : Nat) (ys : List β) (vs : List V) (k : β → Prop) (H : Hp), n < 100000 → Trn ms ps cs H0 H1 L eb n ys vs H → rep (L :: ms) H (e x) u → body x k → ∀ Nx : Hp → Prop, (∀ y vs' H', k y → Trn ms ps cs H0 H1 L eb (n + 1) (ys ++ [y]) vs' H' → Nx H') →
      g u (wipe σ vl) H fun σ2 H2 => wipe σ2 vl = wipe σ vl ∧ tt σ2 H2 fun b H3 => if b = true then te σ2 H3 fun y H4 => ∃ acc, H4 L = some (.lst acc) ∧ acc.length < sizeLine ∧ Nx (upd H4 L (.lst (acc ++ [y]))) else Nx H3)
    (hd : ∀ ys H, KM ys → Wd ms ps cs H0 H → Keep ms H1 H → rep ms H (.lst (ys.map eb)) (.ref L) → Qd H) :
    ∃ W : Nat → Nat → Hp → Prop, (∃ m, W 0 m (upd H1 L (.lst []))) ∧ ∀ i m H, W i m H →
      ((Itl K a).stop i H ∧ Qd H) ∨ ((Itl K a).go i H ∧ ∃ Nx : Hp → Prop, (∀ H', Nx H' → ∃ m', m' < m ∧ W (i + 1) m' H') ∧ ∀ x H', (Itl K a).yld i H x H' → g x (wipe σ vl) H' fun σ2 H2 => wipe σ2 vl = wipe σ vl ∧ tt σ2 H2 fun b H3 =>
        if b = true then te σ2 H3 fun y H4 => ∃ acc, H4 L = some (.lst acc) ∧ acc.length < sizeLine ∧ Nx (upd H4 L (.lst (acc ++ [y]))) else Nx H3) := by
  obtain ⟨hn, hM⟩ := hM
  have hl : items.length = xs.length := by
    have := repL_len hx
    rwa [List.length_map] at this
  have aL : a ≠ L := ne_of_none ha nl
  have hx1 : repL (L :: ms) (upd H1 L (.lst [])) (items.map e) xs := repL_map (fun p o n hp => ⟨fun z => by
    rcases List.mem_cons.mp z with z | z
    · exact ne_of_none hp nl z
    · exact n z, by rw [upd_ne (ne_of_none hp nl)]; exact hp⟩) _ _ hx
  have aM : a ∉ L :: ms := fun z => by
    rcases List.mem_cons.mp z with z | z
    · exact aL z
    · exact an z
  refine ⟨fun i m H => m = xs.length - i ∧ i ≤ xs.length ∧ ∃ ys vs, Trn ms ps cs H0 H1 L eb i ys vs H ∧ Keep (L :: ms) (upd H1 L (.lst [])) H ∧ mapC body (items.drop i) ys KM, ⟨_, rfl, Nat.zero_le _, [], [], Trn.start w nl, Keep.refl, hM⟩, ?_⟩
  rintro i m H ⟨rfl, hi', ys, vs, T, kp, q⟩
  have hA : H a = some (.lst xs) := kp a _ aM (by rw [upd_ne aL]; exact ha)
  by_cases hlt : i < xs.length
  · refine .inr ⟨⟨xs, xs[i], .inl (.inl hA), by simp [hlt]⟩, fun H' => i + 1 ≤ xs.length ∧ ∃ ys vs, Trn ms ps cs H0 H1 L eb (i + 1) ys vs H' ∧ Keep (L :: ms) (upd H1 L (.lst [])) H' ∧ mapC body (items.drop (i + 1)) ys KM, fun H' p' => ⟨_, by omega, rfl, p'⟩, fun x H' y => ?_⟩
    obtain ⟨e1, y⟩ := y
    subst e1
    have hxi := y xs (.inl (.inl hA))
    have hit : items[i]? = some (items[i]'(by omega)) := List.getElem?_eq_getElem (by omega)
    rw [drop_cons' hit] at q
    obtain ⟨v, hv, rv⟩ := repL_get (repL_keep kp hx1) (j := i) (d := e (items[i]'(by omega))) (by rw [List.getElem?_map, hit]; rfl)
    rw [hxi] at hv
    have ev : x = v := Option.some.inj hv
    subst ev
    refine hs _ x i ys vs _ H' (by omega) T rv q _ fun y vs' H'' k T' => ⟨hlt, _, _, T', fun b o n hb => ?_, k⟩
    by_cases e3 : b = L
    · exact absurd (by rw [e3]; exact List.mem_cons_self) n
    · rw [upd_ne e3] at hb
      exact T'.k b o n hb
  · have e1 : i = xs.length := by omega
    refine .inl ⟨⟨xs, .inl (.inl hA), by omega⟩, ?_⟩
    have q' : KM ys := by
      rw [List.drop_of_length_le (by omega)] at q
      exact q
    obtain ⟨w', k', r'⟩ := T.done w nl
    exact hd ys H q' w' k' r'
end

/-! ### comprehensions with a test -/
section
variable {α β : Type} {K : PySem.W.Frag} {ms ps : List Addr} {cs : List (Addr × List V)} {H0 H1 : Hp} {g : TG} {tt : TT} {te : TE} {vl : List Nat} {σ : L2.St} {Qd : Hp → Prop}
theorem Trn.skip {L : Addr} {eb : β → D} {n : Nat} {ys : List β} {vs : List V} {H : Hp} (t : Trn ms ps cs H0 H1 L eb n ys vs H) : Trn ms ps cs H0 H1 L eb (n + 1) ys vs H := ⟨t.w, t.k, t.r, Nat.le_succ_of_le t.n⟩
theorem lf_listC {items : List α} {a : Addr} {xs : List V} {L : Addr} {e : α → D} {eb : β → D} {body : α → (Option β → Prop) → Prop} {KM : List β → Prop} (w : Wd ms ps cs H0 H1) (an : a ∉ ms) (ha : H1 a = some (.lst xs)) (hx : repL ms H1 (items.map e) xs) (nl : H1 L = none) (hM : items.length < 100000 ∧ filC body items [] KM)
    (hs : ∀ (x : α) (u : V) (n : Nat) (ys : List β) (vs : List V) (k : Option β → Prop) (H : Hp), n < 100000 → Trn ms ps cs H0 H1 L eb n ys vs H → rep (L :: ms) H (e x) u → body x k → ∀ Nx : Hp → Prop,
        (∀ y vs' H', k (some y) → Trn ms ps cs H0 H1 L eb (n + 1) (ys ++ [y]) vs' H' → Nx H') → (∀ vs' H', k none → Trn ms ps cs H0 H1 L eb (n + 1) ys vs' H' → Nx H') →
      g u (wipe σ vl) H fun σ2 H2 => wipe σ2 vl = wipe σ vl ∧ tt σ2 H2 fun b H3 => if b = true then te σ2 H3 fun y H4 => ∃ acc, H4 L = some (.lst acc) ∧ acc.length < sizeLine ∧ Nx (upd H4 L (.lst (acc ++ [y]))) else Nx H3)
    (hd : ∀ ys H, KM ys → Wd ms ps cs H0 H → Keep ms H1 H → rep ms H (.lst (ys.map eb)) (.ref L) → Qd H) :
    ∃ W : Nat → Nat → Hp → Prop, (∃ m, W 0 m (upd H1 L (.lst []))) ∧ ∀ i m H, W i m H →
      ((Itl K a).stop i H ∧ Qd H) ∨ ((Itl K a).go i H ∧ ∃ Nx : Hp → Prop, (∀ H', Nx H' → ∃ m', m' < m ∧ W (i + 1) m' H') ∧ ∀ x H', (Itl K a).yld i H x H' → g x (wipe σ vl) H' fun σ2 H2 => wipe σ2 vl = wipe σ vl ∧ tt σ2 H2 fun b H3 =>
        if b = true then te σ2 H3 fun y H4 => ∃ acc, H4 L = some (.lst acc) ∧ acc.length < sizeLine ∧ Nx (upd H4 L (.lst (acc ++ [y]))) else Nx H3) := by
  obtain ⟨hn, hM⟩ := hM
  have hl : items.length = xs.length := by
    have := repL_len hx
    rwa [List.length_map] at this
  have aL : a ≠ L := ne_of_none ha nl
  have hx1 : repL (L :: ms) (upd H1 L (.lst [])) (items.map e) xs := repL_map (fun p o n hp => ⟨fun z => by
    rcases List.mem_cons.mp z with z | z
    · exact ne_of_none hp nl z
    · exact n z, by rw [upd_ne (ne_of_none hp nl)]; exact hp⟩) _ _ hx
  have aM : a ∉ L :: ms := fun z => by
    rcases List.mem_cons.mp z with z | z
    · exact aL z
    · exact an z
  refine ⟨fun i m H => m = xs.length - i ∧ i ≤ xs.length ∧ ∃ ys vs, Trn ms ps cs H0 H1 L eb i ys vs H ∧ Keep (L :: ms) (upd H1 L (.lst [])) H ∧ filC body (items.drop i) ys KM, ⟨_, rfl, Nat.zero_le _, [], [], Trn.start w nl, Keep.refl, hM⟩, ?_⟩
  rintro i m H ⟨rfl, hi', ys, vs, T, kp, q⟩
  have hA : H a = some (.lst xs) := kp a _ aM (by rw [upd_ne aL]; exact ha)
  by_cases hlt : i < xs.length
  · refine .inr ⟨⟨xs, xs[i], .inl (.inl hA), by simp [hlt]⟩, fun H' => i + 1 ≤ xs.length ∧ ∃ ys vs, Trn ms ps cs H0 H1 L eb (i + 1) ys vs H' ∧ Keep (L :: ms) (upd H1 L (.lst [])) H' ∧ filC body (items.drop (i + 1)) ys KM, fun H' p' => ⟨_, by omega, rfl, p'⟩, fun x H' y => ?_⟩
    obtain ⟨e1, y⟩ := y
    subst e1
    have hxi := y xs (.inl (.inl hA))
    have hit : items[i]? = some (items[i]'(by omega)) := List.getElem?_eq_getElem (by omega)
    rw [drop_cons' hit] at q
    obtain ⟨v, hv, rv⟩ := repL_get (repL_keep kp hx1) (j := i) (d := e (items[i]'(by omega))) (by rw [List.getElem?_map, hit]; rfl)
    rw [hxi] at hv
    have ev : x = v := Option.some.inj hv
    subst ev
    have kk : ∀ {ys'} {vs'} {H''}, Trn ms ps cs H0 H1 L eb (i + 1) ys' vs' H'' → Keep (L :: ms) (upd H1 L (.lst [])) H'' := fun {ys' vs' H''} T' b o n hb => by
      by_cases e3 : b = L
      · exact absurd (by rw [e3]; exact List.mem_cons_self) n
      · rw [upd_ne e3] at hb
        exact T'.k b o n hb
    exact hs _ x i ys vs _ H' (by omega) T rv q _ (fun y vs' H'' k T' => ⟨hlt, _, _, T', kk T', k⟩) (fun vs' H'' k T' => ⟨hlt, _, _, T', kk T', k⟩)
  · have e1 : i = xs.length := by omega
    refine .inl ⟨⟨xs, .inl (.inl hA), by omega⟩, ?_⟩
    have q' : KM ys := by
      rw [List.drop_of_length_le (by omega)] at q
      exact q
    obtain ⟨w', k', r'⟩ := T.done w nl
    exact hd ys H q' w' k' r'
/-- an element's end -/
theorem lc_end {L : Addr} {eb : β → D} {n : Nat} {ys : List β} {vs : List V} {H : Hp} {y : β} {u : V} {Nx : Hp → Prop} (hc : ∀ c ∈ cs, c.1 ≠ L) (hn : n < 100000) (w : Wd (L :: ms) ps ((L, vs) :: cs) H0 H) (k : Keep (L :: ms) H1 H) (r : repL (L :: ms) H (ys.map eb) vs) (hy : ys.length ≤ n) (hr : rep (L :: ms) H (eb y) u)
    (h : ∀ vs' H', Trn ms ps cs H0 H1 L eb (n + 1) (ys ++ [y]) vs' H' → Nx H') : ∃ acc, H L = some (.lst acc) ∧ acc.length < sizeLine ∧ Nx (upd H L (.lst (acc ++ [u]))) := by
  refine ⟨vs, (w.cel _ List.mem_cons_self).1, ?_, h _ _ (Trn.add hc w k r hy hr)⟩
  have q := repL_len r
  rw [List.length_map] at q
  have e : sizeLine = 16777216 := sizeLine_eq
  omega
end

/-! ### for -/
section
variable {α S : Type} {K : PySem.W.Frag} {ms ps : List Addr} {H0 H1 : Hp} {g : TG} {tb : TS} {D' : Ends} {σ : L2.St} {cs : S → List (Addr × List V)}
/-- for x in range(lo, hi) -/
theorem for_rangeC {lo hi : Int} {N : Nat} {body : Int → S → (S → Prop) → Prop} {KM : S → Prop} (SI : S → L2.St → Hp → Prop) (s0 : S) (hN : N = (hi - lo).toNat) (w : Wd ms ps (cs s0) H0 H1) (hM : forC body (rangeI lo hi) s0 KM) (h0 : SI s0 σ H1)
    (hs : ∀ (x : Int) (s : S) (k : S → Prop) (σ : L2.St) (H : Hp), Wd ms ps (cs s) H0 H → Keep ms H1 H → SI s σ H → body x s k → ∀ Nx : L2.St → Hp → Prop, (∀ s' σ' H', k s' → Wd ms ps (cs s') H0 H' → Keep ms H1 H' → SI s' σ' H' → Nx σ' H') →
      g (.int x) σ H fun σ2 H2 => tb { D' with nx := Nx, ct := Nx, bk := D'.nx } σ2 H2)
    (hd : ∀ s σ H, KM s → Wd ms ps (cs s) H0 H → Keep ms H1 H → SI s σ H → D'.nx σ H) :
    ∃ W : Nat → Nat → L2.St → Hp → Prop, (∃ m, W 0 m σ H1) ∧ ∀ i m σ H, W i m σ H →
      ((Itr lo N).stop i H ∧ D'.nx σ H) ∨ ((Itr lo N).go i H ∧ ∃ Nx : L2.St → Hp → Prop, (∀ σ' H', Nx σ' H' → ∃ m', m' < m ∧ W (i + 1) m' σ' H') ∧ ∀ x H', (Itr lo N).yld i H x H' → g x σ H' fun σ2 H2 => tb { D' with nx := Nx, ct := Nx, bk := D'.nx } σ2 H2) := by
  subst hN
  refine for_range (lo := lo) (n := (hi - lo).toNat) (D := D') (fun i σ H => ∃ s, Wd ms ps (cs s) H0 H ∧ Keep ms H1 H ∧ SI s σ H ∧ forC body ((rangeI lo hi).drop i) s KM) ⟨s0, w, Keep.refl, h0, hM⟩ (fun i σ H hi' ⟨s, w', k', si, q⟩ => ?_) (fun σ H ⟨s, w', k', si, q⟩ => ?_)
  · rw [drop_cons' (rangeI_get hi')] at q
    exact hs _ s _ σ H w' k' si q _ fun s' σ' H' hk w2 k2 si2 => ⟨s', w2, k2, si2, hk⟩
  · rw [List.drop_of_length_le (by rw [rangeI_len]; exact Nat.le_refl _)] at q
    exact hd s σ H q w' k' si
/-- for x in xs -/
theorem for_listC {items : List α} {e : α → D} {a : Addr} {xs : List V} {body : α → S → (S → Prop) → Prop} {KM : S → Prop} (SI : S → L2.St → Hp → Prop) (s0 : S) (w : Wd ms ps (cs s0) H0 H1) (an : a ∉ ms) (ha : H1 a = some (.lst xs)) (hx : repL ms H1 (items.map e) xs) (hM : forC body items s0 KM) (h0 : SI s0 σ H1)
    (hs : ∀ (x : α) (u : V) (s : S) (k : S → Prop) (σ : L2.St) (H : Hp), Wd ms ps (cs s) H0 H → Keep ms H1 H → SI s σ H → rep ms H (e x) u → body x s k → ∀ Nx : L2.St → Hp → Prop, (∀ s' σ' H', k s' → Wd ms ps (cs s') H0 H' → Keep ms H1 H' → SI s' σ' H' → Nx σ' H') →
      g u σ H fun σ2 H2 => tb { D' with nx := Nx, ct := Nx, bk := D'.nx } σ2 H2)
    (hd : ∀ s σ H, KM s → Wd ms ps (cs s) H0 H → Keep ms H1 H → SI s σ H → D'.nx σ H) :
    ∃ W : Nat → Nat → L2.St → Hp → Prop, (∃ m, W 0 m σ H1) ∧ ∀ i m σ H, W i m σ H →
      ((Itl K a).stop i H ∧ D'.nx σ H) ∨ ((Itl K a).go i H ∧ ∃ Nx : L2.St → Hp → Prop, (∀ σ' H', Nx σ' H' → ∃ m', m' < m ∧ W (i + 1) m' σ' H') ∧ ∀ x H', (Itl K a).yld i H x H' → g x σ H' fun σ2 H2 => tb { D' with nx := Nx, ct := Nx, bk := D'.nx } σ2 H2) := by
  have hl : items.length = xs.length := by
    have := repL_len hx
    rwa [List.length_map] at this
  refine for_list (xs := xs) (D := D') (fun i σ H => ∃ s, Wd ms ps (cs s) H0 H ∧ Keep ms H1 H ∧ SI s σ H ∧ forC body (items.drop i) s KM) ⟨s0, w, Keep.refl, h0, hM⟩ (fun i σ H _ ⟨s, w', k', _⟩ => .inl (.inl (k' a _ an ha))) (fun i x σ H hx' ⟨s, w', k', si, q⟩ => ?_) (fun σ H ⟨s, w', k', si, q⟩ => ?_)
  · have hi : i < xs.length := (List.getElem?_eq_some_iff.mp hx').1
    have hit : items[i]? = some (items[i]'(by omega)) := List.getElem?_eq_getElem (by omega)
    rw [drop_cons' hit] at q
    obtain ⟨v, hv, rv⟩ := repL_get (repL_keep k' hx) (j := i) (d := e (items[i]'(by omega))) (by rw [List.getElem?_map, hit]; rfl)
    rw [hx'] at hv
    have ev : x = v := Option.some.inj hv
    subst ev
    exact hs _ x s _ σ H w' k' si rv q _ fun s' σ' H' hk w2 k2 si2 => ⟨s', w2, k2, si2, hk⟩
  · rw [List.drop_of_length_le (by omega)] at q
    exact hd s σ H q w' k' si
/-- while -/
theorem while_C {c : TT} {fuel : Nat} {body : S → (S → Prop) → (S → Prop) → Prop} {KM : S → Prop} (SI : S → L2.St → Hp → Prop) (s0 : S) (w : Wd ms ps (cs s0) H0 H1) (hM : whileC body fuel s0 KM) (h0 : SI s0 σ H1)
    (hs : ∀ (s : S) (k1 k2 : S → Prop) (σ : L2.St) (H : Hp), Wd ms ps (cs s) H0 H → Keep ms H1 H → SI s σ H → body s k1 k2 → ∀ (Nx : L2.St → Hp → Prop) (Ex : L2.St → Hp → Prop), (∀ s' σ' H', k1 s' → Wd ms ps (cs s') H0 H' → Keep ms H1 H' → SI s' σ' H' → Nx σ' H') → (∀ s' σ' H', k2 s' → Wd ms ps (cs s') H0 H' → Keep ms H1 H' → SI s' σ' H' → Ex σ' H') →
      c σ H fun b H1 => if b = true then tb { D' with nx := Nx, ct := Nx, bk := D'.nx } σ H1 else Ex σ H1)
    (hd : ∀ s σ H, KM s → Wd ms ps (cs s) H0 H → Keep ms H1 H → SI s σ H → D'.nx σ H)
    (mono : ∀ σ H Q Q', (∀ b H1, Q b H1 → Q' b H1) → c σ H Q → c σ H Q') : tWhile c tb D' σ H1 := by
  refine ⟨fun m σ H => ∃ s, Wd ms ps (cs s) H0 H ∧ Keep ms H1 H ∧ SI s σ H ∧ whileC body m s KM, ⟨fuel, s0, w, Keep.refl, h0, hM⟩, ?_⟩
  rintro m σ H ⟨s, w', k', si, q⟩
  cases m with
  | zero => exact False.elim q
  | succ m =>
    refine mono _ _ _ _ (fun b H2 hb => ?_) (hs s _ _ σ H w' k' si q (fun σ' H' => ∃ s, Wd ms ps (cs s) H0 H' ∧ Keep ms H1 H' ∧ SI s σ' H' ∧ whileC body m s KM) D'.nx (fun s' σ' H' hk w2 k2 si2 => ⟨s', w2, k2, si2, hk⟩) fun s' σ' H' hk w2 k2 si2 => hd s' σ' H' hk w2 k2 si2)
    cases b with
    | true => exact ⟨_, fun σ' H' p => ⟨m, Nat.lt_succ_self m, p⟩, hb⟩
    | false => exact hb
end

section
variable {K : PySem.W.Frag} {ms : List Addr} {H : Hp} {d : D} {u x y : V}
theorem repL_uncons {ds : List D} {vs : List V} (h : repL ms H (d :: ds) vs) : ∃ u us, vs = u :: us ∧ rep ms H d u ∧ repL ms H ds us := by
  simp only [repL] at h
  exact h
theorem repL_empty {vs : List V} (h : repL ms H [] vs) : vs = [] := by
  simp only [repL] at h
  exact h
theorem repL_ints {ns : List Int} {vs : List V} (h : repL ms H (ns.map fun n => D.v (.int n)) vs) : vs = ns.map V.int := by
  have e : (ns.map fun n => D.v (.int n)) = (ns.map V.int).map D.v := by rw [List.map_map]; rfl
  rw [e] at h
  exact repL_flat.mp h
theorem repL_strs {ns : List Str} {vs : List V} (h : repL ms H (ns.map fun n => D.v (.str n)) vs) : vs = ns.map V.str := by
  have e : (ns.map fun n => D.v (.str n)) = (ns.map V.str).map D.v := by rw [List.map_map]; rfl
  rw [e] at h
  exact repL_flat.mp h
theorem repL_bls {ns : List Bool} {vs : List V} (h : repL ms H (ns.map fun n => D.v (.bl n)) vs) : vs = ns.map V.bl := by
  have e : (ns.map fun n => D.v (.bl n)) = (ns.map V.bl).map D.v := by rw [List.map_map]; rfl
  rw [e] at h
  exact repL_flat.mp h
theorem rep_join {a : Str} {ys : List Str} {P : Str → List Str → Prop} (h : rep ms H (.lst (ys.map fun n => D.v (.str n))) x) (hz : (ys.map (·.length)).sum + ys.length * a.length ≤ 16777216) (k : P a ys) :
    ∃ a' p, ∃ ys : List Str, V.str a = .str a' ∧ [x] = [.ref p] ∧ (SqL K H p (ys.map V.str) ∨ SqT K H p (ys.map V.str)) ∧ (ys.map (·.length)).sum + ys.length * a'.length ≤ 16777216 ∧ P a' ys := by
  simp only [rep] at h
  obtain ⟨p, vs, e, _, hp, hr⟩ := h
  have ev := repL_strs hr
  subst ev e
  exact ⟨a, p, ys, rfl, rfl, .inl (.inl (.inl hp)), hz, k⟩
theorem rep_all {ys : List Bool} {P : List Bool → Prop} (h : rep ms H (.lst (ys.map fun n => D.v (.bl n))) x) (k : P ys) : ∃ (a : Addr) (bs : List Bool), [x] = [V.ref a] ∧ SqL K H a (bs.map V.bl) ∧ P bs := by
  simp only [rep] at h
  obtain ⟨p, vs, e, _, hp, hr⟩ := h
  have ev := repL_bls hr
  subst ev e
  exact ⟨p, ys, rfl, .inl (.inl hp), k⟩
/-! data as the library data, for == -/
mutual
def pyOf : D → PyData
  | .v .non => .none
  | .v (.bl b) => .bool b
  | .v (.int i) => .int i
  | .v (.str z) => .str z
  | .v _ => .none
  | .lst ds => .list (pyL ds)
  | .tup ds => .tuple (pyL ds)
  | .ins _ _ _ => .none
  | .dct _ _ => .none
def pyL : List D → List PyData
  | [] => []
  | d :: ds => pyOf d :: pyL ds
def plainD : D → Bool
  | .v .non => true
  | .v (.bl _) => true
  | .v (.int _) => true
  | .v (.str _) => true
  | .v _ => false
  | .lst ds => plainL ds
  | .tup ds => plainL ds
  | .ins _ _ _ => false
  | .dct _ _ => false
def plainL : List D → Bool
  | [] => true
  | d :: ds => plainD d && plainL ds
end
mutual
theorem dp_of : ∀ (d : D) (u : V), plainD d = true → rep ms H d u → Dp K H u (pyOf d)
  | .v x, u, p, h => by
    have e := of_v h
    subst e
    cases u <;> simp only [pyOf, plainD] at p ⊢ <;> first | exact .non | exact .bl _ | exact .int _ | exact .str _ | cases p
  | .lst ds, u, p, h => by
    simp only [rep] at h
    obtain ⟨a, vs, e, _, hp, hr⟩ := h
    subst e
    simp only [pyOf, plainD] at p ⊢
    exact .lst (.inl (.inl hp)) (dpL_of ds vs p hr)
  | .tup ds, u, p, h => by
    simp only [rep] at h
    obtain ⟨a, vs, e, _, hp, hr⟩ := h
    subst e
    simp only [pyOf, plainD] at p ⊢
    exact .tup (.inl (.inl hp)) (dpL_of ds vs p hr)
  | .ins _ _ _, u, p, h => by
    simp only [plainD] at p
    cases p
  | .dct _ _, u, p, h => by
    simp only [plainD] at p
    cases p
theorem dpL_of : ∀ (ds : List D) (vs : List V), plainL ds = true → repL ms H ds vs → DpAll K H vs (pyL ds)
  | [], vs, p, h => by
    have e := repL_empty h
    subst e
    simp only [pyL]
    exact .nil
  | d :: ds, vs, p, h => by
    obtain ⟨u, us, e, h1, h2⟩ := repL_uncons h
    subst e
    simp only [plainL, Bool.and_eq_true] at p
    simp only [pyL]
    exact .cons (dp_of d u p.1 h1) (dpL_of ds us p.2 h2)
end
theorem rep_eqD {d e : D} {Q : VK} (h1 : rep ms H d x) (h2 : rep ms H e y) (p1 : plainD d = true) (p2 : plainD e = true) (s1 : SeqAt.shaped (pyOf d) = true) (s2 : SeqAt.shaped (pyOf e) = true) (k : Q (.bl (PyData.eqv (pyOf d) (pyOf e))) H) : rEqD K x y H Q :=
  ⟨_, _, dp_of d x p1 h1, dp_of e y p2 h2, s1, s2, k⟩
theorem rep_neD {d e : D} {Q : VK} (h1 : rep ms H d x) (h2 : rep ms H e y) (p1 : plainD d = true) (p2 : plainD e = true) (s1 : SeqAt.shaped (pyOf d) = true) (s2 : SeqAt.shaped (pyOf e) = true) (k : Q (.bl (!PyData.eqv (pyOf d) (pyOf e))) H) : rNeD K x y H Q :=
  ⟨_, _, dp_of d x p1 h1, dp_of e y p2 h2, s1, s2, k⟩
end

section
variable {ms : List Addr} {H H' H1 : Hp} {d : D} {u : V} {l : Addr}
theorem Keep.trans (a : Keep ms H1 H) (b : Keep ms H H') : Keep ms H1 H' := fun x o n h => b x o n (a x o n h)
theorem Keep.new (k : Keep ms H1 H) : Keep (l :: ms) H1 H := fun x o n h => k x o (fun z => n (List.mem_cons_of_mem _ z)) h
theorem rep_new (nl : H l = none) (h : rep ms H d u) : rep (l :: ms) H d u := rep_map (fun p o n hp => ⟨fun z => by
  rcases List.mem_cons.mp z with z | z
  · exact ne_of_none hp nl z
  · exact n z, hp⟩) d u h
theorem repL_new {ds : List D} {us : List V} (nl : H l = none) (h : repL ms H ds us) : repL (l :: ms) H ds us := repL_map (fun p o n hp => ⟨fun z => by
  rcases List.mem_cons.mp z with z | z
  · exact ne_of_none hp nl z
  · exact n z, hp⟩) ds us h
end

/-! ### a method called by keywords alone -/
def tMethK (C : Addr) (m : Str) (n : Nat) (gV : List V → List V → List V) (sp : Sp) (E : XK) (ta : TE) (tk : TA) : TE := fun σ H Q => ta σ H fun x H1 => ∃ a dx fs, x = .ref a ∧ H1 a = some (.ins C dx fs) ∧ fs.lookup m = none ∧
  tk σ H1 fun zs H2 => zs.length = n ∧ sp (gV [x] zs) H2 Q E
section
variable {X : Cx} {CX : CXT} {k : Nat} {f C : Addr} {fd : FuncData} {ps ks : List Str} {sp : Sp} {E : XK} {m : Str} {apos pos : Pos} {o : Expr} {kws : List Keyword} {ta : TE} {tk : TA} {g : List Value → List Value → List Value} {gV : List V → List V → List V}
theorem pe_methK0 {pl : Sem Bool} (he : PE X o ta) (c : Cls X.K C) (hm : Meth X.K C m f) (F : FnOk X.prog X.w X.K X.mg X.base CX k f fd ps sp) (hr : Room k X.A) (hb : KBn X.K fd ps 1 ks g gV) (hx : Passes CX X E) (hkw : PK X kws tk)
    (hall : (backToKw pos (keywordEach kws X.env)).all (·.1.isSome) = true := by rfl) (hks : (backToKw pos (keywordEach kws X.env)).filterMap (·.1) = ks := by rfl)
    (hpl : ((backTo pos (starEach [] X.env)).any (·.1) || (backToKw pos (keywordEach kws X.env)).any (·.1.isNone)) = false := by rfl)
    (ht : eval (.Call (.Attribute o m apos) [] kws pos) X.env = (do
      let ov ← eval o X.env
      standAt apos.atName
      let (f, first) ← holding [ov] (getMethod ov m pl)
      callWith pos f first (backTo pos (starEach [] X.env)) (backToKw pos (keywordEach kws X.env))) := by rfl) :
    PE X (.Call (.Attribute o m apos) [] kws pos) (tMethK C m ks.length gV sp E ta tk) := by
  refine ⟨fun pins s σ H Q I h => ?_⟩
  refine PySem.W.methodCall_KW (pl := pl) (thn (he.run pins s σ H _ I h) fun u s1 ⟨x, H1, I1, rx, a, dx, fs, ex, ea, l, q⟩ => ?_) ht
  subst ex
  obtain rfl : u = Value.ref a := rx
  refine getmeth_ok I1 ea c hm l ?_
  refine PySem.W.callWith_KW0 (first := [.ref a]) (h₀ := X.base) I.ok.mod.kin hm.kp hall ?_ hpl
  refine thn (hkw.run pos pins s1 σ H1 _ I1 q) fun ws s2 ⟨zs, H2, I2, rz, l2, q2⟩ => ⟨I2.kIn, ?_⟩
  rw [hks]
  exact run_fnN (us := [.ref a]) (vs := [.ref a]) F hr hb hx I2 (.cons rfl .nil) rz rfl l2 q2
end
end Rx
namespace Rx
open PySem PySem.Spec PyProof.Rows L2
theorem vals_getD : ∀ {zs : List V} {ws : List Value}, Vals zs ws → ∀ j : Nat, RelV (zs.getD j .non) (ws.getD j .none)
  | _, _, .nil, _ => rfl
  | _, _, .cons r _, 0 => r
  | _, _, .cons _ t, j + 1 => vals_getD t j
theorem tyes_of {σ : L2.St} {H : Hp} {A B : Hp → Prop} (h : A H) : tYes σ H fun b H3 => if b = true then A H3 else B H3 := by
  show (if true = true then A H else B H)
  rw [if_pos rfl]
  exact h
theorem Ret.keep {H H' : Hp} (e : Ret [] H H') {a : Addr} {o : HO} (h : H a = some o) : H' a = some o := e.kp a o (by simp) h
end Rx
namespace Rx
open PySem PySem.Spec PyProof.Rows L2
section
variable {X : Cx}
def rMulS : R2 := fun x y H Q => ∃ (a : Str) (k : Int), x = .str a ∧ y = .int k ∧ MulOk a k ∧ Q (.str (Txt.mul a k)) H
theorem op_mulS : OpR X (binaryOp .Mult) rMulS := by
  intro pins s σ H x y v u Q I rx ry h
  obtain ⟨a, k, rfl, rfl, ok, q⟩ := h
  obtain ⟨t, rfl⟩ := rx
  obtain ⟨t', rfl⟩ := ry
  exact SB.mul ok fun t' tk => ⟨.str (Txt.mul a k), H, I.tok _, ⟨_, rfl⟩, q⟩
end

/-! own == -/
def rOwnEq (C : Addr) (sp : Sp) (E : XK) : R2 := fun x y H Q => ∃ a b dx dy fs gs, x = .ref a ∧ y = .ref b ∧ H a = some (.ins C dx fs) ∧ H b = some (.ins C dy gs) ∧ sp [x, y] H (fun v H' => ∃ r : Bool, v = .bl r ∧ Q v H') E
structure OwnEq (K : PySem.W.Frag) (C f : Addr) : Prop where
  hs : PySem.W.findIn K (.ref C) "__eq__" = some (some (.ref f))
  hf : PySem.W.isFn K (.ref f) = true
theorem op_eqOwn {X : Cx} {n : Nat} {CX : CXT} {C f : Addr} {fd : FuncData} {ps : List Str} {sp : Sp} {E : XK} (F : FnOk X.prog X.w X.K X.mg X.base CX n f fd ps sp) (hr : Room n X.A)
    (o : OwnEq X.K C f) (hb : Binds X.K fd ps []) (hx : Passes CX X E) : OpR X (compareOp .Eq) (rOwnEq C sp E) := by
  intro pins s σ H x y v u Q I rx ry d
  show wpAny (model X.prog X.w) X.A (richCompare .Eq v u) (EP X pins σ Q) X.xe s
  obtain ⟨a, b, dx, dy, fs, gs, rfl, rfl, ha, hb', hsp⟩ := d
  cases rx
  cases ry
  obtain ⟨mA, J, _⟩ := ins_get I.hok ha
  obtain ⟨mB, J', _⟩ := ins_get I.hok hb'
  obtain ⟨od, J, _⟩ := J.look
  obtain ⟨od', J', _⟩ := J'.look
  obtain ⟨m, hF⟩ := I.fr
  refine PySem.W.cmp_K (op := .Eq) (tb := .ref C) hr.units0 hF I.ok.mod.kin J J'.type (by simp [PySem.W.notFirst]) o.hs o.hf ?_
  have hl := F.len _ _ _ _ hsp
  have r2 : Vals [V.ref a, V.ref b] [Value.ref a, Value.ref b] := .cons rfl (.cons rfl .nil)
  refine wpAny_call (codeAny_mono (F.run X.A X.stack s H ⟨[.ref a, .ref b], []⟩ [.ref a, .ref b] [.ref a, .ref b] _ E hr I.env0 (by
    have := hb s [.ref a, .ref b] I.kIn (by simpa using hl)
    simpa using this) r2 hsp) fun r s' hq => ?_)
  cases r with
  | error e => exact hx pins σ H s e s' I hq
  | ok fl =>
    cases fl with
    | ret w =>
      obtain ⟨z, H', I', rz, ⟨r, ez, q⟩⟩ := I.after hq
      subst ez
      cases (show w = Value.bool r from rz)
      exact ⟨.bl r, H', I', rfl, q⟩
    | next => exact False.elim hq
    | brk => exact False.elim hq
    | cont => exact False.elim hq
section
variable {K : PySem.W.Frag} {ms ps : List Addr} {cs : List (Addr × List V)} {H H0 H1 : Hp} {d : D} {u x y : V}
theorem rep_ins {C : Addr} {ns : List Str} {ds : List D} (h : rep ms H (.ins C ns ds) u) : ∃ p dx fs, u = .ref p ∧ H p = some (.ins C dx fs) := by
  simp only [rep] at h
  obtain ⟨p, dx, vs, e, _, hp, _⟩ := h
  exact ⟨p, dx, _, e, hp⟩
theorem rep_eqOwn {C : Addr} {ns ns' : List Str} {ds ds' : List D} {sp : Sp} {E : XK} {Q : VK} (h1 : rep ms H (.ins C ns ds) x) (h2 : rep ms H (.ins C ns' ds') y) (k : sp [x, y] H (fun v H' => ∃ r : Bool, v = .bl r ∧ Q v H') E) : rOwnEq C sp E x y H Q := by
  obtain ⟨p, dx, fs, e, hp⟩ := rep_ins h1
  obtain ⟨q, dy, gs, e', hq⟩ := rep_ins h2
  subst e e'
  exact ⟨p, q, dx, dy, fs, gs, rfl, rfl, hp, hq, k⟩
/-! list + list -/
theorem rep_cat {α : Type} {xs ys : List α} {e : α → D} {Q : VK} (w : Wd ms ps cs H0 H) (h1 : rep ms H (.lst (xs.map e)) x) (h2 : rep ms H (.lst (ys.map e)) y) (hz : xs.length + ys.length ≤ sizeLine)
    (k : ∀ p H', Ret [] H H' → rep ms H' (.lst ((xs ++ ys).map e)) (.ref p) → Q (.ref p) H') : rCat x y H Q := by
  simp only [rep] at h1 h2
  obtain ⟨p, vs, rfl, np, hp, r1⟩ := h1
  obtain ⟨q, us, rfl, nq, hq, r2⟩ := h2
  have l1 := repL_len r1
  have l2 := repL_len r2
  rw [List.length_map] at l1 l2
  refine ⟨p, q, vs, us, rfl, rfl, hp, hq, by rw [← l1, ← l2]; exact hz, fun a na => ?_⟩
  have ee : Ret [] H (upd H a (.lst (vs ++ us))) := Ext.new na
  refine k a _ ee ?_
  simp only [rep]
  refine ⟨a, vs ++ us, rfl, fun z => w.tr a z na, upd_same, ?_⟩
  rw [List.map_append]
  exact repL_app (repL_ext ee r1) (repL_ext ee r2)
/-! isinstance(x, C), x of the class C -/
structure IsC (K : PySem.W.Frag) (C : Addr) : Prop where
  cl : Cls K C
  ha : PySem.W.findIn K (.ref C) "__class__" = some (some (.builtin "object.__class__"))
  hn : PySem.W.specialIn K (.builtin "object.__class__") "__get__" = some (some (.builtin "getset_descriptor.__get__"))
  tk : PySem.W.takesIn K (.builtin "object.__class__") = some true
  hm : PySem.W.mroIn K C (.type "object") = some true
theorem rep_isi {C : Addr} {ns : List Str} {ds : List D} {P : Bool → Prop} (h : rep ms H (.ins C ns ds) x) (c : IsC K C) (k : P true) :
    ∃ (x' c : V) (t u : Value) (b : Bool), [x, .ref C] = [x', c] ∧ ClsV c u ∧ TyX K H x' t ∧ PySem.W.kitOne K t u = some b ∧ P b := by
  obtain ⟨p, dx, fs, e, hp⟩ := rep_ins h
  subst e
  refine ⟨_, _, _, _, true, rfl, .own C, .base (.ins hp c.cl c.ha c.hn c.tk c.hm), ?_, k⟩
  simp [PySem.W.kitOne]
/-! list.count of texts -/
def rCntS (K : PySem.W.Frag) : V → List V → Hp → VK → Prop := fun x xs H Q => ∃ (p : Addr) (ns : List Str) (k : Str), x = .ref p ∧ xs = [.str k] ∧ SqL K H p (ns.map V.str) ∧ Q (.int (ns.count k : Nat)) H
def eqs (k : Str) (v : Value) : Bool := match v with
  | .str n _ => n == k
  | _ => false
theorem eqs_at {A : Around} {s : Shared} {k : Str} {t : Tok} : ∀ {ns : List Str} {us : List Value}, Vals (ns.map V.str) us → ∀ y ∈ us, SeqAt.EqAt A s y (.str k t) (eqs k y)
  | [], _, .nil => fun y hy => by cases hy
  | n :: ns, _, .cons r h => fun y hy => by
    rcases List.mem_cons.mp hy with e | e
    · subst e
      obtain ⟨t', rfl⟩ := r
      exact SeqAt.EqAt.str_str n t' k t
    · exact eqs_at h y e
theorem eqs_count {k : Str} : ∀ {ns : List Str} {us : List Value}, Vals (ns.map V.str) us → us.countP (eqs k) = ns.count k
  | [], _, .nil => rfl
  | n :: ns, _, .cons r h => by
    have ih := eqs_count (k := k) h
    obtain ⟨t', rfl⟩ := r
    rw [List.countP_cons, List.count_cons, ih] <;> rfl
theorem mt_lcountS {X : Cx} : MtR X "list.count" (rCntS X.K) := by
  intro pins s σ H x xs v us Q I rx rxs h
  obtain ⟨p, ns, k, rfl, rfl, hs, q⟩ := h
  cases rx
  obtain ⟨u, rfl, ru⟩ := rxs.one
  obtain ⟨t, rfl⟩ := ru
  obtain ⟨its, rv, ⟨⟨cls, dd, data, sl⟩, n, ho, hc, hdn, hd⟩, hlen⟩ := I.list hs
  simp only at hc hd
  subst hc hd
  refine call_meets PySem.F.slot_list_count ⟨_, ho, rfl⟩ PySem.F.entry_list_count (PySem.F.args_list_count_2 _ _)
    (SeqAt.list_countAt p its.toArray n dd sl (.str k t) (eqs k)) ⟨ho, fun y hy => eqs_at rv y (by simpa using hy), ?_⟩
  have ec : its.toArray.toList.countP (eqs k) = ns.count k := eqs_count rv
  refine ⟨.int (ns.count k : Nat), H, I.tok _, ⟨s.toks, ?_⟩, q⟩
  show Value.int ((its.toArray.toList.countP (eqs k) : Nat) : Int) s.toks = Value.int ((ns.count k : Nat) : Int) s.toks
  rw [ec]
theorem rep_lcountS {ns : List Str} {k : Str} {P : List Str → Str → Prop} (h : rep ms H (.lst (ns.map fun n => D.v (.str n))) x) (q : P ns k) :
    ∃ (p : Addr) (ns : List Str) (k' : Str), x = .ref p ∧ [V.str k] = [.str k'] ∧ SqL K H p (ns.map V.str) ∧ P ns k' := by
  simp only [rep] at h
  obtain ⟨p, vs, e, _, hp, hr⟩ := h
  have ev := repL_strs hr
  subst ev e
  exact ⟨p, ns, k, rfl, rfl, .inl (.inl hp), q⟩
/-! written dicts of texts -/
theorem kd_nil {w : World} {a : Addr} : ∀ z c : Str, ([] : List (Str × Str)).lookup z = some c → KDct K w a z (.str c) := fun _ _ h => by cases h
theorem kd_cons {w : World} {a : Addr} {k v : Str} {l : List (Str × Str)} (h : KDct K w a k (.str v)) (t : ∀ z c : Str, l.lookup z = some c → KDct K w a z (.str c)) : ∀ z c : Str, ((k, v) :: l).lookup z = some c → KDct K w a z (.str c) := by
  intro z c e
  rw [List.lookup_cons] at e
  by_cases q : (z == k) = true
  · rw [q] at e
    have e1 : v = c := Option.some.inj e
    subst e1
    rw [eq_of_beq q]
    exact h
  · have q' : (z == k) = false := by simpa using q
    rw [q'] at e
    exact t z c e
theorem rep_ixD {w : World} {a : Addr} {l : List (Str × Str)} {z c : Str} {Q : VK} (t : ∀ z c : Str, l.lookup z = some c → KDct K w a z (.str c)) (h : l.lookup z = some c) (q : Q (.str c) H) : rIxD K w (.ref a) (.str z) H Q :=
  ⟨a, z, .str c, rfl, rfl, t z c h, q⟩
theorem ix_kdictW {X : Cx} {w : World} (hK : X.K = K) (hw : X.w = w) : IxR X (rIxD K w) := by
  subst hK hw
  exact ix_kdict
theorem rep_tyL {ds : List D} (h : rep ms H (.lst ds) x) : tyV K "list" x H := by
  simp only [rep] at h
  obtain ⟨p, vs, e, _, hp, hr⟩ := h
  subst e
  exact .inl ⟨rfl, vs, .inl (.inl hp)⟩
end
/-! the signs of a text -/
def signs (x : Str) : List Str := x.cps.toList.map fun c => ⟨#[c]⟩
theorem signs_len {x : Str} : (signs x).length = x.cps.size := by simp [signs]
theorem signs_get {x : Str} {i : Nat} {c : Nat} (h : x.cps[i]? = some c) : (signs x)[i]? = some ⟨#[c]⟩ := by
  simp only [signs, List.getElem?_map, Array.getElem?_toList, h]
  rfl
section
variable {β : Type} {K : PySem.W.Frag} {ms ps : List Addr} {cs : List (Addr × List V)} {H0 H1 : Hp} {g : TG} {tt : TT} {te : TE} {vl : List Nat} {σ : L2.St} {Qd : Hp → Prop}
/-- [e for x in text] -/
theorem lc_strC {z : Str} {L : Addr} {eb : β → D} {body : Str → (β → Prop) → Prop} {KM : List β → Prop} (w : Wd ms ps cs H0 H1) (nl : H1 L = none) (hM : (signs z).length < 100000 ∧ mapC body (signs z) [] KM)
    (hs : ∀ (x : Str) (n : Nat) (ys : List β) (vs : List V) (k : β → Prop) (H : Hp), n < 100000 → Trn ms ps cs H0 H1 L eb n ys vs H → body x k → ∀ Nx : Hp → Prop, (∀ y vs' H', k y → Trn ms ps cs H0 H1 L eb (n + 1) (ys ++ [y]) vs' H' → Nx H') →
      g (.str x) (wipe σ vl) H fun σ2 H2 => wipe σ2 vl = wipe σ vl ∧ tt σ2 H2 fun b H3 => if b = true then te σ2 H3 fun y H4 => ∃ acc, H4 L = some (.lst acc) ∧ acc.length < sizeLine ∧ Nx (upd H4 L (.lst (acc ++ [y]))) else Nx H3)
    (hd : ∀ ys H, KM ys → Wd ms ps cs H0 H → Keep ms H1 H → rep ms H (.lst (ys.map eb)) (.ref L) → Qd H) :
    ∃ W : Nat → Nat → Hp → Prop, (∃ m, W 0 m (upd H1 L (.lst []))) ∧ ∀ i m H, W i m H →
      ((Its z).stop i H ∧ Qd H) ∨ ((Its z).go i H ∧ ∃ Nx : Hp → Prop, (∀ H', Nx H' → ∃ m', m' < m ∧ W (i + 1) m' H') ∧ ∀ x H', (Its z).yld i H x H' → g x (wipe σ vl) H' fun σ2 H2 => wipe σ2 vl = wipe σ vl ∧ tt σ2 H2 fun b H3 =>
        if b = true then te σ2 H3 fun y H4 => ∃ acc, H4 L = some (.lst acc) ∧ acc.length < sizeLine ∧ Nx (upd H4 L (.lst (acc ++ [y]))) else Nx H3) := by
  obtain ⟨hn, hM⟩ := hM
  rw [signs_len] at hn
  refine ⟨fun i m H => m = z.cps.size - i ∧ i ≤ z.cps.size ∧ ∃ ys vs, Trn ms ps cs H0 H1 L eb i ys vs H ∧ mapC body ((signs z).drop i) ys KM, ⟨_, rfl, Nat.zero_le _, [], [], Trn.start w nl, hM⟩, ?_⟩
  rintro i m H ⟨rfl, hi', ys, vs, T, q⟩
  by_cases hlt : i < z.cps.size
  · refine .inr ⟨hlt, fun H' => i + 1 ≤ z.cps.size ∧ ∃ ys vs, Trn ms ps cs H0 H1 L eb (i + 1) ys vs H' ∧ mapC body ((signs z).drop (i + 1)) ys KM, fun H' p' => ⟨_, by omega, rfl, p'⟩, fun x H' y => ?_⟩
    obtain ⟨e, c, hc, y⟩ := y
    subst e y
    rw [drop_cons' (signs_get hc)] at q
    exact hs _ i ys vs _ H' (by omega) T q _ fun y vs' H' k T' => ⟨hlt, _, _, T', k⟩
  · have e : i = z.cps.size := by omega
    refine .inl ⟨by rw [e]; exact Nat.le_refl _, ?_⟩
    have q' : KM ys := by
      rw [List.drop_of_length_le (by rw [signs_len]; omega)] at q
      exact q
    obtain ⟨w', k', r'⟩ := T.done w nl
    exact hd ys H q' w' k' r'
end
/-! != by the text's own == -/
section
variable {M : Model} {prog : Program} {w : World} {A : Around} {E : Value → Shared → Prop} {s : Shared} {K : PySem.W.Frag} {x y C : Addr} {ox : Obj} {od : Option Obj}
theorem entry_objNe {Q : Fin → Shared → Prop} (hu : A.units < cLine) (hcall : wpAny M A (callSpecialIfBound? (.ref x) (Str.ofString "__eq__") [.ref y]) (fun r s' => ∃ b, r = some (.bool b) ∧ Q (.done (.ret (.bool (!b)))) s') E s) :
    wpAny M A (Builtin.«object.__ne__» ⟨[.ref x, .ref y], []⟩) Q E s := by
  unfold Builtin.«object.__ne__»
  repeat (first
    | with_reducible refine wpAny_cRoomFor hu ?_
    | (refine wpAny_bind (m := callSpecialIfBound? (.ref x) (Str.ofString "__eq__") [.ref y])
        (wpAny_mono hcall (fun r s' hr => by
          obtain ⟨b, rfl, hq⟩ := hr
          repeat (first | exact hq | exact wpAny_pure hq | exact wpAny_truthy_bool hq | (refine wpAny_bind (m := truthy (.bool _)) (wpAny_truthy_bool ?_)) | wp_step)) fun _ _ e => e))
    | wp_step)
theorem call_objNe {Q : Value → Shared → Prop} (X : K.In s.heap) (I : PySem.W.InstAt s.heap x ox C od) (hm : PySem.W.mroIn K C (.type "object") = some true) (hu : A.in1.units < cLine)
    (hcall : wpAny (model prog w) A.in1 (callSpecialIfBound? (.ref x) (Str.ofString "__eq__") [.ref y]) (fun r s' => ∃ b, r = some (.bool b) ∧ Q (.bool (!b)) s') E s) :
    wpAny (model prog w) A (call (.builtin "object.__ne__") [.ref x, .ref y]) Q E s := by
  refine wpAny_call (codeAny_call_builtin F.cmp_object.ne.plain F.cmpEntry_ne (PySem.W.check_slot F.cmpKind_ne F.cmpSplit_ne (I.type.andThen (PySem.W.looks_mroIn X hm)) (F.cmpArgs_ne _ _) (entry_objNe hu (wpAny_mono hcall (fun r s' hr => ?_) fun _ _ e => e))))
  obtain ⟨b, rfl, hq⟩ := hr
  first | exact ⟨b, rfl, hq⟩ | exact ⟨b, rfl, wpAny_pure hq⟩
theorem ifBound_objNe {args : List Value} {Q : Option Value → Shared → Prop} (X : K.In s.heap) (I : PySem.W.InstAt s.heap x ox C od) (hs : PySem.W.findIn K (.ref C) "__ne__" = some (some (.builtin "object.__ne__")))
    (h : wpAny M A (call (.builtin "object.__ne__") (.ref x :: args)) (fun v => Q (some v)) E s) : wpAny M A (callSpecialIfBound? (.ref x) "__ne__" args) Q E s := by
  simp only [callSpecialIfBound?, bindSpecialIfBound?]
  refine wpAny_holding (wpAny_bind (wpAny_bind (wpAny_bind (I.type.here ((PySem.W.looks_findIn X hs).here ?_)))))
  refine wpAny_bind (wpAny_askSetting (wpAny_ite ?_))
  have fin : wpAny M A (call (.builtin "object.__ne__") ([.ref x] ++ args) >>= fun v => pure (some v)) Q E s := wpAny_bind (wpAny_mono h (fun v s' h' => wpAny_pure h') fun _ _ h' => h')
  split
  · exact wpAny_bind (wpAny_of_eq (F.cmp_object.ne.bind _) (wpAny_pure (by exact fin)))
  · exact wpAny_tryCatch (wpAny_bind (wpAny_of_eq (F.cmp_object.ne.bind _) (wpAny_pure (by exact fin))))
end
structure OwnNe (K : PySem.W.Frag) (C : Addr) : Prop where
  hne : PySem.W.findIn K (.ref C) "__ne__" = some (some (.builtin "object.__ne__"))
  hm : PySem.W.mroIn K C (.type "object") = some true
def rOwnNe (C : Addr) (sp : Sp) (E : XK) : R2 := fun x y H Q => ∃ a b dx dy fs gs, x = .ref a ∧ y = .ref b ∧ H a = some (.ins C dx fs) ∧ H b = some (.ins C dy gs) ∧ sp [x, y] H (fun v H' => ∃ r : Bool, v = .bl r ∧ Q (.bl (!r)) H') E
theorem op_neOwn {X : Cx} {n : Nat} {CX : CXT} {C f : Addr} {fd : FuncData} {ps : List Str} {sp : Sp} {E : XK} (F : FnOk X.prog X.w X.K X.mg X.base CX n f fd ps sp) (hr : Room (n + 1) X.A)
    (o : OwnEq X.K C f) (o' : OwnNe X.K C) (hb : Binds X.K fd ps []) (hx : Passes CX X E) : OpR X (compareOp .NotEq) (rOwnNe C sp E) := by
  intro pins s σ H x y v u Q I rx ry d
  show wpAny (model X.prog X.w) X.A (richCompare .NotEq v u) (EP X pins σ Q) X.xe s
  obtain ⟨a, b, dx, dy, fs, gs, rfl, rfl, ha, hb', hsp⟩ := d
  cases rx
  cases ry
  obtain ⟨mA, J, _⟩ := ins_get I.hok ha
  obtain ⟨mB, J', _⟩ := ins_get I.hok hb'
  obtain ⟨od, J, _⟩ := J.look
  obtain ⟨od', J', _⟩ := J'.look
  have hl := F.len _ _ _ _ hsp
  have r2 : Vals [V.ref a, V.ref b] [Value.ref a, Value.ref b] := .cons rfl (.cons rfl .nil)
  have one : wpAny (model X.prog X.w) X.A (tryCompare (.ref a) (cmpInfo .NotEq).2.1 (.ref b)) (fun r s' => ∃ v, r = some v ∧ EP X pins σ Q v s') X.xe s := by
    unfold tryCompare
    refine wpAny_bind (ifBound_objNe I.kIn J o'.hne (call_objNe I.kIn J o'.hm hr.in1.units0 (PySem.W.ifBound_K I.kIn J o.hs o.hf ?_)))
    refine wpAny_call (codeAny_mono (F.run X.A.in1 X.stack s H ⟨[.ref a, .ref b], []⟩ [.ref a, .ref b] [.ref a, .ref b] _ E hr.in1 I.env0.in1 (by
      have := hb s [.ref a, .ref b] I.kIn (by simpa using hl)
      simpa using this) r2 hsp) fun r s' hq => ?_)
    cases r with
    | error e => exact hx pins σ H s e s' I hq
    | ok fl =>
      cases fl with
      | ret w =>
        obtain ⟨z, H', I', rz, ⟨r, ez, q⟩⟩ := I.after hq
        subst ez
        cases (show w = Value.bool r from rz)
        exact ⟨r, rfl, wpAny_pure ⟨_, rfl, .bl (!r), H', I', rfl, q⟩⟩
      | next => exact False.elim hq
      | brk => exact False.elim hq
      | cont => exact False.elim hq
  unfold richCompare
  simp only [oneThing_ref]
  refine wpAny_holding (wpAny_bind (wpAny_cRoomFor hr.units0 ?_))
  refine wpAny_bind (J.type.here (wpAny_bind (J'.type.here ?_)))
  rw [show (Value.ref C != Value.ref C) = false from by simp]
  refine wpAny_bind (wpAny_pure ?_)
  simp only [Bool.false_eq_true, if_false]
  refine wpAny_bind (wpAny_mono one (fun r s' z => ?_) fun _ _ e => e)
  obtain ⟨v, rfl, hq⟩ := z
  exact wpAny_pure hq
theorem rep_neOwn {ms : List Addr} {H : Hp} {x y : V} {C : Addr} {ns ns' : List Str} {ds ds' : List D} {sp : Sp} {E : XK} {Q : VK} (h1 : rep ms H (.ins C ns ds) x) (h2 : rep ms H (.ins C ns' ds') y) (k : sp [x, y] H (fun v H' => ∃ r : Bool, v = .bl r ∧ Q (.bl (!r)) H') E) : rOwnNe C sp E x y H Q := by
  obtain ⟨p, dx, fs, e, hp⟩ := rep_ins h1
  obtain ⟨q, dy, gs, e', hq⟩ := rep_ins h2
  subst e e'
  exact ⟨p, q, dx, dy, fs, gs, rfl, rfl, hp, hq, k⟩
/-! a local list that grows -/
mutual
def noL : D → Bool
  | .v _ => true
  | .lst _ => false
  | .tup ds => noLs ds
  | .ins _ _ ds => noLs ds
  | .dct _ ds => noLs ds
def noLs : List D → Bool
  | [] => true
  | d :: ds => noL d && noLs ds
end
section
variable {ms ps : List Addr} {cs : List (Addr × List V)} {H0 H H' : Hp} {L : Addr} {vs : List V}
mutual
theorem rep_lift0 (hL : H L = some (.lst vs)) : ∀ (d : D) (u : V), noL d = true → rep ms H d u → rep (L :: ms) H d u
  | .v x, u, _, h => by
    simp only [rep] at h ⊢
    exact h
  | .lst ds, u, n, h => by
    simp only [noL] at n
    cases n
  | .tup ds, u, n, h => by
    simp only [noL] at n
    simp only [rep] at h ⊢
    obtain ⟨p, us, e, np, hp, hl⟩ := h
    refine ⟨p, us, e, fun z => ?_, hp, repL_lift0 hL ds us n hl⟩
    rcases List.mem_cons.mp z with z | z
    · rw [z, hL] at hp
      cases hp
    · exact np z
  | .ins C ns ds, u, n, h => by
    simp only [noL] at n
    simp only [rep] at h ⊢
    obtain ⟨p, dx, us, e, np, hp, hn, hl⟩ := h
    refine ⟨p, dx, us, e, fun z => ?_, hp, hn, repL_lift0 hL ds us n hl⟩
    rcases List.mem_cons.mp z with z | z
    · rw [z, hL] at hp
      cases hp
    · exact np z
  | .dct ks ds, u, n, h => by
    simp only [noL] at n
    simp only [rep] at h ⊢
    obtain ⟨p, us, e, np, hp, hn, hl⟩ := h
    refine ⟨p, us, e, fun z => ?_, hp, hn, repL_lift0 hL ds us n hl⟩
    rcases List.mem_cons.mp z with z | z
    · rw [z, hL] at hp
      cases hp
    · exact np z
theorem repL_lift0 (hL : H L = some (.lst vs)) : ∀ (ds : List D) (us : List V), noLs ds = true → repL ms H ds us → repL (L :: ms) H ds us
  | [], us, _, h => by
    simp only [repL] at h ⊢
    exact h
  | d :: ds, us, n, h => by
    simp only [noLs, Bool.and_eq_true] at n
    simp only [repL] at h ⊢
    obtain ⟨u, ws, e, h1, h2⟩ := h
    exact ⟨u, ws, e, rep_lift0 hL d u n.1 h1, repL_lift0 hL ds ws n.2 h2⟩
end
structure Mut (ms ps : List Addr) (cs : List (Addr × List V)) (H0 H : Hp) (L : Addr) (ds : List D) : Prop where
  hp : L ∉ ps
  h0 : H0 L = none
  hc : ∀ c ∈ cs, c.1 ≠ L
  nm : L ∉ ms
  val : ∃ vs, H L = some (.lst vs) ∧ repL (L :: ms) H ds vs
variable {ds : List D} {d : D} {u : V}
theorem mut_new (w : Wd ms ps cs H0 H) (nl : H L = none) (r : repL ms H ds vs) : Wd (L :: ms) ps cs H0 (upd H L (.lst vs)) ∧ Mut ms ps cs H0 (upd H L (.lst vs)) L ds := by
  have wc := Wd.cell (xs := vs) w nl
  have nL : L ∉ ms := fun z => w.tr L z nl
  refine ⟨⟨wc.kp, wc.grow, wc.tr, wc.pot, wc.pm, fun c h => wc.cel c (List.mem_cons_of_mem _ h)⟩, (wc.cel _ List.mem_cons_self).2.2.1, (wc.cel _ List.mem_cons_self).2.2.2, new_ne w nl, nL, vs, upd_same, ?_⟩
  exact repL_map (fun p o n hp => ⟨fun z => by
    rcases List.mem_cons.mp z with z | z
    · exact ne_of_none hp nl z
    · exact n z, by rw [upd_ne (ne_of_none hp nl)]; exact hp⟩) _ _ r
theorem mut_ret (w : Wd (L :: ms) ps cs H0 H) (e : Ret ps H H') (m : Mut ms ps cs H0 H L ds) : Mut ms ps cs H0 H' L ds := by
  obtain ⟨vs, h1, h2⟩ := m.val
  exact ⟨m.hp, m.h0, m.hc, m.nm, vs, e.kp L _ m.hp h1, repL_ret w e h2⟩
theorem mut_ext (e : Ret [] H H') (m : Mut ms ps cs H0 H L ds) : Mut ms ps cs H0 H' L ds := by
  obtain ⟨vs, h1, h2⟩ := m.val
  exact ⟨m.hp, m.h0, m.hc, m.nm, vs, e.kp L _ (by simp) h1, repL_ext e h2⟩
theorem mut_drop (m : Mut ms ps cs H0 H L ds) (w : Wd (L :: ms) ps cs H0 H) : Wd ms ps cs H0 H := by
  refine ⟨w.kp, w.grow, fun a h => w.tr a (List.mem_cons_of_mem _ h), w.pot, fun a h => ?_, fun c h => ?_⟩
  · rcases List.mem_cons.mp (w.pm a h) with z | z
    · rw [z] at h
      exact absurd h m.hp
    · exact z
  · obtain ⟨h1, h2, h3, h4⟩ := w.cel c h
    refine ⟨h1, ?_, h3, h4⟩
    rcases List.mem_cons.mp h2 with z | z
    · exact absurd z (m.hc c h)
    · exact z
theorem mut_rep (m : Mut ms ps cs H0 H L ds) : rep ms H (.lst ds) (.ref L) := by
  obtain ⟨vs, h1, h2⟩ := m.val
  simp only [rep]
  exact ⟨L, vs, rfl, m.nm, h1, repL_weak h2⟩
theorem rep_lift (m : Mut ms ps cs H0 H L ds) (n : noL d = true) (h : rep ms H d u) : rep (L :: ms) H d u := by
  obtain ⟨vs, h1, _⟩ := m.val
  exact rep_lift0 h1 d u n h
theorem mut_app {P : Addr → List V → V → Prop} (m : Mut ms ps cs H0 H L ds) (hl : ds.length < 16777216) (k : ∀ vs, H L = some (.lst vs) → repL (L :: ms) H ds vs → P L vs u) :
    ∃ (l : Addr) (xs : List V) (y : V), V.ref L = .ref l ∧ [u] = [y] ∧ H l = some (.lst xs) ∧ xs.length < sizeLine ∧ P l xs y := by
  obtain ⟨vs, h1, h2⟩ := m.val
  refine ⟨L, vs, u, rfl, rfl, h1, ?_, k vs h1 h2⟩
  rw [← repL_len h2, sizeLine_eq]
  exact hl
theorem mut_upd (w : Wd (L :: ms) ps cs H0 H) (m : Mut ms ps cs H0 H L ds) (hv : H L = some (.lst vs)) (h2 : repL (L :: ms) H ds vs) (r : rep (L :: ms) H d u) :
    Wd (L :: ms) ps cs H0 (upd H L (.lst (vs ++ [u]))) ∧ Mut ms ps cs H0 (upd H L (.lst (vs ++ [u]))) L (ds ++ [d]) ∧ (∀ d' u', rep (L :: ms) H d' u' → rep (L :: ms) (upd H L (.lst (vs ++ [u]))) d' u') ∧ True := by
  refine ⟨⟨fun a o n h => ?_, fun a h => ?_, fun a h => ?_, fun a h => ?_, w.pm, fun c h => ?_⟩, ⟨m.hp, m.h0, m.hc, m.nm, _, upd_same, ?_⟩, fun d u' h => ?_, trivial⟩
  · rw [upd_ne (ne_of_none h m.h0)]
    exact w.kp a o n h
  · by_cases e : a = L
    · rw [e, upd_same]
      exact fun z => nomatch z
    · rw [upd_ne e]
      exact w.grow a h
  · by_cases e : a = L
    · rw [e, upd_same]
      exact fun z => nomatch z
    · rw [upd_ne e]
      exact w.tr a h
  · obtain ⟨i, j, h1, h3⟩ := w.pot a h
    exact ⟨i, j, by rw [upd_ne (fun z => m.hp (by rw [← z]; exact h))]; exact h1, h3⟩
  · obtain ⟨h1, h3, h4, h5⟩ := w.cel c h
    exact ⟨by rw [upd_ne (m.hc c h)]; exact h1, h3, h4, h5⟩
  · exact repL_put List.mem_cons_self (repL_app h2 (repL_one r))
  · exact rep_put List.mem_cons_self h
end
section
variable {ms ps : List Addr} {cs : List (Addr × List V)} {H0 H H1 H' : Hp} {L : Addr} {K : PySem.W.Frag} {x : V}
theorem keep_none {w : Wd ms ps cs H0 H} (nl : H L = none) (k : Keep ms H1 H) : H1 L = none := by
  have nL : L ∉ ms := fun z => w.tr L z nl
  cases q : H1 L with
  | none => rfl
  | some o =>
    have := k L o nL q
    rw [nl] at this
    cases this
theorem keep_frz (n : H1 L = none) (k : Keep (L :: ms) H1 H) : Keep ms H1 H := fun a o na h => k a o (fun z => by
  rcases List.mem_cons.mp z with z | z
  · rw [z, n] at h
    cases h
  · exact na z) h
theorem rep_ixN {α : Type} {e : α → D} {xs : List α} {i : Int} {y : α} {Q : VK} (h : rep ms H (.lst (xs.map e)) x) (hi : atI xs i = some y) (k : ∀ v, rep ms H (e y) v → Q v H) : rIxL K x (.int i) H Q := by
  simp only [rep] at h
  obtain ⟨p, vs, e', _, hp, hr⟩ := h
  have hl := repL_len hr
  rw [List.length_map] at hl
  unfold atI at hi
  cases hx : ixN xs.length i with
  | none =>
    rw [hx] at hi
    cases hi
  | some j =>
    rw [hx] at hi
    have hj : xs[j]? = some y := hi
    obtain ⟨v, hv, rv⟩ := repL_get (d := e y) (j := j) hr (by rw [List.getElem?_map, hj]; rfl)
    refine ⟨p, vs, i, v, e', rfl, .inl (.inl hp), ?_, k v rv⟩
    unfold atI
    rw [← hl, hx]
    exact hv
theorem rep_rg_mk {p : Addr} {a b : Int} (w : Wd ms ps cs H0 H) (np : H p = none) (e : Ret [] H H') (hp : H' p = some (.lst (rgV a b))) : rep ms H' (.lst ((rangeI a b).map fun n => D.v (.int n))) (.ref p) := by
  simp only [rep]
  refine ⟨p, rgV a b, rfl, fun z => w.tr p z np, hp, ?_⟩
  have e1 : (rangeI a b).map (fun n => D.v (.int n)) = (rgV a b).map D.v := by
    unfold rangeI rgV
    rw [List.map_map, List.map_map]
    rfl
  rw [e1]
  exact repL_flat.mpr rfl
end
/-! ranges of any size -/
theorem turn_long {P : Program} {w : World} {K : PySem.W.Frag} {tg : Expr} (it : Addr) (lo : Int) (n : Nat) : Turn P w K tg (Itr lo n) [it] it (fun i h => IsLongIter h it (lo + (i : Nat) * 1) ((n : Int) - (i : Nat)) 1) where
  mem := by simp
  obj := fun i h st b hb => by
    have e : b = it := by simpa using hb
    subst e
    exact ⟨_, st, fun v z => by
      have z' : Data.fields _ = Data.cell v := z
      cases z'⟩
  keep := fun i h h' st k => k it (by simp) _ st
  item := by
    intro X hP hw hK hc i pins s σ H E I hf st hg
    subst hP hw hK
    obtain ⟨f0, f1, f2, f3, f4, f5⟩ := hf it (by simp)
    have W := Walks.longrange (prog := X.prog) (w := X.w) (I.ok.hd hc) it lo 1 n
    refine W.item i s _ _ hg st fun v h' tk hv st' kk => ?_
    obtain ⟨t, rfl⟩ := hv
    have I1 : Inv X pins σ H { s with heap := h', toks := tk } := I.turned (fun b o hb e => kk b o (by simpa using hb) e) f0 f1 f3 f4 f5
    refine ⟨_, rfl, go_of (s := { s with heap := h', toks := tk }) (n := "longrange_iterator") st' rfl rfl (by decide) ⟨.int (lo + i), H, I1, ⟨t, ?_⟩, ⟨rfl, rfl⟩, st', fun b hb => (hf b hb).1⟩⟩
    rw [Int.mul_one]
  done := by
    intro X hP hw hK hc i pins s σ H E I hf st hg
    subst hP hw hK
    obtain ⟨f0, f1, f2, f3, f4, f5⟩ := hf it (by simp)
    exact wpAny_pyNext_long_end (I.ok.hd hc) st (by have : n ≤ i := hg; omega) fun h' eb => ⟨rfl, I.turned (t' := s.toks) (fun b o hb e => eb b o hb e) f0 f1 f3 f4 f5⟩
  self := fun _ _ _ _ _ st h => wpAny_pyIter_longiter st h
section
variable {X : Cx} {tg : Expr}
theorem range_itW {pins : List (Addr × Obj)} {σ : L2.St} {H : Hp} {s : Shared} {R : It → Hp → Prop} {E : Value → Shared → Prop} {lo hi : Int} {t u v : Tok} {tk : Nat} (I : Inv X pins σ H s)
    (q : R (Itr lo (hi - lo).toNat) H) : wpAny (model X.prog X.w) X.A (pyIter (.ref s.heap.objs.size)) (PIE X pins σ tg R) E { s with heap := s.heap.push { cls := .type "range", data := .fields #[.int lo t, .int hi u, .int 1 v] }, toks := tk } := by
  have I1 : Inv X pins σ H { s with heap := s.heap.push { cls := .type "range", data := .fields #[.int lo t, .int hi u, .int 1 v] }, toks := tk } := I.kept fun b o e => Heap.get?_push_of_some _ e
  have e1 : lo + ((0 : Nat) : Int) * 1 = lo := by simp
  have e2 : (((hi - lo).toNat : Nat) : Int) - ((0 : Nat) : Int) = Builtin.Range.rangeSize lo hi 1 := by rw [rangeSize_one]; split <;> omega
  cases hs : Builtin.Range.small lo hi 1 with
  | true =>
    refine wpAny_pyIter_range (IsRange.new ..) hs ?_
    refine ⟨(s.heap.push { cls := .type "range", data := .fields #[.int lo t, .int hi u, .int 1 v] }).objs.size, [(s.heap.push { cls := .type "range", data := .fields #[.int lo t, .int hi u, .int 1 v] }).objs.size], _, _, H, rfl,
      I1.kept (t' := tk) fun b o e => Heap.get?_push_of_some _ e, turn_range _ lo (hi - lo).toNat, ?_, fun b hb => ?_, q⟩
    · show IsRangeIter _ _ (lo + ((0 : Nat) : Int) * 1) ((((hi - lo).toNat : Nat) : Int) - ((0 : Nat) : Int)) 1
      rw [e1, e2]
      exact Heap.get?_push_size _ rfl
    · have e : b = (s.heap.push { cls := .type "range", data := .fields #[.int lo t, .int hi u, .int 1 v] }).objs.size := by simpa using hb
      subst e
      exact I1.fpOk (Nat.le_refl _) (I1.hok.fresh (Nat.le_refl _))
  | false =>
    refine wpAny_pyIter_longrange (IsRange.new ..) hs ?_
    refine ⟨(s.heap.push { cls := .type "range", data := .fields #[.int lo t, .int hi u, .int 1 v] }).objs.size, [(s.heap.push { cls := .type "range", data := .fields #[.int lo t, .int hi u, .int 1 v] }).objs.size], _, _, H, rfl,
      I1.kept (t' := tk) fun b o e => Heap.get?_push_of_some _ e, turn_long _ lo (hi - lo).toNat, ?_, fun b hb => ?_, q⟩
    · show IsLongIter _ _ (lo + ((0 : Nat) : Int) * 1) ((((hi - lo).toNat : Nat) : Int) - ((0 : Nat) : Int)) 1
      rw [e1, e2]
      exact Heap.get?_push_size _ rfl
    · have e : b = (s.heap.push { cls := .type "range", data := .fields #[.int lo t, .int hi u, .int 1 v] }).objs.size := by simpa using hb
      subst e
      exact I1.fpOk (Nat.le_refl _) (I1.hok.fresh (Nat.le_refl _))
def iRngW1 (ta : TA) : TI := fun σ H R => ta σ H fun vs H1 => ∃ j : Int, vs = [.int j] ∧ R (Itr 0 j.toNat) H1
def iRngW2 (ta : TA) : TI := fun σ H R => ta σ H fun vs H1 => ∃ i j : Int, vs = [.int i, .int j] ∧ R (Itr i (j - i).toNat) H1
theorem pi_rangeW1 {a : Expr} {ta : TA} {p pos : Pos} (hg : Gl X "range") (hm : X.mg "range" = none) (ha : PA X [a] ta) (hs : starEach [a] X.env = [(false, eval a X.env)] := by rfl) : PI X tg (.Call (.Name "range" p) [a] [] pos) (iRngW1 ta) := by
  refine ⟨fun pins s σ H R I h => ?_⟩
  refine Call_ (ld_blt I hg hm boot_range (PyProof.Rows.callWith_type1 (thn (ha.run pos pins s σ H _ I h) fun us s1 ⟨vs, H1, I1, r1, q1⟩ => ?_) hs rfl))
  obtain ⟨j, e, q⟩ := q1
  subst e
  cases r1 with
  | cons r rr =>
    cases rr
    obtain ⟨t, rfl⟩ := r
    exact call_range_1 (range_itW I1 (by simpa using q))
theorem pi_rangeW2 {a b : Expr} {ta : TA} {p pos : Pos} (hg : Gl X "range") (hm : X.mg "range" = none) (ha : PA X [a, b] ta) (hs : starEach [a, b] X.env = [(false, eval a X.env), (false, eval b X.env)] := by rfl) (hs2 : starEach [b] X.env = [(false, eval b X.env)] := by rfl) :
    PI X tg (.Call (.Name "range" p) [a, b] [] pos) (iRngW2 ta) := by
  refine ⟨fun pins s σ H R I h => ?_⟩
  refine Call_ (ld_blt I hg hm boot_range (PyProof.Rows.callWith_type1 (thn (ha.run pos pins s σ H _ I h) fun us s1 ⟨vs, H1, I1, r1, q1⟩ => ?_) (by rw [hs, hs2]) (by rw [hs2]; rfl)))
  obtain ⟨i, j, e, q⟩ := q1
  subst e
  cases r1 with
  | cons r rr =>
    cases rr with
    | cons r' rr =>
      cases rr
      obtain ⟨t, rfl⟩ := r
      obtain ⟨t', rfl⟩ := r'
      exact call_range_2 (range_itW I1 q)
end
end Rx
namespace Rx
open PySem PySem.Spec PyProof.Rows L2
/-- a def's promise, asked only where no text is under way -/
structure FnG (P : Program) (w : World) (K : PySem.W.Frag) (mg : Str → Option Value) (base : Heap) (k : Nat) (f : Addr) (fd : FuncData) (ps : List Str) (sp : Sp) : Prop where
  len : ∀ vs H Q E, sp vs H Q E → vs.length = ps.length
  run : ∀ (A : Around), A.guards = some [] → Room k A → ∀ (outer : List Env) (s : Shared) (H : Hp) (args : Args) (us : List Value) (vs : List V) (Q : VK) (E : XK), Env0 P w K mg base A outer s H → BindsTo s fd args (ps.zip us) → Vals vs us → sp vs H Q E →
    codeAny (model P w) A (.call (.ref f) args) (CR CX0 outer P w H s Q E) s
theorem FnG.of {P : Program} {w : World} {K : PySem.W.Frag} {mg : Str → Option Value} {base : Heap} {k : Nat} {f : Addr} {fd : FuncData} {ps : List Str} {sp : Sp} (F : FnOk P w K mg base CX0 k f fd ps sp) : FnG P w K mg base k f fd ps sp :=
  ⟨F.len, fun A _ hr outer s H args us vs Q E => F.run A outer s H args us vs Q E hr⟩
section
variable {X : Cx} {k : Nat} {f : Addr} {fd : FuncData} {ps : List Str} {sp : Sp} {x : Str} {e : Expr} {es : List Expr} {p pos : Pos} {t : TA}
theorem runG {pins : List (Addr × Obj)} {σ : L2.St} {H : Hp} {s : Shared} {Q : VK} {us : List Value} {vs : List V} (F : FnG X.prog X.w X.K X.mg X.base k f fd ps sp) (hg : X.A.guards = some []) (hr : Room k X.A) (hb : Binds X.K fd ps [])
    (I : Inv X pins σ H s) (r : Vals vs us) (h : sp vs H Q E0) : wpAny (model X.prog X.w) X.A (call (.ref f) us) (EP X pins σ Q) X.xe s := by
  have hl : us.length = ps.length := r.length.symm.trans (F.len _ _ _ _ h)
  have bt := hb s us I.kIn (by rw [List.append_nil]; exact hl)
  rw [List.append_nil] at bt
  refine wpAny_call (codeAny_mono (F.run X.A hg hr X.stack s H ⟨us, []⟩ us vs Q E0 I.env0 bt r h) fun out s' hq => ?_)
  rcases out with err | fl
  · exact pass0 pins σ H s err s' I hq
  · rcases fl with _ | _ | _ | u
    all_goals first | exact I.after hq | exact hq.elim
/-- f(e, ..) -/
theorem pe_callG (F : FnG X.prog X.w X.K X.mg X.base k f fd ps sp) (gu : X.A.guards = some []) (hr : Room k X.A) (hg : Gl X x) (hm : X.mg x = some (.ref f)) (hk : PySem.W.keepIn X.K (.ref f) = true) (hb : Binds X.K fd ps []) (ha : PA X (e :: es) t)
    (hdb : (x == ("__debug__" : Str)) = false := by decide) (he : starEach (e :: es) X.env = (false, eval e X.env) :: starEach es X.env := by rfl) (hpl : (backTo pos (starEach es X.env)).any (·.1) = false := by rfl) :
    PE X (.Call (.Name x p) (e :: es) [] pos) (tCall sp [] E0 t) :=
  ⟨fun pins s σ H Q I h => wpAny_Call_Name_kw (ld_glob I hg hm (PySem.W.callWith_K (h₀ := X.base) I.ok.mod.kin hk (thn (ha.run pos pins s σ H _ I h) fun us s1 ⟨vs, H1, I1, r, q⟩ => ⟨I1.kIn, runG F gu hr hb I1 r (by have q' : sp (vs ++ []) H1 Q E0 := q; rwa [List.append_nil] at q')⟩) he hpl) hdb)⟩
end
section
variable {P : Program} {w : World} {K : PySem.W.Frag} {mg : Str → Option Value} {base : Heap}
/-- a def whose body is read where no text is under way -/
theorem okG {x qual : Str} {st : Stmt} {f : Addr} {fd : FuncData} {N ps : List Str} {k : Nat} {sp : Sp} (F : Fun K x qual st f fd) (S : FnScope N ps (defScope st)) (len : ∀ vs H Q E, sp vs H Q E → vs.length = ps.length)
    (hbody : ∀ (cdv : Value) (A : Around) (outer : List Env) (s : Shared) (H : Hp) (vs : List V) (Q : VK) (E : XK), A.guards = some [] → Room k (A.deeper (envOfC qual (defScope st) s.heap.objs.size f cdv)) → sp vs H Q E →
      ∃ t, PSs (cxOf CX0 P w K mg base N qual (defScope st) f cdv A outer s H E).nox (defBody st) t ∧ t { nx := fun _ H' => Q .non H', rt := Q } (start N vs) H) : FnG P w K mg base (k + 1) f fd ps sp := by
  obtain ⟨oc, od, kV, doc, pm, an, cdv, ct, osl, rfl, lk, hcd⟩ := F.ex
  refine ⟨len, fun A gu hr outer s H args us vs Q E en bt rv hs => ?_⟩
  have inK : K.In s.heap := en.mod.kin.keeps fun b o h => (en.bs b o h).1
  have names : ∀ y ∈ ps.zip us, (defScope st).names.lookup y.1 = some .local ∨ ((defScope st).names.lookup y.1 = some .cell ∧ ((cellsFrom (s.heap.objs.size + 1) (defScope st).names []).lookup y.1).isSome = true) := by
    rintro ⟨n, v⟩ hy
    exact (S.par n (List.of_mem_zip hy).1).imp id fun q => ⟨q, PySem.W.cellsFrom_some _ _ _ (.inl q)⟩
  refine codeAny_call_function hr.depth (inK _ _ lk) rfl S.co S.gen rfl (PySem.W.codeRec_of inK hcd) (bt _ _ _ _ (wpAny_newFunctionEnv_cells S.kind names fun env he s1 inner => ?_))
  subst he
  refine ⟨(en.mod.nolimit.keeps fun b o h => (en.bs b o h).1).keeps inner.toInCall.keep, codeAny_func ?_⟩
  obtain ⟨t, ht, hq⟩ := hbody cdv A outer s H vs Q E gu (hr.deeper _) hs
  have start0 : Inv (cxOf CX0 P w K mg base N qual (defScope st) f cdv A outer s H E) [] (start N vs) H s1 := inv_start S hr.hd en (len _ _ _ _ hs) rv inner
  have leave : ∀ {σ' : L2.St} {H' : Hp} {v : V} {u : Value} {s' : Shared}, Inv (cxOf CX0 P w K mg base N qual (defScope st) f cdv A outer s H E) [] σ' H' s' → RelV v u → Q v H' → CE outer P w H s Q u s' :=
    fun {σ' H' v u s'} J r q => ⟨v, H', J.os, J.bare, J.base, J.hok, r, q⟩
  refine wpAny_mono (ht.nox.run [] s1 (start N vs) H _ start0 hq) (fun fl s' hs' => ?_) fun _ _ h => h
  rcases fl with _ | _ | _ | u
  · obtain ⟨σ', H', J, q⟩ := hs'
    exact leave (v := V.non) (u := Value.none) J rfl q
  · obtain ⟨_, _, _, q⟩ := hs'
    exact q.elim
  · obtain ⟨_, _, _, q⟩ := hs'
    exact q.elim
  · obtain ⟨v, σ', H', J, r, q⟩ := hs'
    exact leave J r q
end
/-! the law's own call, where nothing is under way -/
section
variable {P : Program} {w : World} {K : PySem.W.Frag} {mg mb : Str → Option Value} {k : Nat} {fa a : Addr} {fd : FuncData} {x : Str} {sp : Sp} {s1 : Shared} {vs : List Value} {ns : List Int}
abbrev EndG (h : Heap) (os : OsState) (r : Result) (s' : Shared) : Prop := r = .ok (.ret (.bool true)) ∧ OldK h s'.heap ∧ s'.os = os ∧ AllBare s'.gens
/-- from one abstract heap that tells the script alone, if at all -/
theorem callG_at (inK : K.In s1.heap) (top : s1.heap.Ns mainGlobals mg) (bl : s1.heap.Ns builtinsNs mb) (blb : ∀ x : Str, x ≠ "__name__" → mb x = bootBuiltins x) (nl : s1.heap.NoLimit) (ng : s1.gens = #[])
    (obj : s1.heap.get? a = some { cls := .type "list", data := .seq vs.toArray }) (hr : Room k callerA) (F : ∀ base : Heap, K.In base → base.Ns mainGlobals mg → FnG P w K mg base k fa fd [x] sp) (bind : ∀ (s : Shared) (u : Value), BindsTo s fd ⟨[u], []⟩ [(x, u)])
    {H : Hp} (only : Only H) (ok : HOk P w H s1.heap) (at_a : ∀ b, H b ≠ none → b = a) (own : H a ≠ none → K.lookup a = none) (q : sp [.ref a] H (fun v _ => v = .bl true) E0) :
    codeAny (model P w) callerA (.call (.ref fa) ⟨[.ref a], []⟩) (EndG s1.heap s1.os) s1 := by
  have told : ∀ b, H b = none ∨ b = a := fun b => (Classical.em (H b = none)).imp id (at_a b)
  have keepN : ∀ {b : Addr} {m : Str → Option Value}, s1.heap.Ns b m → (hidT s1.heap H).Ns b m := fun {b m} ⟨o, es, ep, e, d, r⟩ => ⟨o, es, ep, hidT_get e ((told b).elim id fun z => by
    subst z
    rw [obj] at e
    cases e
    cases (show Data.seq vs.toArray _ = Data.dict es ep from d)), d, r⟩
  have keepK : K.In (hidT s1.heap H) := fun b o e => hidT_get (inK b o e) ((told b).elim id fun z => by
    subst z
    exact Classical.byContradiction fun n => by
      rw [own n] at e
      cases e)
  have md : Mod K mg (hidT s1.heap H) := ⟨keepK, keepN top, ⟨mb, keepN bl, blb⟩, nl.imp fun _ h => ⟨keepN h.1, h.2⟩⟩
  have en : Env0 P w K mg (hidT s1.heap H) callerA [] s1 H := ⟨rfl, md, fun b o e => of_hidT e, Nat.le_of_eq (hidT_size _ _), trivial, fun b hb => (List.not_mem_nil hb).elim, ok, .of_eq ng⟩
  refine codeAny_mono ((F _ keepK (keepN top)).run callerA rfl hr [] s1 H ⟨[.ref a], []⟩ [.ref a] [.ref a] _ _ en (bind s1 (.ref a)) (.cons rfl .nil) q) fun r s' h => ?_
  rcases r with e | fl
  · exact (show False from h).elim
  · rcases fl with _ | _ | _ | u
    · exact (show False from h).elim
    · exact (show False from h).elim
    · exact (show False from h).elim
    · obtain ⟨v, H', os, bare, un, ok', rv, qv⟩ := h
      cases (show v = .bl true from qv)
      cases (show u = Value.bool true from rv)
      refine ⟨rfl, OldK.of_keep fun b o e => ?_, os, bare⟩
      rcases only b with z | ⟨ob, xs, z⟩
      · exact un.keep b o e z (List.not_mem_nil) (List.not_mem_nil)
      · have e1 := (ok b _ z).1
        have e2 := (ok' b _ (un.frzs b ob _ z)).1
        exact (Option.some.inj (e.symm.trans e1)) ▸ e2
theorem callG (inK : K.In s1.heap) (top : s1.heap.Ns mainGlobals mg) (bl : s1.heap.Ns builtinsNs mb) (blb : ∀ x : Str, x ≠ "__name__" → mb x = bootBuiltins x) (nl : s1.heap.NoLimit) (ng : s1.gens = #[])
    (obj : s1.heap.get? a = some { cls := .type "list", data := .seq vs.toArray }) (its0 : IntsAre vs ns) (small : ns.length ≤ sizeLine) (hr : Room k callerA) (F : ∀ base : Heap, K.In base → base.Ns mainGlobals mg → FnG P w K mg base k fa fd [x] sp)
    (bind : ∀ (s : Shared) (u : Value), BindsTo s fd ⟨[u], []⟩ [(x, u)]) (q : ∀ H : Hp, Only H → SqL K H a (ns.map V.int) → sp [.ref a] H (fun v _ => v = .bl true) E0) :
    codeAny (model P w) callerA (.call (.ref fa) ⟨[.ref a], []⟩) (EndG s1.heap s1.os) s1 := by
  have rv := vals_ints its0
  have lv := its0.length
  cases hk : K.lookup a with
  | some o =>
    have e := inK a o hk
    rw [obj] at e
    cases e
    have sq : SqL K (fun _ => none) a (ns.map V.int) := .inr ⟨_, vs.toArray, _, hk, rfl, rfl, rfl, by rw [List.size_toArray, lv]; exact small, by simpa using rv⟩
    exact callG_at inK top bl blb nl ng obj hr F bind (H := fun _ => none) (fun _ => .inl rfl) (fun b u z => nomatch (show (none : Option HO) = some u from z)) (fun b z => absurd rfl z) (fun z => absurd rfl z) (q _ (fun _ => .inl rfl) sq)
  | none =>
    generalize hH : (fun b => if b = a then some (HO.frz { cls := .type "list", data := .seq vs.toArray } (.lst (ns.map V.int))) else none : Hp) = H
    have here : H a = some (.frz { cls := .type "list", data := .seq vs.toArray } (.lst (ns.map V.int))) := by rw [← hH]; exact if_pos rfl
    have else_ : ∀ b, b ≠ a → H b = none := fun b n => by rw [← hH]; exact if_neg n
    have only : Only H := fun b => (Classical.em (b = a)).elim (fun e => .inr ⟨{ cls := .type "list", data := .seq vs.toArray }, ns.map V.int, by rw [e]; exact here⟩) fun n => .inl (else_ b n)
    refine callG_at inK top bl blb nl ng obj hr F bind only (fun b u z => ?_) (fun b z => Classical.byContradiction fun n => z (else_ b n)) (fun _ => hk) (q _ only (.inl (.inr ⟨_, here⟩)))
    by_cases e : b = a
    · subst e
      rw [here] at z
      cases z
      exact ⟨obj, by rw [List.length_map]; exact small, vs, _, rv, obj⟩
    · rw [else_ b e] at z
      cases z
end
/-- the goal behind the head of an open law, by a promise that may tell texts of lists -/
theorem walk_ofG {l : PySem.W.OpenLaw} {n k : Nat} {q : Program} {loose : List Str} {XP : (Str → Option Value) → Heap → Prop} {YP : World → Heap → Prop} {d : DefRec} {K : Params → PySem.W.Frag} {sp : World → Sp} {x : Str}
    (most : l.most = some n) (small : n ≤ sizeLine) (plain : d.params.defaults = []) (hr : Room k callerA) (inK : ∀ (w : World) (h : Heap), YP w h → (K w.params).In h)
    (F : ∀ (w : World) (mg : Str → Option Value) (fa : Addr) (h : Heap), (K w.params).In h → h.Ns mainGlobals mg → mg d.name = some (.ref fa) →
      ∃ fd : FuncData, (∀ (s : Shared) (u : Value), BindsTo s fd ⟨[u], []⟩ [(x, u)]) ∧ ∀ base : Heap, (K w.params).In base → base.Ns mainGlobals mg → FnG l.prog w (K w.params) mg base k fa fd [x] (sp w))
    (enter : ∀ (w : World) (H : Hp) (a : Addr) (ns : List Int), ns.length ≤ n → Only H → SqL (K w.params) H a (ns.map V.int) → sp w [.ref a] H (fun v _ => v = .bl true) E0) :
    PySem.W.WalkO q loose XP YP l.row.toRowW d [] (fun f vs => PySem.call f vs) := by
  refine Att.attach_call most plain fun w s₀ s₁ mg mb fa o pm cd doc a vs ns G Y ho hd hcd hmg obj its0 len ng => ?_
  obtain ⟨fd, bind, hF⟩ := F w mg fa _ (inK w _ Y) G.T.g hmg
  exact callG (inK w _ Y) G.T.g G.T.b G.T.builtins G.T.nolimit ng obj its0 (Nat.le_trans len small) hr hF bind fun H only sq => enter w H a ns len only sq
/-! repr of lists and tuples -/
def rReprD (K : PySem.W.Frag) : List V → Hp → VK → Prop := fun xs H Q => ∃ (a : Addr) (d : PyData), xs = [.ref a] ∧ Dp K H (.ref a) d ∧ d.showable = true ∧ d.hasDict = false ∧ d.depth ≤ 60 ∧ d.shown.length ≤ sizeLine ∧ Q (.str d.shown) H
theorem call_reprD {X : Cx} {k : Nat} (gu : X.A.guards = some []) (hr : Room k X.A) : CallR X (.builtin "repr") (rReprD X.K) := by
  intro pins s σ H xs us Q I r h
  obtain ⟨a, d, rfl, dp, sh, nd, dep, len, q⟩ := h
  obtain ⟨u, rfl, ru⟩ := r.one
  cases ru
  obtain ⟨as, rd⟩ := Dp.reads I d _ _ dp rfl
  have un := hr.un
  refine repr_of_reads' (h₀ := s.heap) rd sh (fun z => by rw [nd] at z; cases z) gu (by omega) (fun _ _ h => h) (fun h' u tk keep => ?_) len
  exact ⟨.str d.shown, H, I.kept keep, ⟨u, rfl⟩, q⟩
/-- repr of any plain data -/
def rReprA (K : PySem.W.Frag) : List V → Hp → VK → Prop := fun xs H Q => ∃ (x : V) (d : PyData), xs = [x] ∧ Dp K H x d ∧ d.showable = true ∧ d.hasDict = false ∧ d.depth ≤ 60 ∧ d.shown.length ≤ sizeLine ∧ Q (.str d.shown) H
theorem call_reprA {X : Cx} {k : Nat} (gu : X.A.guards = some []) (hr : Room k X.A) : CallR X (.builtin "repr") (rReprA X.K) := by
  intro pins s σ H xs us Q I r h
  obtain ⟨x, d, rfl, dp, sh, nd, dep, len, q⟩ := h
  have big : ∀ a, x = .ref a → wpAny (model X.prog X.w) X.A (call (.builtin "repr") us) (EP X pins σ Q) X.xe s := fun a e => by
    subst e
    exact call_reprD gu hr pins s σ H _ us Q I r ⟨a, d, rfl, dp, sh, nd, dep, len, q⟩
  cases dp with
  | non =>
    obtain ⟨u, rfl, ru⟩ := r.one
    cases (show u = Value.none from ru)
    exact P.repr_of_none ⟨.str PyData.none.shown, H, I.tok _, ⟨_, rfl⟩, q⟩
  | bl b =>
    obtain ⟨u, rfl, ru⟩ := r.one
    cases (show u = Value.bool b from ru)
    exact P.repr_of_bool ⟨.str (PyData.bool b).shown, H, I.tok _, ⟨_, rfl⟩, q⟩
  | int i =>
    obtain ⟨u, rfl, t, rfl⟩ := r.one
    exact P.repr_of_int (of_decide_eq_true sh) ⟨.str (PyData.int i).shown, H, I.tok _, ⟨_, rfl⟩, q⟩
  | str z =>
    obtain ⟨u, rfl, t, rfl⟩ := r.one
    exact P.repr_of_str ⟨.str (PyData.str z).shown, H, I.tok _, ⟨_, rfl⟩, q⟩ len
  | lst _ _ => exact big _ rfl
  | tup _ _ => exact big _ rfl
section
variable {K : PySem.W.Frag} {ms : List Addr} {H : Hp} {d : D} {x : V}
theorem rep_repr {P : PyData → Prop} (h : rep ms H d x) (p : plainD d = true) (sh : (pyOf d).showable = true) (nd : (pyOf d).hasDict = false) (dep : (pyOf d).depth ≤ 60) (len : (pyOf d).shown.length ≤ sizeLine) (q : P (pyOf d)) :
    ∃ (x' : V) (d : PyData), [x] = [x'] ∧ Dp K H x' d ∧ d.showable = true ∧ d.hasDict = false ∧ d.depth ≤ 60 ∧ d.shown.length ≤ sizeLine ∧ P d :=
  ⟨x, _, rfl, dp_of (K := K) d x p h, sh, nd, dep, len, q⟩
end
/-! [e for x in range(lo, hi) if test]; min and max of a list of ints -/
section
variable {β : Type} {K : PySem.W.Frag} {ms ps : List Addr} {cs : List (Addr × List V)} {H0 H1 : Hp} {g : TG} {tt : TT} {te : TE} {vl : List Nat} {σ : L2.St} {Qd : Hp → Prop}
theorem lf_rangeC {lo hi : Int} {N : Nat} {L : Addr} {eb : β → D} {body : Int → (Option β → Prop) → Prop} {KM : List β → Prop} (hN : N = (hi - lo).toNat) (w : Wd ms ps cs H0 H1) (nl : H1 L = none) (hM : (rangeI lo hi).length < 100000 ∧ filC body (rangeI lo hi) [] KM)
    (hs : ∀ (x : Int) (n : Nat) (ys : List β) (vs : List V) (k : Option β → Prop) (H : Hp), n < 100000 → Trn ms ps cs H0 H1 L eb n ys vs H → body x k → ∀ Nx : Hp → Prop,
        (∀ y vs' H', k (some y) → Trn ms ps cs H0 H1 L eb (n + 1) (ys ++ [y]) vs' H' → Nx H') → (∀ vs' H', k none → Trn ms ps cs H0 H1 L eb (n + 1) ys vs' H' → Nx H') →
      g (.int x) (wipe σ vl) H fun σ2 H2 => wipe σ2 vl = wipe σ vl ∧ tt σ2 H2 fun b H3 => if b = true then te σ2 H3 fun y H4 => ∃ acc, H4 L = some (.lst acc) ∧ acc.length < sizeLine ∧ Nx (upd H4 L (.lst (acc ++ [y]))) else Nx H3)
    (hd : ∀ ys H, KM ys → Wd ms ps cs H0 H → Keep ms H1 H → rep ms H (.lst (ys.map eb)) (.ref L) → Qd H) :
    ∃ W : Nat → Nat → Hp → Prop, (∃ m, W 0 m (upd H1 L (.lst []))) ∧ ∀ i m H, W i m H →
      ((Itr lo N).stop i H ∧ Qd H) ∨ ((Itr lo N).go i H ∧ ∃ Nx : Hp → Prop, (∀ H', Nx H' → ∃ m', m' < m ∧ W (i + 1) m' H') ∧ ∀ x H', (Itr lo N).yld i H x H' → g x (wipe σ vl) H' fun σ2 H2 => wipe σ2 vl = wipe σ vl ∧ tt σ2 H2 fun b H3 =>
        if b = true then te σ2 H3 fun y H4 => ∃ acc, H4 L = some (.lst acc) ∧ acc.length < sizeLine ∧ Nx (upd H4 L (.lst (acc ++ [y]))) else Nx H3) := by
  obtain ⟨hn, hM⟩ := hM
  subst hN
  rw [rangeI_len] at hn
  refine ⟨fun i m H => m = (hi - lo).toNat - i ∧ i ≤ (hi - lo).toNat ∧ ∃ ys vs, Trn ms ps cs H0 H1 L eb i ys vs H ∧ filC body ((rangeI lo hi).drop i) ys KM, ⟨_, rfl, Nat.zero_le _, [], [], Trn.start w nl, hM⟩, ?_⟩
  rintro i m H ⟨rfl, hi', ys, vs, T, q⟩
  by_cases hlt : i < (hi - lo).toNat
  · refine .inr ⟨hlt, fun H' => i + 1 ≤ (hi - lo).toNat ∧ ∃ ys vs, Trn ms ps cs H0 H1 L eb (i + 1) ys vs H' ∧ filC body ((rangeI lo hi).drop (i + 1)) ys KM, fun H' p' => ⟨_, by omega, rfl, p'⟩, fun x H' y => ?_⟩
    obtain ⟨e, y⟩ := y
    subst e y
    rw [drop_cons' (rangeI_get hlt)] at q
    exact hs _ i ys vs _ H' (by omega) T q _ (fun y vs' H' k T' => ⟨hlt, _, _, T', k⟩) fun vs' H' k T' => ⟨hlt, _, _, T', k⟩
  · have e : i = (hi - lo).toNat := by omega
    refine .inl ⟨by rw [e]; exact Nat.le_refl _, ?_⟩
    have q' : KM ys := by
      rw [List.drop_of_length_le (by rw [rangeI_len]; omega)] at q
      exact q
    obtain ⟨w', k', r'⟩ := T.done w nl
    exact hd ys H q' w' k' r'
variable {x : V} {H : Hp}
theorem rep_minL {ns : List Int} {P : List Int → Prop} (h : rep ms H (.lst (ns.map fun n => D.v (.int n))) x) (ne : 0 < ns.length) (q : P ns) :
    ∃ (a : Addr) (ns : List Int), [x] = [V.ref a] ∧ SqL K H a (ns.map V.int) ∧ 0 < ns.length ∧ P ns := by
  simp only [rep] at h
  obtain ⟨p, vs, e, _, hp, hr⟩ := h
  have ev := repL_ints hr
  subst ev e
  exact ⟨p, ns, rfl, .inl (.inl hp), ne, q⟩
end
/-! repr and str of own instances, by the class's own def -/
def rOwnText (C : Addr) (sp : Sp) (E : XK) : List V → Hp → VK → Prop := fun xs H Q => ∃ (x : V) (a dx : Addr) (fs : List (Str × V)), xs = [x] ∧ x = .ref a ∧ H a = some (.ins C dx fs) ∧ sp [x] H (fun v H' => ∃ z : Str, v = .str z ∧ Q v H') E
structure OwnText (K : PySem.W.Frag) (C : Addr) (name : Str) (f : Addr) : Prop where
  hs : PySem.W.findIn K (.ref C) name = some (some (.ref f))
  hf : PySem.W.isFn K (.ref f) = true
section
variable {X : Cx} {n : Nat} {CX : CXT} {C f : Addr} {fd : FuncData} {ps : List Str} {sp : Sp} {E : XK}
theorem ownText_run (F : FnOk X.prog X.w X.K X.mg X.base CX n f fd ps sp) {A : Around} (hr : Room n A) (hb : Binds X.K fd ps []) (hx : Passes CX X E) {pins : List (Addr × Obj)} {σ : L2.St} {H : Hp} {s : Shared} {a : Addr} {Q : VK} (I : Inv X pins σ H s)
    (en : Env0 X.prog X.w X.K X.mg X.base A X.stack s H) (h : sp [.ref a] H (fun v H' => ∃ z : Str, v = .str z ∧ Q v H') E) : wpAny (model X.prog X.w) A (call (.ref f) [.ref a]) (PySem.W.StrBack (EP X pins σ Q)) X.xe s := by
  have hl := F.len _ _ _ _ h
  have bt := hb s [.ref a] I.kIn (by rw [List.append_nil]; exact hl)
  rw [List.append_nil] at bt
  refine wpAny_call (codeAny_mono (F.run A X.stack s H ⟨[.ref a], []⟩ [.ref a] [.ref a] _ E hr en bt (.cons rfl .nil) h) fun out s' hq => ?_)
  rcases out with err | fl
  · exact hx pins σ H s err s' I hq
  · rcases fl with _ | _ | _ | u
    · exact hq.elim
    · exact hq.elim
    · exact hq.elim
    · obtain ⟨v, H', I', rv, z, ez, q⟩ := I.after hq
      subst ez
      obtain ⟨t, rfl⟩ := rv
      exact ⟨.str z, H', I', ⟨t, rfl⟩, q⟩
theorem call_reprOwn (F : FnOk X.prog X.w X.K X.mg X.base CX n f fd ps sp) (hr : Room (n + 1) X.A) (o : OwnText X.K C "__repr__" f) (hb : Binds X.K fd ps []) (hx : Passes CX X E) : CallR X (.builtin "repr") (rOwnText C sp E) := by
  intro pins s σ H xs us Q I r h
  obtain ⟨x, a, dx, fs, rfl, rfl, ha, hsp⟩ := h
  obtain ⟨u, rfl, ru⟩ := r.one
  cases ru
  obtain ⟨mA, J, _⟩ := ins_get I.hok ha
  obtain ⟨od, J, _⟩ := J.look
  obtain ⟨m, hF⟩ := I.fr
  exact PySem.W.repr_K hr.in1.units0 hF I.ok.mod.kin J o.hs o.hf (ownText_run F hr.in1 hb hx I I.env0.in1 hsp)
theorem call_strOwn (F : FnOk X.prog X.w X.K X.mg X.base CX n f fd ps sp) (hr : Room (n + 2) X.A) (o : OwnText X.K C "__str__" f) (hb : Binds X.K fd ps []) (hx : Passes CX X E) : CallR X (.type "str") (rOwnText C sp E) := by
  intro pins s σ H xs us Q I r h
  obtain ⟨x, a, dx, fs, rfl, rfl, ha, hsp⟩ := h
  obtain ⟨u, rfl, ru⟩ := r.one
  cases ru
  obtain ⟨mA, J, _⟩ := ins_get I.hok ha
  obtain ⟨od, J, _⟩ := J.look
  exact PySem.W.kso_call hr.in1.in1.units0 I.kIn J o.hs o.hf (ownText_run F hr.in1.in1 hb hx I I.env0.in1.in1 hsp)
end
theorem rep_ownText {ms : List Addr} {H : Hp} {C : Addr} {ns : List Str} {ds : List D} {u : V} {P : V → Prop} (h : rep ms H (.ins C ns ds) u) (k : P u) :
    ∃ (x : V) (a dx : Addr) (fs : List (Str × V)), [u] = [x] ∧ x = .ref a ∧ H a = some (.ins C dx fs) ∧ P x := by
  obtain ⟨p, dx, fs, e, hp⟩ := rep_ins h
  exact ⟨u, p, dx, fs, rfl, e, hp, k⟩
/-! results that may be None -/
def encO {α : Type} (e : α → D) : Option α → D
  | none => .v .non
  | some y => e y
theorem rep_isN {α : Type} {e : α → D} {ms : List Addr} {H : Hp} {m : Option α} {u : V} (he : ∀ y, ∃ ds, e y = .tup ds) (h : rep ms H (encO e m) u) : decide (u = .non) = m.isNone := by
  cases m with
  | none =>
    rw [of_v h]
    rfl
  | some y =>
    obtain ⟨ds, ed⟩ := he y
    have h' : rep ms H (e y) u := h
    rw [ed] at h'
    simp only [rep] at h'
    obtain ⟨p, _, e1, _⟩ := h'
    rw [e1]
    rfl
theorem rep_isSome {α : Type} {e : α → D} {ms : List Addr} {H : Hp} {m : Option α} {u : V} (he : ∀ y, ∃ ds, e y = .tup ds) (h : rep ms H (encO e m) u) : (!decide (u = .non)) = m.isSome := by
  rw [rep_isN he h]
  cases m <;> rfl
theorem rep_some {α : Type} {e : α → D} {ms : List Addr} {H : Hp} {m : Option α} {u : V} {y : α} (hy : m = some y) (h : rep ms H (encO e m) u) : rep ms H (e y) u := by
  subst hy
  exact h
/-! a def called by keywords alone -/
def tCallKw (n : Nat) (gV : List V → List V → List V) (sp : Sp) (E : XK) (tk : TA) : TE := fun σ H Q => tk σ H fun zs H1 => zs.length = n ∧ sp (gV [] zs) H1 Q E
theorem pe_callKw {X : Cx} {CX : CXT} {k : Nat} {f : Addr} {fd : FuncData} {ps ks : List Str} {sp : Sp} {E : XK} {x : Str} {p pos : Pos} {kws : List Keyword} {tk : TA} {g : List Value → List Value → List Value} {gV : List V → List V → List V}
    (F : FnOk X.prog X.w X.K X.mg X.base CX k f fd ps sp) (hr : Room k X.A) (hg : Gl X x) (hm : X.mg x = some (.ref f)) (hk : PySem.W.keepIn X.K (.ref f) = true) (hb : KBn X.K fd ps 0 ks g gV) (hx : Passes CX X E) (hkw : PK X kws tk)
    (hall : (backToKw pos (keywordEach kws X.env)).all (·.1.isSome) = true := by rfl) (hks : (backToKw pos (keywordEach kws X.env)).filterMap (·.1) = ks := by rfl) (hdb : (x == ("__debug__" : Str)) = false := by decide)
    (hpl : ((backTo pos (starEach [] X.env)).any (·.1) || (backToKw pos (keywordEach kws X.env)).any (·.1.isNone)) = false := by rfl) : PE X (.Call (.Name x p) [] kws pos) (tCallKw ks.length gV sp E tk) :=
  ⟨fun pins s σ H Q I h => wpAny_Call_Name_kw (ld_glob I hg hm (PySem.W.callWith_KW0 (first := []) (h₀ := X.base) I.ok.mod.kin hk hall (thn (hkw.run pos pins s σ H _ I h) fun ws s2 ⟨zs, H2, I2, rz, l2, q2⟩ => ⟨I2.kIn, by
    rw [hks]
    exact run_fnN (us := []) (vs := []) F hr hb hx I2 .nil rz rfl l2 q2⟩) hpl) hdb)⟩
end Rx
namespace Rx
open PySem PySem.Spec PyProof.Rows L2
section
variable {K : PySem.W.Frag} {ms ps : List Addr} {cs : List (Addr × List V)} {H0 H H1 H' : Hp} {x : V} {ds : List D}
theorem wd_none {p : Addr} (w : Wd ms ps cs H0 H) (np : H p = none) : H0 p = none := by
  cases q : H0 p with
  | none => rfl
  | some o => exact absurd np (w.grow p (by rw [q]; exact fun z => nomatch z))
def rLstOf (K : PySem.W.Frag) : List V → Hp → VK → Prop := fun xs H Q => ∃ p ys, xs = [.ref p] ∧ (SqL K H p ys ∨ SqT K H p ys) ∧ ∀ l, H l = none → Q (.ref l) (upd H l (.lst ys))
theorem rep_listT {P : List V → Prop} (h : rep ms H (.tup ds) x) (k : ∀ ys, repL ms H ds ys → P ys) :
    ∃ p ys, [x] = [.ref p] ∧ (SqL K H p ys ∨ SqT K H p ys) ∧ P ys := by
  simp only [rep] at h
  obtain ⟨p, vs, rfl, _, hp, hr⟩ := h
  exact ⟨p, vs, rfl, .inr (.inl (.inl hp)), k vs hr⟩
theorem rep_listL {P : List V → Prop} (h : rep ms H (.lst ds) x) (k : ∀ ys, repL ms H ds ys → P ys) :
    ∃ p ys, [x] = [.ref p] ∧ (SqL K H p ys ∨ SqT K H p ys) ∧ P ys := by
  simp only [rep] at h
  obtain ⟨p, vs, rfl, _, hp, hr⟩ := h
  exact ⟨p, vs, rfl, .inl (.inl (.inl hp)), k vs hr⟩
mutual
theorem rep_noL {L : Addr} {vs vs' : List V} (hL : H L = some (.lst vs)) : ∀ (d : D) (u : V), noL d = true → rep ms H d u → rep ms (upd H L (.lst vs')) d u
  | .v x, u, _, h => by
    simp only [rep] at h ⊢
    exact h
  | .lst ds, u, n, h => by
    simp only [noL] at n
    cases n
  | .tup ds, u, n, h => by
    simp only [noL] at n
    simp only [rep] at h ⊢
    obtain ⟨p, us, e, np, hp, hl⟩ := h
    refine ⟨p, us, e, np, ?_, repL_noL hL ds us n hl⟩
    rw [upd_ne (fun z => by rw [z, hL] at hp; cases hp)]
    exact hp
  | .ins C ns ds, u, n, h => by
    simp only [noL] at n
    simp only [rep] at h ⊢
    obtain ⟨p, dx, us, e, np, hp, hn, hl⟩ := h
    refine ⟨p, dx, us, e, np, ?_, hn, repL_noL hL ds us n hl⟩
    rw [upd_ne (fun z => by rw [z, hL] at hp; cases hp)]
    exact hp
  | .dct ks ds, u, n, h => by
    simp only [noL] at n
    simp only [rep] at h ⊢
    obtain ⟨p, us, e, np, hp, hn, hl⟩ := h
    refine ⟨p, us, e, np, ?_, hn, repL_noL hL ds us n hl⟩
    rw [upd_ne (fun z => by rw [z, hL] at hp; cases hp)]
    exact hp
theorem repL_noL {L : Addr} {vs vs' : List V} (hL : H L = some (.lst vs)) : ∀ (ds : List D) (us : List V), noLs ds = true → repL ms H ds us → repL ms (upd H L (.lst vs')) ds us
  | [], us, _, h => by
    simp only [repL] at h ⊢
    exact h
  | d :: ds, us, n, h => by
    simp only [noLs, Bool.and_eq_true] at n
    simp only [repL] at h ⊢
    obtain ⟨u, ws, e, h1, h2⟩ := h
    exact ⟨u, ws, e, rep_noL hL d u n.1 h1, repL_noL hL ds ws n.2 h2⟩
end
theorem noLs_map {α : Type} {e : α → D} (hn : ∀ x, noL (e x) = true) : ∀ xs : List α, noLs (xs.map e) = true
  | [] => rfl
  | x :: xs => by
    show (noL (e x) && noLs (xs.map e)) = true
    rw [hn x, noLs_map hn xs]
    rfl
theorem repL_set {α : Type} {e : α → D} {y : α} {v : V} : ∀ {xs : List α} {vs : List V} (j : Nat), repL ms H (xs.map e) vs → rep ms H (e y) v → repL ms H ((xs.set j y).map e) (vs.set j v)
  | [], vs, j, h, r => by
    have ev : vs = [] := by
      simp only [List.map_nil, repL] at h
      exact h
    subst ev
    simpa using h
  | x :: xs, vs, 0, h, r => by
    simp only [List.map_cons, repL] at h
    obtain ⟨u, us, rfl, h1, h2⟩ := h
    exact repL_cons r h2
  | x :: xs, vs, j + 1, h, r => by
    simp only [List.map_cons, repL] at h
    obtain ⟨u, us, rfl, h1, h2⟩ := h
    exact repL_cons h1 (repL_set j h2 r)
/-- L, a list of this def's own, may be told anew -/
theorem wd_own {L : Addr} {vs vs' : List V} (w : Wd ms ps cs H0 H) (nm : L ∉ ms) (hL : H L = some (.lst vs)) (o : H0 L = none) : Wd ms ps cs H0 (upd H L (.lst vs')) := by
  refine ⟨fun a o' n h => ?_, fun a h => ?_, fun m h => ?_, fun a h => ?_, w.pm, fun c h => ?_⟩
  · rw [upd_ne (ne_of_none h o)]
    exact w.kp a o' n h
  · by_cases e : a = L
    · rw [e, upd_same]
      exact fun z => nomatch z
    · rw [upd_ne e]
      exact w.grow a h
  · rw [upd_ne (fun z => nm (by rw [← z]; exact h))]
    exact w.tr m h
  · obtain ⟨i, j, h1, h3⟩ := w.pot a h
    exact ⟨i, j, by rw [upd_ne (fun z => nm (by rw [← z]; exact w.pm a h))]; exact h1, h3⟩
  · obtain ⟨h1, h3, h4, h5⟩ := w.cel c h
    exact ⟨by rw [upd_ne (fun z => nm (by rw [← z]; exact h3))]; exact h1, h3, h4, h5⟩
theorem rep_setL {α : Type} {e : α → D} {xs : List α} {y : α} {k : Int} {v : V} {L : Addr} {Q : Hp → Prop} (w : Wd ms ps cs H0 H) (h : rep ms H (.lst (xs.map e)) (.ref L)) (o : H0 L = none) (hn : ∀ x, noL (e x) = true)
    (h0 : 0 ≤ k) (hj : k.toNat < xs.length) (r : rep ms H (e y) v)
    (kk : ∀ H', Wd ms ps cs H0 H' → rep ms H' (.lst ((xs.set k.toNat y).map e)) (.ref L) → (∀ d u, noL d = true → rep ms H d u → rep ms H' d u) → Q H') : rSetL (.ref L) (.int k) v H Q := by
  simp only [rep] at h
  obtain ⟨p, vs, e1, np, hp, hr⟩ := h
  cases e1
  have hl := repL_len hr
  rw [List.length_map] at hl
  refine ⟨L, vs, k, k.toNat, rfl, rfl, hp, ?_, kk _ (wd_own w np hp o) ?_ fun d u n h => rep_noL hp d u n h⟩
  · unfold ixN
    rw [if_pos h0, if_pos (by omega)]
  · simp only [rep]
    exact ⟨L, _, rfl, np, upd_same, repL_set _ (repL_noL hp _ _ (noLs_map hn xs) hr) (rep_noL hp _ _ (hn y) r)⟩
end

/-! rules whose reading names the frame itself (within a comprehension its context is not known to the reading) -/
section
variable {X : Cx} {K : PySem.W.Frag}
theorem ix_listK (hK : X.K = K) : IxR X (rIxL K) := by
  subst hK
  exact ix_list
theorem ix_tupK (hK : X.K = K) : IxR X (rIxT K) := by
  subst hK
  exact ix_tup
end
end Rx
namespace Rx
open PySem PySem.Spec PyProof.Rows L2
section
variable {K : PySem.W.Frag} {ms ms' ps : List Addr} {H0 H H' H1 : Hp} {L L' : Addr} {d d' : D} {ds : List D} {u x : V} {vs : List V}
/-- what stands at L -/
def valO (ms : List Addr) (H : Hp) (L : Addr) : D → Prop
  | .lst ds => ∃ vs, H L = some (.lst vs) ∧ repL ms H ds vs
  | .dct ks ds => ∃ vs, H L = some (.dK (ks.zip vs)) ∧ ks.length = vs.length ∧ repL ms H ds vs
  | _ => False
theorem valO_map (f : ∀ p o, p ∉ ms → H p = some o → p ∉ ms' ∧ H' p = some o) (g : ∀ o, H L = some o → H' L = some o) : ∀ d : D, valO ms H L d → valO ms' H' L d
  | .lst ds, ⟨vs, h1, h2⟩ => ⟨vs, g _ h1, repL_map f ds vs h2⟩
  | .dct ks ds, ⟨vs, h1, h2, h3⟩ => ⟨vs, g _ h1, h2, repL_map f ds vs h3⟩
  | .v _, h => h
  | .tup _, h => h
  | .ins _ _ _, h => h
structure MutO (ms ps : List Addr) (H0 H : Hp) (L : Addr) (d : D) : Prop where
  im : L ∈ ms
  hp : L ∉ ps
  h0 : H0 L = none
  val : valO ms H L d
theorem MutO.some (m : MutO ms ps H0 H L d) : ∃ o, H L = some o := by
  have h := m.val
  cases d with
  | lst ds => exact ⟨_, h.choose_spec.1⟩
  | dct ks ds => exact ⟨_, h.choose_spec.1⟩
  | v _ => exact h.elim
  | tup _ => exact h.elim
  | ins _ _ _ => exact h.elim
theorem mo_ret (w : Wd ms ps [] H0 H) (e : Ret ps H H') (m : MutO ms ps H0 H L d) : MutO ms ps H0 H' L d :=
  ⟨m.im, m.hp, m.h0, valO_map (fun p o n hp => ⟨n, e.kp p o (fun z => n (w.pm p z)) hp⟩) (fun o h => e.kp L o m.hp h) d m.val⟩
theorem mo_ext (e : Ret [] H H') (m : MutO ms ps H0 H L d) : MutO ms ps H0 H' L d :=
  ⟨m.im, m.hp, m.h0, valO_map (fun p o n hp => ⟨n, e.kp p o (by simp) hp⟩) (fun o h => e.kp L o (by simp) h) d m.val⟩
theorem mo_ne (nl : H L = none) (m : MutO ms ps H0 H L' d) : L' ≠ L := fun z => by
  obtain ⟨o, h⟩ := m.some
  rw [z, nl] at h
  cases h
theorem mo_cell {o : HO} (nl : H L = none) (m : MutO ms ps H0 H L' d) : MutO (L :: ms) ps H0 (upd H L o) L' d :=
  ⟨List.mem_cons_of_mem _ m.im, m.hp, m.h0, valO_map (fun p o n hp => ⟨fun z => by
    rcases List.mem_cons.mp z with z | z
    · exact ne_of_none hp nl z
    · exact n z, by rw [upd_ne (ne_of_none hp nl)]; exact hp⟩) (fun o h => by rw [upd_ne (mo_ne nl m)]; exact h) d m.val⟩
theorem mo_put {o : HO} (lm : L ∈ ms) (ne : L' ≠ L) (m : MutO ms ps H0 H L' d) : MutO ms ps H0 (upd H L o) L' d :=
  ⟨m.im, m.hp, m.h0, valO_map (fun p o n hp => ⟨n, by rw [upd_ne (fun z => n (by rw [z]; exact lm))]; exact hp⟩) (fun o h => by rw [upd_ne ne]; exact h) d m.val⟩
theorem mo_sub (s : ∀ a ∈ ms', a ∈ ms) (i : L ∈ ms') (m : MutO ms ps H0 H L d) : MutO ms' ps H0 H L d :=
  ⟨i, m.hp, m.h0, valO_map (fun p o n hp => ⟨fun z => n (s p z), hp⟩) (fun o h => h) d m.val⟩
theorem rep_sub (s : ∀ a ∈ ms', a ∈ ms) (h : rep ms H d u) : rep ms' H d u := rep_map (fun p o n hp => ⟨fun z => n (s p z), hp⟩) d u h
theorem wd_sub (s : ∀ a ∈ ms', a ∈ ms) (hp : ∀ a ∈ ps, a ∈ ms') (w : Wd ms ps [] H0 H) : Wd ms' ps [] H0 H :=
  ⟨w.kp, w.grow, fun m h => w.tr m (s m h), w.pot, hp, fun _ h => absurd h List.not_mem_nil⟩
theorem keep_sub (h : ∀ a ∈ ms, a ∈ ms' ∨ H1 a = none) (k : Keep ms H1 H) : Keep ms' H1 H := fun a o n e => k a o (fun z => by
  rcases h a z with z | z
  · exact n z
  · rw [z] at e
    cases e) e
theorem mo_rep (n : L ∉ ms') (s : ∀ a ∈ ms', a ∈ ms) (m : MutO ms ps H0 H L d) : rep ms' H d (.ref L) := by
  have h := m.val
  cases d with
  | lst ds =>
    obtain ⟨vs, h1, h2⟩ := h
    simp only [rep]
    exact ⟨L, vs, rfl, n, h1, repL_map (fun p o n hp => ⟨fun z => n (s p z), hp⟩) ds vs h2⟩
  | dct ks ds =>
    obtain ⟨vs, h1, h2, h3⟩ := h
    simp only [rep]
    exact ⟨L, vs, rfl, n, h1, h2, repL_map (fun p o n hp => ⟨fun z => n (s p z), hp⟩) ds vs h3⟩
  | v _ => exact h.elim
  | tup _ => exact h.elim
  | ins _ _ _ => exact h.elim
/-- a new thing of one's own -/
theorem wd_cell {o : HO} (w : Wd ms ps [] H0 H) (nl : H L = none) : Wd (L :: ms) ps [] H0 (upd H L o) := by
  have w1 := w.ret0 (Ext.new (o := o) nl)
  refine ⟨w1.kp, w1.grow, fun m h => ?_, w1.pot, fun a h => List.mem_cons_of_mem _ (w.pm a h), fun _ h => absurd h List.not_mem_nil⟩
  rcases List.mem_cons.mp h with rfl | h
  · rw [upd_same]
    exact fun z => nomatch z
  · exact w1.tr m h
theorem pot_new (w : Wd ms ps [] H0 H) (nl : H L = none) : L ∉ ps := fun z => by
  obtain ⟨i, j, h, _⟩ := w.pot L z
  rw [nl] at h
  cases h
theorem nm_new (w : Wd ms ps [] H0 H) (nl : H L = none) : L ∉ ms := fun z => w.tr L z nl
theorem mo_newL (w : Wd ms ps [] H0 H) (nl : H L = none) (r : repL ms H ds vs) : MutO (L :: ms) ps H0 (upd H L (.lst vs)) L (.lst ds) :=
  ⟨List.mem_cons_self, pot_new w nl, wd_none w nl, vs, upd_same, repL_map (fun p o n hp => ⟨fun z => by
    rcases List.mem_cons.mp z with z | z
    · exact ne_of_none hp nl z
    · exact n z, by rw [upd_ne (ne_of_none hp nl)]; exact hp⟩) _ _ r⟩
theorem mo_newD {ks : List Key} (w : Wd ms ps [] H0 H) (nl : H L = none) (hl : ks.length = vs.length) (r : repL ms H ds vs) : MutO (L :: ms) ps H0 (upd H L (.dK (ks.zip vs))) L (.dct ks ds) :=
  ⟨List.mem_cons_self, pot_new w nl, wd_none w nl, vs, upd_same, hl, repL_map (fun p o n hp => ⟨fun z => by
    rcases List.mem_cons.mp z with z | z
    · exact ne_of_none hp nl z
    · exact n z, by rw [upd_ne (ne_of_none hp nl)]; exact hp⟩) _ _ r⟩
/-- told anew -/
theorem wd_put {o : HO} (w : Wd ms ps [] H0 H) (m : MutO ms ps H0 H L d) : Wd ms ps [] H0 (upd H L o) := by
  refine ⟨fun a o' n h => ?_, fun a h => ?_, fun a h => ?_, fun a h => ?_, w.pm, fun _ h => absurd h List.not_mem_nil⟩
  · rw [upd_ne (ne_of_none h m.h0)]
    exact w.kp a o' n h
  · by_cases e : a = L
    · rw [e, upd_same]
      exact fun z => nomatch z
    · rw [upd_ne e]
      exact w.grow a h
  · by_cases e : a = L
    · rw [e, upd_same]
      exact fun z => nomatch z
    · rw [upd_ne e]
      exact w.tr a h
  · obtain ⟨i, j, h1, h3⟩ := w.pot a h
    exact ⟨i, j, by rw [upd_ne (fun z => m.hp (by rw [← z]; exact h))]; exact h1, h3⟩
theorem mo_setL (m : MutO ms ps H0 H L d) (r : repL ms H ds vs) : MutO ms ps H0 (upd H L (.lst vs)) L (.lst ds) :=
  ⟨m.im, m.hp, m.h0, vs, upd_same, repL_put m.im r⟩
theorem mo_appU {P : Addr → List V → V → Prop} (m : MutO ms ps H0 H L (.lst ds)) (hl : ds.length < 16777216) (k : ∀ vs, repL ms H ds vs → P L vs u) :
    ∃ (l : Addr) (xs : List V) (y : V), V.ref L = .ref l ∧ [u] = [y] ∧ H l = some (.lst xs) ∧ xs.length < sizeLine ∧ P l xs y := by
  obtain ⟨vs, h1, h2⟩ := m.val
  refine ⟨L, vs, u, rfl, rfl, h1, ?_, k vs h2⟩
  rw [← repL_len h2, sizeLine_eq]
  exact hl
theorem mo_tyL (m : MutO ms ps H0 H L (.lst ds)) : tyV K "list" (.ref L) H := by
  obtain ⟨vs, h1, h2⟩ := m.val
  exact .inl ⟨rfl, vs, .inl (.inl h1)⟩
theorem mo_setU {α : Type} {e : α → D} {xs : List α} {k : Int} {v : V} {Q : Hp → Prop} (m : MutO ms ps H0 H L (.lst (xs.map e))) (h0 : 0 ≤ k) (hj : k.toNat < xs.length)
    (kk : ∀ vs, repL ms H (xs.map e) vs → Q (upd H L (.lst (vs.set k.toNat v)))) : rSetL (.ref L) (.int k) v H Q := by
  obtain ⟨vs, h1, h2⟩ := m.val
  have hl := repL_len h2
  rw [List.length_map] at hl
  refine ⟨L, vs, k, k.toNat, rfl, rfl, h1, ?_, kk vs h2⟩
  unfold ixN
  rw [if_pos h0, if_pos (by omega)]
/-- a list of one's own, as the comprehension's end wants it -/
theorem mo_end {n : Nat} {Nx : Hp → Prop} (m : MutO ms ps H0 H L (.lst ds)) (hn : n < 100000) (hy : ds.length ≤ n) (h : ∀ vs, repL ms H ds vs → Nx (upd H L (.lst (vs ++ [u])))) :
    ∃ acc, H L = some (.lst acc) ∧ acc.length < sizeLine ∧ Nx (upd H L (.lst (acc ++ [u]))) := by
  obtain ⟨vs, h1, h2⟩ := m.val
  refine ⟨vs, h1, ?_, h vs h2⟩
  have q := repL_len h2
  have e : sizeLine = 16777216 := sizeLine_eq
  omega
theorem repL_snoc {α : Type} {e : α → D} {xs : List α} {y : α} (r : repL ms H (xs.map e) vs) (h : rep ms H (e y) u) : repL ms H ((xs ++ [y]).map e) (vs ++ [u]) := by
  rw [List.map_append]
  exact repL_app r (repL_one h)
theorem repL_cat {α : Type} {e : α → D} {xs ys : List α} {us : List V} (r : repL ms H (xs.map e) vs) (h : repL ms H (ys.map e) us) : repL ms H ((xs ++ ys).map e) (vs ++ us) := by
  rw [List.map_append]
  exact repL_app r h
end

/-! loops by any invariant -/
section
variable {α S : Type} {K : PySem.W.Frag} {H1 : Hp} {g : TG} {tb : TS} {D' : Ends} {σ : L2.St}
theorem for_rangeG {lo hi : Int} {N : Nat} {body : Int → S → (S → Prop) → Prop} {KM : S → Prop} (SI : S → L2.St → Hp → Prop) (s0 : S) (hN : N = (hi - lo).toNat) (hM : forC body (rangeI lo hi) s0 KM) (h0 : SI s0 σ H1)
    (hs : ∀ (x : Int) (s : S) (k : S → Prop) (σ : L2.St) (H : Hp), SI s σ H → body x s k → ∀ Nx : L2.St → Hp → Prop, (∀ s' σ' H', k s' → SI s' σ' H' → Nx σ' H') →
      g (.int x) σ H fun σ2 H2 => tb { D' with nx := Nx, ct := Nx, bk := D'.nx } σ2 H2)
    (hd : ∀ s σ H, KM s → SI s σ H → D'.nx σ H) :
    ∃ W : Nat → Nat → L2.St → Hp → Prop, (∃ m, W 0 m σ H1) ∧ ∀ i m σ H, W i m σ H →
      ((Itr lo N).stop i H ∧ D'.nx σ H) ∨ ((Itr lo N).go i H ∧ ∃ Nx : L2.St → Hp → Prop, (∀ σ' H', Nx σ' H' → ∃ m', m' < m ∧ W (i + 1) m' σ' H') ∧ ∀ x H', (Itr lo N).yld i H x H' → g x σ H' fun σ2 H2 => tb { D' with nx := Nx, ct := Nx, bk := D'.nx } σ2 H2) := by
  subst hN
  refine for_range (lo := lo) (n := (hi - lo).toNat) (D := D') (fun i σ H => ∃ s, SI s σ H ∧ forC body ((rangeI lo hi).drop i) s KM) ⟨s0, h0, hM⟩ (fun i σ H hi' ⟨s, si, q⟩ => ?_) (fun σ H ⟨s, si, q⟩ => ?_)
  · rw [drop_cons' (rangeI_get hi')] at q
    exact hs _ s _ σ H si q _ fun s' σ' H' hk si2 => ⟨s', si2, hk⟩
  · rw [List.drop_of_length_le (by rw [rangeI_len]; exact Nat.le_refl _)] at q
    exact hd s σ H q si
theorem for_listG {items : List α} {e : α → D} {ms : List Addr} {a : Addr} {xs : List V} {body : α → S → (S → Prop) → Prop} {KM : S → Prop} (SI : S → L2.St → Hp → Prop) (s0 : S) (an : a ∉ ms) (ha : H1 a = some (.lst xs)) (hx : repL ms H1 (items.map e) xs)
    (kp : ∀ s σ H, SI s σ H → Keep ms H1 H) (hM : forC body items s0 KM) (h0 : SI s0 σ H1)
    (hs : ∀ (x : α) (u : V) (s : S) (k : S → Prop) (σ : L2.St) (H : Hp), SI s σ H → rep ms H (e x) u → body x s k → ∀ Nx : L2.St → Hp → Prop, (∀ s' σ' H', k s' → SI s' σ' H' → Nx σ' H') →
      g u σ H fun σ2 H2 => tb { D' with nx := Nx, ct := Nx, bk := D'.nx } σ2 H2)
    (hd : ∀ s σ H, KM s → SI s σ H → D'.nx σ H) :
    ∃ W : Nat → Nat → L2.St → Hp → Prop, (∃ m, W 0 m σ H1) ∧ ∀ i m σ H, W i m σ H →
      ((Itl K a).stop i H ∧ D'.nx σ H) ∨ ((Itl K a).go i H ∧ ∃ Nx : L2.St → Hp → Prop, (∀ σ' H', Nx σ' H' → ∃ m', m' < m ∧ W (i + 1) m' σ' H') ∧ ∀ x H', (Itl K a).yld i H x H' → g x σ H' fun σ2 H2 => tb { D' with nx := Nx, ct := Nx, bk := D'.nx } σ2 H2) := by
  have hl : items.length = xs.length := by
    have := repL_len hx
    rwa [List.length_map] at this
  refine for_list (xs := xs) (D := D') (fun i σ H => ∃ s, SI s σ H ∧ forC body (items.drop i) s KM) ⟨s0, h0, hM⟩ (fun i σ H _ ⟨s, si, _⟩ => .inl (.inl (kp s σ H si a _ an ha))) (fun i x σ H hx' ⟨s, si, q⟩ => ?_) (fun σ H ⟨s, si, q⟩ => ?_)
  · have hi : i < xs.length := (List.getElem?_eq_some_iff.mp hx').1
    have hit : items[i]? = some (items[i]'(by omega)) := List.getElem?_eq_getElem (by omega)
    rw [drop_cons' hit] at q
    obtain ⟨v, hv, rv⟩ := repL_get (repL_keep (kp s σ H si) hx) (j := i) (d := e (items[i]'(by omega))) (by rw [List.getElem?_map, hit]; rfl)
    rw [hx'] at hv
    have ev : x = v := Option.some.inj hv
    subst ev
    exact hs _ x s _ σ H si rv q _ fun s' σ' H' hk si2 => ⟨s', si2, hk⟩
  · rw [List.drop_of_length_le (by omega)] at q
    exact hd s σ H q si
theorem while_G {c : TT} {fuel : Nat} {body : S → (S → Prop) → (S → Prop) → Prop} {KM : S → Prop} (SI : S → L2.St → Hp → Prop) (s0 : S) (hM : whileC body fuel s0 KM) (h0 : SI s0 σ H1)
    (hs : ∀ (s : S) (k1 k2 : S → Prop) (σ : L2.St) (H : Hp), SI s σ H → body s k1 k2 → ∀ (Nx : L2.St → Hp → Prop) (Ex : L2.St → Hp → Prop), (∀ s' σ' H', k1 s' → SI s' σ' H' → Nx σ' H') → (∀ s' σ' H', k2 s' → SI s' σ' H' → Ex σ' H') →
      c σ H fun b H1 => if b = true then tb { D' with nx := Nx, ct := Nx, bk := D'.nx } σ H1 else Ex σ H1)
    (hd : ∀ s σ H, KM s → SI s σ H → D'.nx σ H)
    (mono : ∀ σ H Q Q', (∀ b H1, Q b H1 → Q' b H1) → c σ H Q → c σ H Q') : tWhile c tb D' σ H1 := by
  refine ⟨fun m σ H => ∃ s, SI s σ H ∧ whileC body m s KM, ⟨fuel, s0, h0, hM⟩, ?_⟩
  rintro m σ H ⟨s, si, q⟩
  cases m with
  | zero => exact False.elim q
  | succ m =>
    refine mono _ _ _ _ (fun b H2 hb => ?_) (hs s _ _ σ H si q (fun σ' H' => ∃ s, SI s σ' H' ∧ whileC body m s KM) D'.nx (fun s' σ' H' hk si2 => ⟨s', si2, hk⟩) fun s' σ' H' hk si2 => hd s' σ' H' hk si2)
    cases b with
    | true => exact ⟨_, fun σ' H' p => ⟨m, Nat.lt_succ_self m, p⟩, hb⟩
    | false => exact hb
end

/-! comprehensions by any invariant -/
section
variable {α β : Type} {K : PySem.W.Frag} {H1 H2 : Hp} {g : TG} {tt : TT} {te : TE} {vl : List Nat} {σ : L2.St} {Qd : Hp → Prop} {L : Addr}
/-- one turn -/
abbrev Turn (g : TG) (tt : TT) (te : TE) (vl : List Nat) (σ : L2.St) (L : Addr) (u : V) (H : Hp) (Nx : Hp → Prop) : Prop :=
  g u (wipe σ vl) H fun σ2 H2 => wipe σ2 vl = wipe σ vl ∧ tt σ2 H2 fun b H3 => if b = true then te σ2 H3 fun y H4 => ∃ acc, H4 L = some (.lst acc) ∧ acc.length < sizeLine ∧ Nx (upd H4 L (.lst (acc ++ [y]))) else Nx H3
theorem lc_rangeG {lo hi : Int} {N : Nat} {body : Int → (β → Prop) → Prop} {KM : List β → Prop} (SI : Nat → List β → Hp → Prop) (hN : N = (hi - lo).toNat) (hM : (rangeI lo hi).length < 100000 ∧ mapC body (rangeI lo hi) [] KM) (h0 : SI 0 [] (upd H1 L (.lst [])))
    (hs : ∀ (x : Int) (n : Nat) (ys : List β) (k : β → Prop) (H : Hp), n < 100000 → SI n ys H → body x k → ∀ Nx : Hp → Prop, (∀ y H', k y → SI (n + 1) (ys ++ [y]) H' → Nx H') → Turn g tt te vl σ L (.int x) H Nx)
    (hd : ∀ n ys H, KM ys → SI n ys H → Qd H) :
    ∃ W : Nat → Nat → Hp → Prop, (∃ m, W 0 m (upd H1 L (.lst []))) ∧ ∀ i m H, W i m H →
      ((Itr lo N).stop i H ∧ Qd H) ∨ ((Itr lo N).go i H ∧ ∃ Nx : Hp → Prop, (∀ H', Nx H' → ∃ m', m' < m ∧ W (i + 1) m' H') ∧ ∀ x H', (Itr lo N).yld i H x H' → g x (wipe σ vl) H' fun σ2 H2 => wipe σ2 vl = wipe σ vl ∧ tt σ2 H2 fun b H3 =>
        if b = true then te σ2 H3 fun y H4 => ∃ acc, H4 L = some (.lst acc) ∧ acc.length < sizeLine ∧ Nx (upd H4 L (.lst (acc ++ [y]))) else Nx H3) := by
  obtain ⟨hn, hM⟩ := hM
  subst hN
  rw [rangeI_len] at hn
  refine ⟨fun i m H => m = (hi - lo).toNat - i ∧ i ≤ (hi - lo).toNat ∧ ∃ ys, SI i ys H ∧ mapC body ((rangeI lo hi).drop i) ys KM, ⟨_, rfl, Nat.zero_le _, [], h0, hM⟩, ?_⟩
  rintro i m H ⟨rfl, hi', ys, T, q⟩
  by_cases hlt : i < (hi - lo).toNat
  · refine .inr ⟨hlt, fun H' => i + 1 ≤ (hi - lo).toNat ∧ ∃ ys, SI (i + 1) ys H' ∧ mapC body ((rangeI lo hi).drop (i + 1)) ys KM, fun H' p' => ⟨_, by omega, rfl, p'⟩, fun x H' y => ?_⟩
    obtain ⟨e, y⟩ := y
    subst e y
    rw [drop_cons' (rangeI_get hlt)] at q
    exact hs _ i ys _ H' (by omega) T q _ fun y H' k T' => ⟨hlt, _, T', k⟩
  · have e : i = (hi - lo).toNat := by omega
    refine .inl ⟨by rw [e]; exact Nat.le_refl _, ?_⟩
    rw [List.drop_of_length_le (by rw [rangeI_len]; omega)] at q
    exact hd _ ys H q T
theorem lf_rangeG {lo hi : Int} {N : Nat} {body : Int → (Option β → Prop) → Prop} {KM : List β → Prop} (SI : Nat → List β → Hp → Prop) (hN : N = (hi - lo).toNat) (hM : (rangeI lo hi).length < 100000 ∧ filC body (rangeI lo hi) [] KM) (h0 : SI 0 [] (upd H1 L (.lst [])))
    (hs : ∀ (x : Int) (n : Nat) (ys : List β) (k : Option β → Prop) (H : Hp), n < 100000 → SI n ys H → body x k → ∀ Nx : Hp → Prop, (∀ y H', k (some y) → SI (n + 1) (ys ++ [y]) H' → Nx H') → (∀ H', k none → SI (n + 1) ys H' → Nx H') → Turn g tt te vl σ L (.int x) H Nx)
    (hd : ∀ n ys H, KM ys → SI n ys H → Qd H) :
    ∃ W : Nat → Nat → Hp → Prop, (∃ m, W 0 m (upd H1 L (.lst []))) ∧ ∀ i m H, W i m H →
      ((Itr lo N).stop i H ∧ Qd H) ∨ ((Itr lo N).go i H ∧ ∃ Nx : Hp → Prop, (∀ H', Nx H' → ∃ m', m' < m ∧ W (i + 1) m' H') ∧ ∀ x H', (Itr lo N).yld i H x H' → g x (wipe σ vl) H' fun σ2 H2 => wipe σ2 vl = wipe σ vl ∧ tt σ2 H2 fun b H3 =>
        if b = true then te σ2 H3 fun y H4 => ∃ acc, H4 L = some (.lst acc) ∧ acc.length < sizeLine ∧ Nx (upd H4 L (.lst (acc ++ [y]))) else Nx H3) := by
  obtain ⟨hn, hM⟩ := hM
  subst hN
  rw [rangeI_len] at hn
  refine ⟨fun i m H => m = (hi - lo).toNat - i ∧ i ≤ (hi - lo).toNat ∧ ∃ ys, SI i ys H ∧ filC body ((rangeI lo hi).drop i) ys KM, ⟨_, rfl, Nat.zero_le _, [], h0, hM⟩, ?_⟩
  rintro i m H ⟨rfl, hi', ys, T, q⟩
  by_cases hlt : i < (hi - lo).toNat
  · refine .inr ⟨hlt, fun H' => i + 1 ≤ (hi - lo).toNat ∧ ∃ ys, SI (i + 1) ys H' ∧ filC body ((rangeI lo hi).drop (i + 1)) ys KM, fun H' p' => ⟨_, by omega, rfl, p'⟩, fun x H' y => ?_⟩
    obtain ⟨e, y⟩ := y
    subst e y
    rw [drop_cons' (rangeI_get hlt)] at q
    exact hs _ i ys _ H' (by omega) T q _ (fun y H' k T' => ⟨hlt, _, T', k⟩) fun H' k T' => ⟨hlt, _, T', k⟩
  · have e : i = (hi - lo).toNat := by omega
    refine .inl ⟨by rw [e]; exact Nat.le_refl _, ?_⟩
    rw [List.drop_of_length_le (by rw [rangeI_len]; omega)] at q
    exact hd _ ys H q T
theorem lc_strG {z : Str} {body : Str → (β → Prop) → Prop} {KM : List β → Prop} (SI : Nat → List β → Hp → Prop) (hM : (signs z).length < 100000 ∧ mapC body (signs z) [] KM) (h0 : SI 0 [] (upd H1 L (.lst [])))
    (hs : ∀ (x : Str) (n : Nat) (ys : List β) (k : β → Prop) (H : Hp), n < 100000 → SI n ys H → body x k → ∀ Nx : Hp → Prop, (∀ y H', k y → SI (n + 1) (ys ++ [y]) H' → Nx H') → Turn g tt te vl σ L (.str x) H Nx)
    (hd : ∀ n ys H, KM ys → SI n ys H → Qd H) :
    ∃ W : Nat → Nat → Hp → Prop, (∃ m, W 0 m (upd H1 L (.lst []))) ∧ ∀ i m H, W i m H →
      ((Its z).stop i H ∧ Qd H) ∨ ((Its z).go i H ∧ ∃ Nx : Hp → Prop, (∀ H', Nx H' → ∃ m', m' < m ∧ W (i + 1) m' H') ∧ ∀ x H', (Its z).yld i H x H' → g x (wipe σ vl) H' fun σ2 H2 => wipe σ2 vl = wipe σ vl ∧ tt σ2 H2 fun b H3 =>
        if b = true then te σ2 H3 fun y H4 => ∃ acc, H4 L = some (.lst acc) ∧ acc.length < sizeLine ∧ Nx (upd H4 L (.lst (acc ++ [y]))) else Nx H3) := by
  obtain ⟨hn, hM⟩ := hM
  rw [signs_len] at hn
  refine ⟨fun i m H => m = z.cps.size - i ∧ i ≤ z.cps.size ∧ ∃ ys, SI i ys H ∧ mapC body ((signs z).drop i) ys KM, ⟨_, rfl, Nat.zero_le _, [], h0, hM⟩, ?_⟩
  rintro i m H ⟨rfl, hi', ys, T, q⟩
  by_cases hlt : i < z.cps.size
  · refine .inr ⟨hlt, fun H' => i + 1 ≤ z.cps.size ∧ ∃ ys, SI (i + 1) ys H' ∧ mapC body ((signs z).drop (i + 1)) ys KM, fun H' p' => ⟨_, by omega, rfl, p'⟩, fun x H' y => ?_⟩
    obtain ⟨e, c, hc, y⟩ := y
    subst e y
    rw [drop_cons' (signs_get hc)] at q
    exact hs _ i ys _ H' (by omega) T q _ fun y H' k T' => ⟨hlt, _, T', k⟩
  · have e : i = z.cps.size := by omega
    refine .inl ⟨by rw [e]; exact Nat.le_refl _, ?_⟩
    rw [List.drop_of_length_le (by rw [signs_len]; omega)] at q
    exact hd _ ys H q T
/-- over a list; the items stand outside what changes -/
theorem lc_listG {items : List α} {e : α → D} {ms : List Addr} {a : Addr} {xs : List V} {body : α → (β → Prop) → Prop} {KM : List β → Prop} (SI : Nat → List β → Hp → Prop) (an : a ∉ ms) (ha : H1 a = some (.lst xs)) (hx : repL ms H1 (items.map e) xs) (nl : H1 L = none)
    (kp : ∀ n ys H, SI n ys H → Keep (L :: ms) H1 H) (hM : items.length < 100000 ∧ mapC body items [] KM) (h0 : SI 0 [] (upd H1 L (.lst [])))
    (hs : ∀ (x : α) (u : V) (n : Nat) (ys : List β) (k : β → Prop) (H : Hp), n < 100000 → SI n ys H → rep (L :: ms) H (e x) u → body x k → ∀ Nx : Hp → Prop, (∀ y H', k y → SI (n + 1) (ys ++ [y]) H' → Nx H') → Turn g tt te vl σ L u H Nx)
    (hd : ∀ n ys H, KM ys → SI n ys H → Qd H) :
    ∃ W : Nat → Nat → Hp → Prop, (∃ m, W 0 m (upd H1 L (.lst []))) ∧ ∀ i m H, W i m H →
      ((Itl K a).stop i H ∧ Qd H) ∨ ((Itl K a).go i H ∧ ∃ Nx : Hp → Prop, (∀ H', Nx H' → ∃ m', m' < m ∧ W (i + 1) m' H') ∧ ∀ x H', (Itl K a).yld i H x H' → g x (wipe σ vl) H' fun σ2 H2 => wipe σ2 vl = wipe σ vl ∧ tt σ2 H2 fun b H3 =>
        if b = true then te σ2 H3 fun y H4 => ∃ acc, H4 L = some (.lst acc) ∧ acc.length < sizeLine ∧ Nx (upd H4 L (.lst (acc ++ [y]))) else Nx H3) := by
  obtain ⟨hn, hM⟩ := hM
  have hl : items.length = xs.length := by
    have := repL_len hx
    rwa [List.length_map] at this
  have aM : a ∉ L :: ms := fun z => by
    rcases List.mem_cons.mp z with z | z
    · exact ne_of_none ha nl z
    · exact an z
  have hx1 : repL (L :: ms) H1 (items.map e) xs := repL_new nl hx
  refine ⟨fun i m H => m = xs.length - i ∧ i ≤ xs.length ∧ ∃ ys, SI i ys H ∧ mapC body (items.drop i) ys KM, ⟨_, rfl, Nat.zero_le _, [], h0, hM⟩, ?_⟩
  rintro i m H ⟨rfl, hi', ys, T, q⟩
  have hA : H a = some (.lst xs) := kp i ys H T a _ aM ha
  by_cases hlt : i < xs.length
  · refine .inr ⟨⟨xs, xs[i], .inl (.inl hA), by simp [hlt]⟩, fun H' => i + 1 ≤ xs.length ∧ ∃ ys, SI (i + 1) ys H' ∧ mapC body (items.drop (i + 1)) ys KM, fun H' p' => ⟨_, by omega, rfl, p'⟩, fun x H' y => ?_⟩
    obtain ⟨e1, y⟩ := y
    subst e1
    have hxi := y xs (.inl (.inl hA))
    have hit : items[i]? = some (items[i]'(by omega)) := List.getElem?_eq_getElem (by omega)
    rw [drop_cons' hit] at q
    obtain ⟨v, hv, rv⟩ := repL_get (repL_keep (kp i ys H' T) hx1) (j := i) (d := e (items[i]'(by omega))) (by rw [List.getElem?_map, hit]; rfl)
    rw [hxi] at hv
    have ev : x = v := Option.some.inj hv
    subst ev
    exact hs _ x i ys _ H' (by omega) T rv q _ fun y H'' k T' => ⟨hlt, _, T', k⟩
  · refine .inl ⟨⟨xs, .inl (.inl hA), by omega⟩, ?_⟩
    rw [List.drop_of_length_le (by omega)] at q
    exact hd _ ys H q T
theorem lf_listG {items : List α} {e : α → D} {ms : List Addr} {a : Addr} {xs : List V} {body : α → (Option β → Prop) → Prop} {KM : List β → Prop} (SI : Nat → List β → Hp → Prop) (an : a ∉ ms) (ha : H1 a = some (.lst xs)) (hx : repL ms H1 (items.map e) xs) (nl : H1 L = none)
    (kp : ∀ n ys H, SI n ys H → Keep (L :: ms) H1 H) (hM : items.length < 100000 ∧ filC body items [] KM) (h0 : SI 0 [] (upd H1 L (.lst [])))
    (hs : ∀ (x : α) (u : V) (n : Nat) (ys : List β) (k : Option β → Prop) (H : Hp), n < 100000 → SI n ys H → rep (L :: ms) H (e x) u → body x k → ∀ Nx : Hp → Prop, (∀ y H', k (some y) → SI (n + 1) (ys ++ [y]) H' → Nx H') → (∀ H', k none → SI (n + 1) ys H' → Nx H') → Turn g tt te vl σ L u H Nx)
    (hd : ∀ n ys H, KM ys → SI n ys H → Qd H) :
    ∃ W : Nat → Nat → Hp → Prop, (∃ m, W 0 m (upd H1 L (.lst []))) ∧ ∀ i m H, W i m H →
      ((Itl K a).stop i H ∧ Qd H) ∨ ((Itl K a).go i H ∧ ∃ Nx : Hp → Prop, (∀ H', Nx H' → ∃ m', m' < m ∧ W (i + 1) m' H') ∧ ∀ x H', (Itl K a).yld i H x H' → g x (wipe σ vl) H' fun σ2 H2 => wipe σ2 vl = wipe σ vl ∧ tt σ2 H2 fun b H3 =>
        if b = true then te σ2 H3 fun y H4 => ∃ acc, H4 L = some (.lst acc) ∧ acc.length < sizeLine ∧ Nx (upd H4 L (.lst (acc ++ [y]))) else Nx H3) := by
  obtain ⟨hn, hM⟩ := hM
  have hl : items.length = xs.length := by
    have := repL_len hx
    rwa [List.length_map] at this
  have aM : a ∉ L :: ms := fun z => by
    rcases List.mem_cons.mp z with z | z
    · exact ne_of_none ha nl z
    · exact an z
  have hx1 : repL (L :: ms) H1 (items.map e) xs := repL_new nl hx
  refine ⟨fun i m H => m = xs.length - i ∧ i ≤ xs.length ∧ ∃ ys, SI i ys H ∧ filC body (items.drop i) ys KM, ⟨_, rfl, Nat.zero_le _, [], h0, hM⟩, ?_⟩
  rintro i m H ⟨rfl, hi', ys, T, q⟩
  have hA : H a = some (.lst xs) := kp i ys H T a _ aM ha
  by_cases hlt : i < xs.length
  · refine .inr ⟨⟨xs, xs[i], .inl (.inl hA), by simp [hlt]⟩, fun H' => i + 1 ≤ xs.length ∧ ∃ ys, SI (i + 1) ys H' ∧ filC body (items.drop (i + 1)) ys KM, fun H' p' => ⟨_, by omega, rfl, p'⟩, fun x H' y => ?_⟩
    obtain ⟨e1, y⟩ := y
    subst e1
    have hxi := y xs (.inl (.inl hA))
    have hit : items[i]? = some (items[i]'(by omega)) := List.getElem?_eq_getElem (by omega)
    rw [drop_cons' hit] at q
    obtain ⟨v, hv, rv⟩ := repL_get (repL_keep (kp i ys H' T) hx1) (j := i) (d := e (items[i]'(by omega))) (by rw [List.getElem?_map, hit]; rfl)
    rw [hxi] at hv
    have ev : x = v := Option.some.inj hv
    subst ev
    exact hs _ x i ys _ H' (by omega) T rv q _ (fun y H'' k T' => ⟨hlt, _, T', k⟩) fun H'' k T' => ⟨hlt, _, T', k⟩
  · refine .inl ⟨⟨xs, .inl (.inl hA), by omega⟩, ?_⟩
    rw [List.drop_of_length_le (by omega)] at q
    exact hd _ ys H q T
end
end Rx
namespace Rx
open PySem PySem.Spec PyProof.Rows L2
/-! a thing of one's own is let go -/
structure Drop (ms : List Addr) (L : Addr) (ms' : List Addr) : Prop where
  sub : ∀ a ∈ ms', a ∈ ms
  ex : ∀ a ∈ ms, a ∈ ms' ∨ a = L
theorem dr_here {L : Addr} {ms : List Addr} : Drop (L :: ms) L ms := ⟨fun _ h => List.mem_cons_of_mem _ h, fun a h => (List.mem_cons.mp h).elim .inr .inl⟩
theorem dr_cons {L x : Addr} {ms ms' : List Addr} (d : Drop ms L ms') : Drop (x :: ms) L (x :: ms') :=
  ⟨fun a h => (List.mem_cons.mp h).elim (fun e => by rw [e]; exact List.mem_cons_self) fun h => List.mem_cons_of_mem _ (d.sub a h), fun a h => (List.mem_cons.mp h).elim (fun e => .inl (by rw [e]; exact List.mem_cons_self)) fun h => (d.ex a h).imp (List.mem_cons_of_mem _) id⟩
theorem nm_cons {L x : Addr} {ms : List Addr} (ne : L ≠ x) (n : L ∉ ms) : L ∉ x :: ms := fun z => (List.mem_cons.mp z).elim ne n
section
variable {K : PySem.W.Frag} {ms ms' ps : List Addr} {H0 H H' H1 : Hp} {L L' : Addr} {d d' : D} {ds : List D} {u x : V} {vs : List V}
theorem nm_dr (dr : Drop ms L ms') (n : L' ∉ ms) : L' ∉ ms' := fun z => n (dr.sub _ z)
theorem keep_dr (dr : Drop ms L ms') (n : H1 L = none) (k : Keep ms H1 H) : Keep ms' H1 H := fun a o na e => k a o (fun z => by
  rcases dr.ex a z with z | z
  · exact na z
  · rw [z, n] at e
    cases e) e
theorem wd_dr (dr : Drop ms L ms') (hp : L ∉ ps) (w : Wd ms ps [] H0 H) : Wd ms' ps [] H0 H := wd_sub dr.sub (fun a h => (dr.ex a (w.pm a h)).elim id fun e => absurd (by rw [← e]; exact h) hp) w
theorem rep_dr (dr : Drop ms L ms') (h : rep ms H d u) : rep ms' H d u := rep_sub dr.sub h
theorem repL_dr (dr : Drop ms L ms') (h : repL ms H ds vs) : repL ms' H ds vs := repL_map (fun p o n hp => ⟨fun z => n (dr.sub p z), hp⟩) ds vs h
theorem mo_dr (dr : Drop ms L ms') (ne : L' ≠ L) (m : MutO ms ps H0 H L' d) : MutO ms' ps H0 H L' d := mo_sub dr.sub ((dr.ex _ m.im).elim id fun e => absurd e ne) m
theorem mo_rep_dr (dr : Drop ms L ms') (n : L ∉ ms') (m : MutO ms ps H0 H L d) : rep ms' H d (.ref L) := mo_rep n dr.sub m
mutual
def noM : D → Bool
  | .v _ => true
  | .lst _ => false
  | .tup ds => noMs ds
  | .ins _ _ ds => noMs ds
  | .dct _ _ => false
def noMs : List D → Bool
  | [] => true
  | d :: ds => noM d && noMs ds
end
def isMo : Option HO → Prop
  | some (.lst _) => True
  | some (.dK _) => True
  | _ => False
theorem MutO.isMo (m : MutO ms ps H0 H L d) : isMo (H L) := by
  have h := m.val
  cases d with
  | lst ds =>
    rw [h.choose_spec.1]
    trivial
  | dct ks ds =>
    rw [h.choose_spec.1]
    trivial
  | v _ => exact h.elim
  | tup _ => exact h.elim
  | ins _ _ _ => exact h.elim
mutual
theorem rep_liftO (dr : Drop ms L ms') (hL : Rx.isMo (H L)) : ∀ (d : D) (u : V), noM d = true → rep ms' H d u → rep ms H d u
  | .v x, u, _, h => by
    simp only [rep] at h ⊢
    exact h
  | .lst ds, u, n, h => by
    simp only [noM] at n
    cases n
  | .dct _ ds, u, n, h => by
    simp only [noM] at n
    cases n
  | .tup ds, u, n, h => by
    simp only [noM] at n
    simp only [rep] at h ⊢
    obtain ⟨p, us, e, np, hp, hl⟩ := h
    refine ⟨p, us, e, fun z => ?_, hp, repL_liftO dr hL ds us n hl⟩
    rcases dr.ex p z with z | z
    · exact np z
    · rw [← z, hp] at hL
      exact hL
  | .ins C ns ds, u, n, h => by
    simp only [noM] at n
    simp only [rep] at h ⊢
    obtain ⟨p, dx, us, e, np, hp, hn, hl⟩ := h
    refine ⟨p, dx, us, e, fun z => ?_, hp, hn, repL_liftO dr hL ds us n hl⟩
    rcases dr.ex p z with z | z
    · exact np z
    · rw [← z, hp] at hL
      exact hL
theorem repL_liftO (dr : Drop ms L ms') (hL : Rx.isMo (H L)) : ∀ (ds : List D) (us : List V), noMs ds = true → repL ms' H ds us → repL ms H ds us
  | [], us, _, h => by
    simp only [repL] at h ⊢
    exact h
  | d :: ds, us, n, h => by
    simp only [noMs, Bool.and_eq_true] at n
    simp only [repL] at h ⊢
    obtain ⟨u, ws, e, h1, h2⟩ := h
    exact ⟨u, ws, e, rep_liftO dr hL d u n.1 h1, repL_liftO dr hL ds ws n.2 h2⟩
end
theorem mo_ixN {α : Type} {e : α → D} {xs : List α} {i : Int} {y : α} {Q : VK} (m : MutO ms ps H0 H L (.lst (xs.map e))) (hi : atI xs i = some y) (k : ∀ v, rep ms H (e y) v → Q v H) : rIxL K (.ref L) (.int i) H Q := by
  obtain ⟨vs, hp, hr⟩ := m.val
  have hl := repL_len hr
  rw [List.length_map] at hl
  unfold atI at hi
  cases hx : ixN xs.length i with
  | none =>
    rw [hx] at hi
    cases hi
  | some j =>
    rw [hx] at hi
    have hi' : xs[j]? = some y := hi
    obtain ⟨v, hv, rv⟩ := repL_get (d := e y) hr (by rw [List.getElem?_map, hi']; rfl)
    refine ⟨L, vs, i, v, rfl, rfl, .inl (.inl hp), ?_, k v rv⟩
    unfold atI
    rw [← hl, hx]
    exact hv
theorem mo_len {α : Type} {e : α → D} {xs : List α} {P : Nat → Prop} (m : MutO ms ps H0 H L (.lst (xs.map e))) (k : P xs.length) : ∃ y n, [V.ref L] = [y] ∧ LenV K y H n ∧ P n := by
  obtain ⟨vs, hp, hr⟩ := m.val
  have hl := repL_len hr
  rw [List.length_map] at hl
  exact ⟨_, xs.length, rfl, .inl ⟨vs, .inl (.inl hp), hl⟩, k⟩
end
end Rx
namespace Rx
open PySem PySem.Spec PyProof.Rows L2
section
variable {K : PySem.W.Frag} {ms ms' ps : List Addr} {H0 H H' H1 : Hp} {L L' : Addr} {d d' : D} {ds : List D} {u x : V} {vs : List V}
theorem mo_extU {α : Type} {e : α → D} {ys : List α} {P : Addr → List V → List V → Prop} (m : MutO ms ps H0 H L (.lst ds)) (h : rep ms H (.lst (ys.map e)) x) (hl : ds.length + ys.length ≤ 16777216) (k : ∀ vs us, repL ms H ds vs → repL ms H (ys.map e) us → P L vs us) :
    ∃ (l b : Addr) (xs zs : List V), V.ref L = .ref l ∧ [x] = [.ref b] ∧ H l = some (.lst xs) ∧ H b = some (.lst zs) ∧ xs.length + zs.length ≤ sizeLine ∧ P l xs zs := by
  obtain ⟨vs, h1, h2⟩ := m.val
  simp only [rep] at h
  obtain ⟨p, us, rfl, _, hp, hr⟩ := h
  have a := repL_len h2
  have b := repL_len hr
  rw [List.length_map] at b
  refine ⟨L, p, vs, us, rfl, rfl, h1, hp, ?_, k vs us h2 hr⟩
  rw [sizeLine_eq]
  omega
theorem repL_erase {α : Type} {e : α → D} : ∀ {xs : List α} {vs : List V} (k : Nat), repL ms H (xs.map e) vs → repL ms H ((xs.eraseIdx k).map e) (vs.eraseIdx k)
  | [], vs, k, h => by
    have ev : vs = [] := by
      simp only [List.map_nil, repL] at h
      exact h
    subst ev
    simpa using h
  | x :: xs, vs, 0, h => by
    simp only [List.map_cons, repL] at h
    obtain ⟨u, us, rfl, _, h2⟩ := h
    exact h2
  | x :: xs, vs, k + 1, h => by
    simp only [List.map_cons, repL] at h
    obtain ⟨u, us, rfl, h1, h2⟩ := h
    exact repL_cons h1 (repL_erase k h2)
theorem mo_popU {α : Type} {e : α → D} {xs : List α} {i : Int} {y : α} {P : Addr → List V → Nat → V → Prop} (m : MutO ms ps H0 H L (.lst (xs.map e))) (h0 : 0 ≤ i) (hi : xs[i.toNat]? = some y) (hb : i < 2 ^ 63) (k : ∀ vs v, repL ms H (xs.map e) vs → rep ms H (e y) v → P L vs i.toNat v) :
    ∃ (l : Addr) (xs : List V) (i' : Int) (k : Nat) (y : V), V.ref L = .ref l ∧ [V.int i] = [.int i'] ∧ H l = some (.lst xs) ∧ -(2 ^ 63) ≤ i' ∧ i' < 2 ^ 63 ∧ seqIndex? i' xs.length = some k ∧ xs[k]? = some y ∧ P l xs k y := by
  obtain ⟨vs, h1, h2⟩ := m.val
  have hl := repL_len h2
  rw [List.length_map] at hl
  obtain ⟨v, hv, rv⟩ := repL_get (d := e y) h2 (by rw [List.getElem?_map, hi]; rfl)
  have lt := (List.getElem?_eq_some_iff.mp hi).1
  refine ⟨L, vs, i, i.toNat, v, rfl, rfl, h1, by omega, hb, ?_, hv, k vs v h2 rv⟩
  unfold seqIndex?
  first
    | (simp only []; split <;> first | rfl | (exfalso; omega))
    | (rw [if_neg (by omega), if_pos (by omega)])
    | (simp; omega)
end
/-! a comprehension that changes things: its state is carried -/
def mapS {α β S : Type} (body : α → S → (β → S → Prop) → Prop) : List α → List β → S → (List β → S → Prop) → Prop
  | [], acc, s, k => k acc s
  | x :: xs, acc, s, k => body x s fun y s' => mapS body xs (acc ++ [y]) s' k
section
variable {α β S : Type} {K : PySem.W.Frag} {H1 H2 : Hp} {g : TG} {tt : TT} {te : TE} {vl : List Nat} {σ : L2.St} {Qd : Hp → Prop} {L : Addr}
theorem lc_rangeS {lo hi : Int} {N : Nat} {body : Int → S → (β → S → Prop) → Prop} {KM : List β → S → Prop} (SI : Nat → List β → S → Hp → Prop) (s0 : S) (hN : N = (hi - lo).toNat) (hM : (rangeI lo hi).length < 100000 ∧ mapS body (rangeI lo hi) [] s0 KM) (h0 : SI 0 [] s0 (upd H1 L (.lst [])))
    (hs : ∀ (x : Int) (n : Nat) (ys : List β) (s : S) (k : β → S → Prop) (H : Hp), n < 100000 → SI n ys s H → body x s k → ∀ Nx : Hp → Prop, (∀ y s' H', k y s' → SI (n + 1) (ys ++ [y]) s' H' → Nx H') → Turn g tt te vl σ L (.int x) H Nx)
    (hd : ∀ n ys s H, KM ys s → SI n ys s H → Qd H) :
    ∃ W : Nat → Nat → Hp → Prop, (∃ m, W 0 m (upd H1 L (.lst []))) ∧ ∀ i m H, W i m H →
      ((Itr lo N).stop i H ∧ Qd H) ∨ ((Itr lo N).go i H ∧ ∃ Nx : Hp → Prop, (∀ H', Nx H' → ∃ m', m' < m ∧ W (i + 1) m' H') ∧ ∀ x H', (Itr lo N).yld i H x H' → g x (wipe σ vl) H' fun σ2 H2 => wipe σ2 vl = wipe σ vl ∧ tt σ2 H2 fun b H3 =>
        if b = true then te σ2 H3 fun y H4 => ∃ acc, H4 L = some (.lst acc) ∧ acc.length < sizeLine ∧ Nx (upd H4 L (.lst (acc ++ [y]))) else Nx H3) := by
  obtain ⟨hn, hM⟩ := hM
  subst hN
  rw [rangeI_len] at hn
  refine ⟨fun i m H => m = (hi - lo).toNat - i ∧ i ≤ (hi - lo).toNat ∧ ∃ ys s, SI i ys s H ∧ mapS body ((rangeI lo hi).drop i) ys s KM, ⟨_, rfl, Nat.zero_le _, [], s0, h0, hM⟩, ?_⟩
  rintro i m H ⟨rfl, hi', ys, s, T, q⟩
  by_cases hlt : i < (hi - lo).toNat
  · refine .inr ⟨hlt, fun H' => i + 1 ≤ (hi - lo).toNat ∧ ∃ ys s, SI (i + 1) ys s H' ∧ mapS body ((rangeI lo hi).drop (i + 1)) ys s KM, fun H' p' => ⟨_, by omega, rfl, p'⟩, fun x H' y => ?_⟩
    obtain ⟨e, y⟩ := y
    subst e y
    rw [drop_cons' (rangeI_get hlt)] at q
    exact hs _ i ys s _ H' (by omega) T q _ fun y s' H' k T' => ⟨hlt, _, _, T', k⟩
  · have e : i = (hi - lo).toNat := by omega
    refine .inl ⟨by rw [e]; exact Nat.le_refl _, ?_⟩
    rw [List.drop_of_length_le (by rw [rangeI_len]; omega)] at q
    exact hd _ ys s H q T
end
end Rx
namespace Rx
open PySem PySem.Spec PyProof.Rows L2
section
variable {ms : List Addr} {H : Hp} {x y : V}
theorem rep_catU {α : Type} {xs ys : List α} {e : α → D} {P : List V → List V → Prop} (h1 : rep ms H (.lst (xs.map e)) x) (h2 : rep ms H (.lst (ys.map e)) y) (hz : xs.length + ys.length ≤ sizeLine)
    (k : ∀ vs us, repL ms H (xs.map e) vs → repL ms H (ys.map e) us → P vs us) : ∃ p q vs us, x = .ref p ∧ y = .ref q ∧ H p = some (.lst vs) ∧ H q = some (.lst us) ∧ vs.length + us.length ≤ sizeLine ∧ P vs us := by
  simp only [rep] at h1 h2
  obtain ⟨p, vs, rfl, np, hp, r1⟩ := h1
  obtain ⟨q, us, rfl, nq, hq, r2⟩ := h2
  have l1 := repL_len r1
  have l2 := repL_len r2
  rw [List.length_map] at l1 l2
  exact ⟨p, q, vs, us, rfl, rfl, hp, hq, by rw [← l1, ← l2]; exact hz, k vs us r1 r2⟩
end
end Rx
namespace Rx
open PySem PySem.Spec PyProof.Rows L2
section
variable {K : PySem.W.Frag} {ms : List Addr} {H : Hp} {x y : V} {ds : List D} {vs : List V}
/-- what a list holds -/
theorem rep_lsU {P : List V → Prop} (h : rep ms H (.lst ds) x) (k : ∀ vs, repL ms H ds vs → P vs) : ∃ a xs, x = .ref a ∧ SqL K H a xs ∧ P xs := by
  simp only [rep] at h
  obtain ⟨p, vs, rfl, np, hp, hr⟩ := h
  exact ⟨p, vs, rfl, .inl (.inl hp), k vs hr⟩
theorem rep_tpU {P : List V → Prop} (h : rep ms H (.tup ds) x) (k : ∀ vs, repL ms H ds vs → P vs) : ∃ a xs, x = .ref a ∧ SqT K H a xs ∧ P xs := by
  simp only [rep] at h
  obtain ⟨p, vs, rfl, np, hp, hr⟩ := h
  exact ⟨p, vs, rfl, .inl (.inl hp), k vs hr⟩
theorem rep_iterT {ds : List D} {P : Addr → Prop} (h : rep ms H (.tup ds) x) (k : ∀ a xs, x = .ref a → a ∉ ms → H a = some (.tup xs) → repL ms H ds xs → P a) : ∃ a, x = .ref a ∧ (∃ xs, SqT K H a xs) ∧ P a := by
  simp only [rep] at h
  obtain ⟨p, vs, e, n, hp, hr⟩ := h
  exact ⟨p, e, ⟨vs, .inl (.inl hp)⟩, k p vs e n hp hr⟩
theorem repL_rev : ∀ {ds : List D} {vs : List V}, repL ms H ds vs → repL ms H ds.reverse vs.reverse
  | [], vs, h => by
    have e := repL_empty h
    subst e
    exact repL_nil
  | d :: ds, vs, h => by
    obtain ⟨u, us, rfl, h1, h2⟩ := repL_uncons h
    rw [List.reverse_cons, List.reverse_cons]
    exact repL_app (repL_rev h2) (repL_one h1)
theorem repL_revM {α : Type} {e : α → D} {xs : List α} (h : repL ms H (xs.map e) vs) : repL ms H (xs.reverse.map e) vs.reverse := by
  rw [List.map_reverse]
  exact repL_rev h
theorem repL_take : ∀ (n : Nat) {ds : List D} {vs : List V}, repL ms H ds vs → repL ms H (ds.take n) (vs.take n)
  | 0, _, _, _ => by
    rw [List.take_zero, List.take_zero]
    exact repL_nil
  | n + 1, [], vs, h => by
    have e := repL_empty h
    subst e
    exact repL_nil
  | n + 1, d :: ds, vs, h => by
    obtain ⟨u, us, rfl, h1, h2⟩ := repL_uncons h
    exact repL_cons h1 (repL_take n h2)
theorem repL_drop : ∀ (n : Nat) {ds : List D} {vs : List V}, repL ms H ds vs → repL ms H (ds.drop n) (vs.drop n)
  | 0, _, _, h => h
  | n + 1, [], vs, h => by
    have e := repL_empty h
    subst e
    exact repL_nil
  | n + 1, d :: ds, vs, h => by
    obtain ⟨u, us, rfl, h1, h2⟩ := repL_uncons h
    exact repL_drop n h2
/-- a slice -/
def cutM {α : Type} (xs : List α) (lo hi : Option Int) : List α := (xs.drop (HT.sIx xs.length 0 lo)).take (HT.sIx xs.length xs.length hi - HT.sIx xs.length 0 lo)
theorem repL_cut {α : Type} {e : α → D} {xs : List α} {lo hi : Option Int} (h : repL ms H (xs.map e) vs) : repL ms H ((cutM xs lo hi).map e) (cutV vs lo hi) := by
  have hl := repL_len h
  rw [List.length_map] at hl
  unfold cutM cutV
  rw [List.map_take, List.map_drop, hl]
  exact repL_take _ (repL_drop _ h)
end
/-! walks over tuples -/
section
variable {α β S : Type} {K : PySem.W.Frag} {H1 : Hp} {g : TG} {tt : TT} {te : TE} {vl : List Nat} {σ : L2.St} {Qd : Hp → Prop} {L : Addr}
theorem lc_tupG {items : List α} {e : α → D} {ms : List Addr} {a : Addr} {xs : List V} {body : α → (β → Prop) → Prop} {KM : List β → Prop} (SI : Nat → List β → Hp → Prop) (an : a ∉ ms) (ha : H1 a = some (.tup xs)) (hx : repL ms H1 (items.map e) xs) (nl : H1 L = none)
    (kp : ∀ n ys H, SI n ys H → Keep (L :: ms) H1 H) (hM : items.length < 100000 ∧ mapC body items [] KM) (h0 : SI 0 [] (upd H1 L (.lst [])))
    (hs : ∀ (x : α) (u : V) (n : Nat) (ys : List β) (k : β → Prop) (H : Hp), n < 100000 → SI n ys H → rep (L :: ms) H (e x) u → body x k → ∀ Nx : Hp → Prop, (∀ y H', k y → SI (n + 1) (ys ++ [y]) H' → Nx H') → Turn g tt te vl σ L u H Nx)
    (hd : ∀ n ys H, KM ys → SI n ys H → Qd H) :
    ∃ W : Nat → Nat → Hp → Prop, (∃ m, W 0 m (upd H1 L (.lst []))) ∧ ∀ i m H, W i m H →
      ((Itt K a).stop i H ∧ Qd H) ∨ ((Itt K a).go i H ∧ ∃ Nx : Hp → Prop, (∀ H', Nx H' → ∃ m', m' < m ∧ W (i + 1) m' H') ∧ ∀ x H', (Itt K a).yld i H x H' → g x (wipe σ vl) H' fun σ2 H2 => wipe σ2 vl = wipe σ vl ∧ tt σ2 H2 fun b H3 =>
        if b = true then te σ2 H3 fun y H4 => ∃ acc, H4 L = some (.lst acc) ∧ acc.length < sizeLine ∧ Nx (upd H4 L (.lst (acc ++ [y]))) else Nx H3) := by
  obtain ⟨hn, hM⟩ := hM
  have hl : items.length = xs.length := by
    have := repL_len hx
    rwa [List.length_map] at this
  have aM : a ∉ L :: ms := fun z => by
    rcases List.mem_cons.mp z with z | z
    · exact ne_of_none ha nl z
    · exact an z
  have hx1 : repL (L :: ms) H1 (items.map e) xs := repL_new nl hx
  refine ⟨fun i m H => m = xs.length - i ∧ i ≤ xs.length ∧ ∃ ys, SI i ys H ∧ mapC body (items.drop i) ys KM, ⟨_, rfl, Nat.zero_le _, [], h0, hM⟩, ?_⟩
  rintro i m H ⟨rfl, hi', ys, T, q⟩
  have hA : H a = some (.tup xs) := kp i ys H T a _ aM ha
  by_cases hlt : i < xs.length
  · refine .inr ⟨⟨xs, xs[i], .inl (.inl hA), by simp [hlt]⟩, fun H' => i + 1 ≤ xs.length ∧ ∃ ys, SI (i + 1) ys H' ∧ mapC body (items.drop (i + 1)) ys KM, fun H' p' => ⟨_, by omega, rfl, p'⟩, fun x H' y => ?_⟩
    obtain ⟨e1, y⟩ := y
    subst e1
    have hxi := y xs (.inl (.inl hA))
    have hit : items[i]? = some (items[i]'(by omega)) := List.getElem?_eq_getElem (by omega)
    rw [drop_cons' hit] at q
    obtain ⟨v, hv, rv⟩ := repL_get (repL_keep (kp i ys H' T) hx1) (j := i) (d := e (items[i]'(by omega))) (by rw [List.getElem?_map, hit]; rfl)
    rw [hxi] at hv
    have ev : x = v := Option.some.inj hv
    subst ev
    exact hs _ x i ys _ H' (by omega) T rv q _ fun y H'' k T' => ⟨hlt, _, T', k⟩
  · refine .inl ⟨⟨xs, .inl (.inl hA), by omega⟩, ?_⟩
    rw [List.drop_of_length_le (by omega)] at q
    exact hd _ ys H q T
end
end Rx
namespace Rx
open PySem PySem.Spec PyProof.Rows L2
/-! the same rules, their readings without the context -/
section
variable {X : Cx} {K : PySem.W.Frag}
theorem call_lenK (hK : X.K = K) : CallR X (.builtin "len") (fun xs H Q => ∃ x n, xs = [x] ∧ LenV K x H n ∧ Q (.int n) H) := by
  subst hK
  exact call_len
theorem call_isiK (hK : X.K = K) : CallR X (.builtin "isinstance") (rIsi K) := by
  subst hK
  exact call_isi
theorem sl_listK (hK : X.K = K) : SlR X (rSlL K) := by
  subst hK
  exact sl_list
theorem call_list_ofK (hK : X.K = K) : CallR X (.type "list") (fun xs H Q => ∃ p ys, xs = [.ref p] ∧ (SqL K H p ys ∨ SqT K H p ys) ∧ ∀ l, H l = none → Q (.ref l) (upd H l (.lst ys))) := by
  subst hK
  exact call_list_of
theorem cr_maxK (hK : X.K = K) (hc : X.calm = true) : CallR X (.builtin "max") (rMax K) := by
  subst hK
  exact cr_max hc
theorem cr_minK (hK : X.K = K) (hc : X.calm = true) : CallR X (.builtin "min") (rMin K) := by
  subst hK
  exact cr_min hc
theorem cr_anyK (hK : X.K = K) (hc : X.calm = true) : CallR X (.builtin "any") (rAny K) := by
  subst hK
  exact cr_any hc
theorem cr_allK (hK : X.K = K) (hc : X.calm = true) : CallR X (.builtin "all") (rAll K) := by
  subst hK
  exact cr_all hc
theorem op_eqDK (hK : X.K = K) (hu : X.A.units + 64 < cLine) : OpR X (compareOp .Eq) (rEqD K) := by
  subst hK
  exact op_eqD hu
theorem op_neDK (hK : X.K = K) (hu : X.A.units + 64 < cLine) : OpR X (compareOp .NotEq) (rNeD K) := by
  subst hK
  exact op_neD hu
theorem call_reprAK {k : Nat} (hK : X.K = K) (gu : X.A.guards = some []) (hr : Room k X.A) : CallR X (.builtin "repr") (rReprA K) := by
  subst hK
  exact call_reprA gu hr
theorem mt_lcountSK (hK : X.K = K) : MtR X "list.count" (rCntS K) := by
  subst hK
  exact mt_lcountS
end
end Rx
namespace Rx
open PySem PySem.Spec PyProof.Rows L2
section
variable {X : Cx} {K : PySem.W.Frag} {T name id : String} {o e : Expr} {es : List Expr} {r : V → List V → Hp → VK → Prop} {to : TE} {t : TA} {apos cpos : Pos}
theorem pe_bmK (hK : X.K = K) (pa : PlainAttrs T) (slot : Slot T name id) (hty : typeOf (.builtin id) = pure (.type "method_descriptor")) (hm : MtR X id r) (ho : PE X o to) (ha : PA X (e :: es) t)
    (hbase : attributeBase o name X.env (eval o X.env) = eval o X.env := by rfl)
    (hfew : ((backTo cpos (starEach (e :: es) X.env)).all (fun x => !x.1) && (backToKw cpos (keywordEach [] X.env)).all (fun x => x.1.isSome)
      && decide ((e :: es).length + ([] : List Keyword).length + (if ([] : List Keyword).isEmpty then 0 else 1) < 30)) = true := by rfl)
    (hline : (apos.endLine == cpos.line) = true := by rfl) (hs : starEach (e :: es) X.env = (false, eval e X.env) :: starEach es X.env := by rfl) (hplain : (backTo cpos (starEach es X.env)).any (·.1) = false := by rfl) :
    PE X (.Call (.Attribute o name apos) (e :: es) [] cpos) (tBM K T r to t) := by
  subst hK
  exact pe_bm pa slot hty hm ho ha hbase hfew hline hs hplain
end
end Rx
namespace Rx
open PySem PySem.Spec PyProof.Rows L2
section
variable {M : Model} {s : Shared} {K : PySem.W.Frag} {C : Addr}
theorem looksT {v : Value} {T : String} (h : s.TypeIs v T) : PySem.W.Looks M s.heap (typeOf v) (.type T) := fun A Q E s' k q => wpAny_typeOf (by
  cases v with
  | ref a =>
    obtain ⟨o, e, c⟩ := h
    exact ⟨o, k _ _ e, c⟩
  | _ => exact h) q
theorem sub_non : PySem.W.subIn K (.type "NoneType") (.ref C) = some false := by
  show ((fastBuiltinMro "NoneType").map _) = _
  rw [show fastBuiltinMro "NoneType" = some [.type "NoneType", .type "object"] by decide +kernel]
  simp
theorem sub_bool : PySem.W.subIn K (.type "bool") (.ref C) = some false := by
  show ((fastBuiltinMro "bool").map _) = _
  rw [show fastBuiltinMro "bool" = some [.type "bool", .type "int", .type "object"] by decide +kernel]
  simp
theorem sub_int : PySem.W.subIn K (.type "int") (.ref C) = some false := by
  show ((fastBuiltinMro "int").map _) = _
  rw [show fastBuiltinMro "int" = some [.type "int", .type "object"] by decide +kernel]
  simp
theorem sub_str : PySem.W.subIn K (.type "str") (.ref C) = some false := by
  show ((fastBuiltinMro "str").map _) = _
  rw [show fastBuiltinMro "str" = some [.type "str", .type "object"] by decide +kernel]
  simp
theorem sub_list : PySem.W.subIn K (.type "list") (.ref C) = some false := by
  show ((fastBuiltinMro "list").map _) = _
  rw [show fastBuiltinMro "list" = some [.type "list", .type "object"] by decide +kernel]
  simp
theorem sub_tuple : PySem.W.subIn K (.type "tuple") (.ref C) = some false := by
  show ((fastBuiltinMro "tuple").map _) = _
  rw [show fastBuiltinMro "tuple" = some [.type "tuple", .type "object"] by decide +kernel]
  simp
theorem sub_dict : PySem.W.subIn K (.type "dict") (.ref C) = some false := by
  show ((fastBuiltinMro "dict").map _) = _
  rw [show fastBuiltinMro "dict" = some [.type "dict", .type "object"] by decide +kernel]
  simp
theorem sub_ty {H : Hp} {x : V} {T : String} (t : TyB K H x T) (nb : ∀ b, x ≠ .byt b) : PySem.W.subIn K (.type T) (.ref C) = some false := by
  cases t with
  | non => exact sub_non
  | bl b => exact sub_bool
  | int i => exact sub_int
  | str z => exact sub_str
  | byt b => exact absurd rfl (nb b)
  | lst h => exact sub_list
  | tup h => exact sub_tuple
  | dK h => exact sub_dict
end
section
variable {M : Model} {prog : Program} {w : World} {A : Around} {E : Value → Shared → Prop} {s : Shared} {K : PySem.W.Frag} {x C : Addr} {uy : Value} {ox : Obj} {od : Option Obj}
theorem entry_objNeA {Q : Fin → Shared → Prop} (hu : A.units < cLine) (hcall : wpAny M A (callSpecialIfBound? (.ref x) (Str.ofString "__eq__") [uy]) (fun r s' => ∃ b, r = some (.bool b) ∧ Q (.done (.ret (.bool (!b)))) s') E s) :
    wpAny M A (Builtin.«object.__ne__» ⟨[.ref x, uy], []⟩) Q E s := by
  unfold Builtin.«object.__ne__»
  repeat (first
    | with_reducible refine wpAny_cRoomFor hu ?_
    | (refine wpAny_bind (m := callSpecialIfBound? (.ref x) (Str.ofString "__eq__") [uy])
        (wpAny_mono hcall (fun r s' hr => by
          obtain ⟨b, rfl, hq⟩ := hr
          repeat (first | exact hq | exact wpAny_pure hq | exact wpAny_truthy_bool hq | (refine wpAny_bind (m := truthy (.bool _)) (wpAny_truthy_bool ?_)) | wp_step)) fun _ _ e => e))
    | wp_step)
theorem call_objNeA {Q : Value → Shared → Prop} (X : K.In s.heap) (I : PySem.W.InstAt s.heap x ox C od) (hm : PySem.W.mroIn K C (.type "object") = some true) (hu : A.in1.units < cLine)
    (hcall : wpAny (model prog w) A.in1 (callSpecialIfBound? (.ref x) (Str.ofString "__eq__") [uy]) (fun r s' => ∃ b, r = some (.bool b) ∧ Q (.bool (!b)) s') E s) :
    wpAny (model prog w) A (call (.builtin "object.__ne__") [.ref x, uy]) Q E s := by
  refine wpAny_call (codeAny_call_builtin F.cmp_object.ne.plain F.cmpEntry_ne (PySem.W.check_slot F.cmpKind_ne F.cmpSplit_ne (I.type.andThen (PySem.W.looks_mroIn X hm)) (F.cmpArgs_ne _ _) (entry_objNeA hu (wpAny_mono hcall (fun r s' hr => ?_) fun _ _ e => e))))
  obtain ⟨b, rfl, hq⟩ := hr
  first | exact ⟨b, rfl, hq⟩ | exact ⟨b, rfl, wpAny_pure hq⟩
end
/-- not an instance -/
def noI : D → Bool
  | .v .non => true
  | .v (.bl _) => true
  | .v (.int _) => true
  | .v (.str _) => true
  | .v _ => false
  | .ins _ _ _ => false
  | _ => true
theorem rep_TyB {K : PySem.W.Frag} {ms : List Addr} {H : Hp} {d : D} {u : V} (h : rep ms H d u) (n : noI d = true) : ∃ T, TyB K H u T ∧ (∀ b, u ≠ .byt b) ∧ TyX K H u (.type T) := by
  cases d with
  | v x =>
    obtain rfl := of_v h
    cases u <;> simp only [noI] at n
    · exact ⟨_, .non, (fun _ z => nomatch z), .base .non⟩
    · exact ⟨_, .bl _, (fun _ z => nomatch z), .base (.bl _)⟩
    · exact ⟨_, .int _, (fun _ z => nomatch z), .base (.int _)⟩
    · exact ⟨_, .str _, (fun _ z => nomatch z), .base (.str _)⟩
    all_goals cases n
  | lst ds =>
    simp only [rep] at h
    obtain ⟨p, vs, rfl, _, hp, _⟩ := h
    exact ⟨_, .lst (.inl (.inl hp)), (fun _ z => nomatch z), .base (.lst hp)⟩
  | tup ds =>
    simp only [rep] at h
    obtain ⟨p, vs, rfl, _, hp, _⟩ := h
    exact ⟨_, .tup (.inl (.inl hp)), (fun _ z => nomatch z), .base (.tup hp)⟩
  | dct ks ds =>
    simp only [rep] at h
    obtain ⟨p, vs, rfl, _, hp, _⟩ := h
    exact ⟨_, .dK hp, (fun _ z => nomatch z), .base (.dK hp)⟩
  | ins _ _ _ => cases n
/-- own == with any value that is no instance -/
def rOwnEqA (K : PySem.W.Frag) (C : Addr) (sp : Sp) (E : XK) : R2 := fun x y H Q => ∃ a dx fs T, x = .ref a ∧ H a = some (.ins C dx fs) ∧ TyB K H y T ∧ (∀ b, y ≠ .byt b) ∧ sp [x, y] H (fun v H' => ∃ r : Bool, v = .bl r ∧ Q v H') E
def rOwnNeA (K : PySem.W.Frag) (C : Addr) (sp : Sp) (E : XK) : R2 := fun x y H Q => ∃ a dx fs T, x = .ref a ∧ H a = some (.ins C dx fs) ∧ TyB K H y T ∧ (∀ b, y ≠ .byt b) ∧ sp [x, y] H (fun v H' => ∃ r : Bool, v = .bl r ∧ Q (.bl (!r)) H') E
theorem op_eqOwnA {X : Cx} {K : PySem.W.Frag} (hK : X.K = K) {n : Nat} {CX : CXT} {C f : Addr} {fd : FuncData} {ps : List Str} {sp : Sp} {E : XK} (F : FnOk X.prog X.w X.K X.mg X.base CX n f fd ps sp) (hr : Room n X.A)
    (o : OwnEq X.K C f) (hb : Binds X.K fd ps []) (hx : Passes CX X E) : OpR X (compareOp .Eq) (rOwnEqA K C sp E) := by
  subst hK
  intro pins s σ H x y v u Q I rx ry d
  show wpAny (model X.prog X.w) X.A (richCompare .Eq v u) (EP X pins σ Q) X.xe s
  obtain ⟨a, dx, fs, T, rfl, ha, ty, nb, hsp⟩ := d
  cases rx
  obtain ⟨mA, J, _⟩ := ins_get I.hok ha
  obtain ⟨od, J, _⟩ := J.look
  obtain ⟨m, hF⟩ := I.fr
  refine PySem.W.cmp_K (op := .Eq) (tb := .type T) hr.units0 hF I.ok.mod.kin J (looksT (ty.is I ry)) (by simp [PySem.W.notFirst, sub_ty ty nb]) o.hs o.hf ?_
  have hl := F.len _ _ _ _ hsp
  have r2 : Vals [V.ref a, y] [Value.ref a, u] := .cons rfl (.cons ry .nil)
  refine wpAny_call (codeAny_mono (F.run X.A X.stack s H ⟨[.ref a, u], []⟩ [.ref a, u] [.ref a, y] _ E hr I.env0 (by
    have := hb s [.ref a, u] I.kIn (by simpa using hl)
    simpa using this) r2 hsp) fun r s' hq => ?_)
  cases r with
  | error e => exact hx pins σ H s e s' I hq
  | ok fl =>
    cases fl with
    | ret w =>
      obtain ⟨z, H', I', rz, ⟨r, ez, q⟩⟩ := I.after hq
      subst ez
      cases (show w = Value.bool r from rz)
      exact ⟨.bl r, H', I', rfl, q⟩
    | next => exact False.elim hq
    | brk => exact False.elim hq
    | cont => exact False.elim hq
theorem op_neOwnA {X : Cx} {K : PySem.W.Frag} (hK : X.K = K) {n : Nat} {CX : CXT} {C f : Addr} {fd : FuncData} {ps : List Str} {sp : Sp} {E : XK} (F : FnOk X.prog X.w X.K X.mg X.base CX n f fd ps sp) (hr : Room (n + 1) X.A)
    (o : OwnEq X.K C f) (o' : OwnNe X.K C) (hb : Binds X.K fd ps []) (hx : Passes CX X E) : OpR X (compareOp .NotEq) (rOwnNeA K C sp E) := by
  subst hK
  intro pins s σ H x y v u Q I rx ry d
  show wpAny (model X.prog X.w) X.A (richCompare .NotEq v u) (EP X pins σ Q) X.xe s
  obtain ⟨a, dx, fs, T, rfl, ha, ty, nb, hsp⟩ := d
  cases rx
  obtain ⟨mA, J, _⟩ := ins_get I.hok ha
  obtain ⟨od, J, _⟩ := J.look
  have J' := looksT (M := model X.prog X.w) (ty.is I ry)
  have hl := F.len _ _ _ _ hsp
  have r2 : Vals [V.ref a, y] [Value.ref a, u] := .cons rfl (.cons ry .nil)
  have one : wpAny (model X.prog X.w) X.A (tryCompare (.ref a) (cmpInfo .NotEq).2.1 u) (fun r s' => ∃ v, r = some v ∧ EP X pins σ Q v s') X.xe s := by
    unfold tryCompare
    refine wpAny_bind (ifBound_objNe I.kIn J o'.hne (call_objNeA I.kIn J o'.hm hr.in1.units0 (PySem.W.ifBound_K I.kIn J o.hs o.hf ?_)))
    refine wpAny_call (codeAny_mono (F.run X.A.in1 X.stack s H ⟨[.ref a, u], []⟩ [.ref a, u] [.ref a, y] _ E hr.in1 I.env0.in1 (by
      have := hb s [.ref a, u] I.kIn (by simpa using hl)
      simpa using this) r2 hsp) fun r s' hq => ?_)
    cases r with
    | error e => exact hx pins σ H s e s' I hq
    | ok fl =>
      cases fl with
      | ret w =>
        obtain ⟨z, H', I', rz, ⟨r, ez, q⟩⟩ := I.after hq
        subst ez
        cases (show w = Value.bool r from rz)
        exact ⟨r, rfl, wpAny_pure ⟨_, rfl, .bl (!r), H', I', rfl, q⟩⟩
      | next => exact False.elim hq
      | brk => exact False.elim hq
      | cont => exact False.elim hq
  unfold richCompare
  simp only [oneThing_ref]
  refine wpAny_holding (wpAny_bind (wpAny_cRoomFor hr.units0 ?_))
  refine wpAny_bind (J.type.here (wpAny_bind (J'.here ?_)))
  rw [show (Value.ref C != Value.type T) = true from by simp]
  refine wpAny_bind ((PySem.W.looks_subIn I.kIn (sub_ty ty nb)).here ?_)
  simp only [Bool.false_eq_true, if_false]
  refine wpAny_bind (wpAny_mono one (fun r s' z => ?_) fun _ _ e => e)
  obtain ⟨v, rfl, hq⟩ := z
  exact wpAny_pure hq
section
variable {K : PySem.W.Frag} {ms : List Addr} {H : Hp} {x y : V} {d : D}
theorem rep_eqOwnA {C : Addr} {ns : List Str} {ds : List D} {sp : Sp} {E : XK} {Q : VK} (h1 : rep ms H (.ins C ns ds) x) (h2 : rep ms H d y) (n : noI d = true) (k : sp [x, y] H (fun v H' => ∃ r : Bool, v = .bl r ∧ Q v H') E) : rOwnEqA K C sp E x y H Q := by
  obtain ⟨p, dx, fs, e, hp⟩ := rep_ins h1
  obtain ⟨T, ty, nb, _⟩ := rep_TyB (K := K) h2 n
  subst e
  exact ⟨p, dx, fs, T, rfl, hp, ty, nb, k⟩
theorem rep_neOwnA {C : Addr} {ns : List Str} {ds : List D} {sp : Sp} {E : XK} {Q : VK} (h1 : rep ms H (.ins C ns ds) x) (h2 : rep ms H d y) (n : noI d = true) (k : sp [x, y] H (fun v H' => ∃ r : Bool, v = .bl r ∧ Q (.bl (!r)) H') E) : rOwnNeA K C sp E x y H Q := by
  obtain ⟨p, dx, fs, e, hp⟩ := rep_ins h1
  obtain ⟨T, ty, nb, _⟩ := rep_TyB (K := K) h2 n
  subst e
  exact ⟨p, dx, fs, T, rfl, hp, ty, nb, k⟩
/-- a class of the text's own, for isinstance that says no -/
structure IsN (K : PySem.W.Frag) (C : Addr) : Prop where
  ic : PySem.W.isClsIn K C = true
  ty : PySem.W.typeIn K (.ref C) = some (.type "type")
theorem rep_isN2 {C : Addr} {P : Bool → Prop} (h : rep ms H d x) (n : noI d = true) (c : IsN K C) (k : P false) :
    ∃ (x' c : V) (t u : Value) (b : Bool), [x, .ref C] = [x', c] ∧ ClsV c u ∧ TyX K H x' t ∧ PySem.W.kitOne K t u = some b ∧ P b := by
  obtain ⟨T, ty, nb, tx⟩ := rep_TyB (K := K) h n
  refine ⟨x, _, .type T, .ref C, false, rfl, .own C, tx, ?_, k⟩
  · unfold PySem.W.kitOne
    rw [if_neg (by simp)]
    show (if ((PySem.W.clsIn K C).isSome && PySem.W.typeIn K (.ref C) == some (.type "type")) = true then PySem.W.subIn K (.type T) (.ref C) else none) = some false
    rw [sub_ty ty nb]
    have h1 := c.ic
    unfold PySem.W.isClsIn at h1
    rw [h1, c.ty]
    simp
end
end Rx
namespace Rx
open PySem PySem.Spec PyProof.Rows L2
theorem pe_never {X : Cx} {e : Expr} : PE X e (fun _ _ _ => False) := ⟨fun _ _ _ _ _ _ h => h.elim⟩
section
variable {ms ps : List Addr} {cs : List (Addr × List V)} {H0 H H' : Hp} {u : V}
theorem rep_dynL {α : Type} {e : α → D} {xs : List α} (h : rep ms H (.lst (xs.map e)) u) : rep ms H (.lst ((xs.map e).map fun y : D => y)) u := by
  rw [List.map_id']
  exact h
theorem rep_dct0 {p : Addr} (w : Wd ms ps cs H0 H) (np : H p = none) (hp : H' p = some (.dK [])) : rep ms H' (.dct [] []) (.ref p) := by
  simp only [rep]
  exact ⟨p, [], rfl, fun z => w.tr p z np, hp, rfl, repL_nil⟩
end
end Rx
namespace Rx
open PySem PySem.Spec PyProof.Rows L2
section
variable {κ : Type} [DecidableEq κ]
theorem any_zip {k : κ} : ∀ {ks : List κ} {vs : List V}, ks.length = vs.length → ((ks.zip vs).any fun kv => decide (kv.1 = k)) = decide (k ∈ ks)
  | [], [], _ => by simp
  | k0 :: ks, v :: vs, h => by
    have ih := any_zip (k := k) (ks := ks) (vs := vs) (by simpa using h)
    rw [List.zip_cons_cons, List.any_cons, ih]
    by_cases e : k0 = k
    · subst e
      simp
    · have e' : k ≠ k0 := fun z => e z.symm
      simp [e, e']
  | [], _ :: _, h => by simp at h
  | _ :: _, [], h => by simp at h
theorem putK_new {k : κ} {v : V} {ks : List κ} {vs : List V} (h : ks.length = vs.length) (n : k ∉ ks) : putK (ks.zip vs) k v = (ks ++ [k]).zip (vs ++ [v]) := by
  unfold putK
  rw [any_zip h, if_neg (by simpa using n), List.zip_append h]
  rfl
theorem putK_old {k : κ} {v : V} : ∀ {ks : List κ} {vs : List V} {j : Nat}, ks.length = vs.length → ks.Nodup → ks[j]? = some k → putK (ks.zip vs) k v = ks.zip (vs.set j v) := by
  intro ks vs j h nd hj
  have hk : k ∈ ks := List.mem_of_getElem? hj
  unfold putK
  rw [any_zip h, if_pos (by simpa using hk)]
  induction ks generalizing vs j with
  | nil => simp at hj
  | cons k0 ks ih =>
    cases vs with
    | nil => simp at h
    | cons v0 vs =>
      have nd' := List.nodup_cons.mp nd
      cases j with
      | zero =>
        have e : k0 = k := Option.some.inj hj
        subst e
        rw [List.zip_cons_cons, List.map_cons, if_pos rfl, List.set_cons_zero, List.zip_cons_cons]
        congr 1
        conv => rhs; rw [← List.map_id (ks.zip vs)]
        refine List.map_congr_left fun q hq => ?_
        rw [if_neg]
        · rfl
        · intro z
          exact nd'.1 (by rw [← z]; exact (List.of_mem_zip (show (q.1, q.2) ∈ ks.zip vs from hq)).1)
      | succ j =>
        have hj' : ks[j]? = some k := by simpa using hj
        have ne : ¬ k0 = k := fun z => nd'.1 (by rw [z]; exact List.mem_of_getElem? hj')
        rw [List.zip_cons_cons, List.map_cons, if_neg ne, List.set_cons_succ, List.zip_cons_cons]
        congr 1
        exact ih (by simpa using h) nd'.2 hj' (List.mem_of_getElem? hj')
theorem valV_zip {k : κ} : ∀ {ks : List κ} {vs : List V} {j : Nat}, ks.Nodup → ks[j]? = some k → ks.length = vs.length → valV (ks.zip vs) k = vs[j]?
  | [], _, _, _, hj, _ => by simp at hj
  | k0 :: ks, [], _, _, _, h => by simp at h
  | k0 :: ks, v :: vs, 0, _, hj, _ => by
    have e : k0 = k := Option.some.inj hj
    subst e
    simp [valV]
  | k0 :: ks, v :: vs, j + 1, nd, hj, h => by
    have nd' := List.nodup_cons.mp nd
    have hj' : ks[j]? = some k := by simpa using hj
    have ne : ¬ k0 = k := fun z => nd'.1 (by rw [z]; exact List.mem_of_getElem? hj')
    rw [List.zip_cons_cons, valV_neg (p := (k0, v)) ne, valV_zip nd'.2 hj' (by simpa using h)]
    rfl
end
theorem mergeK_nodup : ∀ {more : List (Key × V)} {acc : List (Key × V)}, ((acc ++ more).map (·.1)).Nodup → mergeK acc more = acc ++ more
  | [], acc, _ => by simp [mergeK]
  | q :: more, acc, h => by
    have n : q.1 ∉ acc.map (·.1) := by
      rw [List.map_append, List.nodup_append] at h
      exact fun z => h.2.2 q.1 z q.1 (by simp) rfl
    have e : putK acc q.1 q.2 = acc ++ [q] := by
      unfold putK
      rw [if_neg]
      intro z
      obtain ⟨w, hw, ew⟩ := List.any_eq_true.mp z
      exact n (List.mem_map.mpr ⟨w, hw, of_decide_eq_true ew⟩)
    show mergeK (putK acc q.1 q.2) more = _
    rw [e, mergeK_nodup (by rw [List.append_assoc]; exact h), List.append_assoc]
    rfl
section
variable {K : PySem.W.Frag} {ms ps : List Addr} {H0 H H' H1 : Hp} {L : Addr} {d : D} {ds : List D} {u x y : V} {vs : List V} {ks : List Key} {k : Key}
theorem map_fst_zip' : ∀ {ks : List Key} {vs : List V}, ks.length = vs.length → (ks.zip vs).map (·.1) = ks
  | [], [], _ => rfl
  | k :: ks, v :: vs, h => by
    rw [List.zip_cons_cons, List.map_cons, map_fst_zip' (by simpa using h)]
  | [], _ :: _, h => by simp at h
  | _ :: _, [], h => by simp at h
theorem merge_zip (h : ks.length = vs.length) (nd : ks.Nodup) : mergeK [] (ks.zip vs) = ks.zip vs := by
  rw [mergeK_nodup (by rw [List.nil_append, map_fst_zip' h]; exact nd), List.nil_append]
/-- what a dict of one's own holds, as it is made -/
theorem mo_nilD (w : Wd ms ps [] H0 H) (nl : H L = none) : MutO (L :: ms) ps H0 (upd H L (.dK [])) L (.dct [] []) :=
  mo_newD (ks := []) (vs := []) (ds := []) w nl rfl repL_nil
theorem mo_dK0 (m : MutO ms ps H0 H L (.dct [] [])) : H L = some (.dK []) := by
  obtain ⟨vs, h1, h2, _⟩ := m.val
  rw [h1]
  simp
theorem mo_setD (m : MutO ms ps H0 H L d) (hl : ks.length = vs.length) (r : repL ms H ds vs) : MutO ms ps H0 (upd H L (.dK (ks.zip vs))) L (.dct ks ds) :=
  ⟨m.im, m.hp, m.h0, vs, upd_same, hl, repL_put m.im r⟩
/-- d[k] = v, a new key -/
theorem mo_putU {v : V} {Q : Hp → Prop} (m : MutO ms ps H0 H L (.dct ks ds)) (n : k ∉ ks) (hk : ks.length < 16777216)
    (q : ∀ vs, ks.length = vs.length → repL ms H ds vs → Q (upd H L (.dK ((ks ++ [k]).zip (vs ++ [v]))))) : rSetD (.ref L) (kV k) v H Q := by
  obtain ⟨vs, h1, h2, h3⟩ := m.val
  refine ⟨L, _, rfl, DPut.k h1 ?_, ?_⟩
  · rw [List.length_zip, ← h2, sizeLine_eq, Nat.min_self]
    exact hk
  · rw [putK_new h2 n]
    exact q vs h2 h3
/-- d[k] = v, a key that is there -/
theorem mo_putO {v : V} {Q : Hp → Prop} (j : Nat) (m : MutO ms ps H0 H L (.dct ks ds)) (nd : ks.Nodup) (hj : ks[j]? = some k) (hk : ks.length < 16777216)
    (q : ∀ vs, ks.length = (vs.set j v).length → repL ms H ds vs → Q (upd H L (.dK (ks.zip (vs.set j v))))) : rSetD (.ref L) (kV k) v H Q := by
  obtain ⟨vs, h1, h2, h3⟩ := m.val
  refine ⟨L, _, rfl, DPut.k h1 ?_, ?_⟩
  · rw [List.length_zip, ← h2, sizeLine_eq, Nat.min_self]
    exact hk
  · rw [putK_old h2 nd hj]
    exact q vs (by rw [List.length_set]; exact h2) h3
theorem repL_setD {v : V} {e : D} : ∀ {ds : List D} {vs : List V} (j : Nat), repL ms H ds vs → rep ms H e v → repL ms H (ds.set j e) (vs.set j v)
  | [], vs, j, h, r => by
    have ev := repL_empty h
    subst ev
    simpa using h
  | d :: ds, vs, 0, h, r => by
    obtain ⟨u, us, rfl, h1, h2⟩ := repL_uncons h
    exact repL_cons r h2
  | d :: ds, vs, j + 1, h, r => by
    obtain ⟨u, us, rfl, h1, h2⟩ := repL_uncons h
    exact repL_cons h1 (repL_setD j h2 r)
theorem dgetL (h1 : H L = some (.dK (ks.zip vs))) (nd : ks.Nodup) (hl : ks.length = vs.length) {j : Nat} (hj : ks[j]? = some k) {v : V} (hv : vs[j]? = some v) : DGet H L (kV k) (some v) := by
  have := DGet.k (k := k) h1
  rw [valV_zip nd hj hl, hv] at this
  exact this
/-- d[k], k a written key -/
theorem rep_dget {Q : VK} (j : Nat) (h : rep ms H (.dct ks ds) x) (nd : ks.Nodup) (hj : ks[j]? = some k) (hd : ds[j]? = some d) (q : ∀ v, rep ms H d v → Q v H) :
    ∃ a v, x = .ref a ∧ DGet H a (kV k) (some v) ∧ Q v H := by
  simp only [rep] at h
  obtain ⟨p, vs, rfl, _, hp, hl, hr⟩ := h
  obtain ⟨v, hv, rv⟩ := repL_get hr hd
  exact ⟨p, v, rfl, dgetL hp nd hl hj hv, q v rv⟩
theorem mo_dget {Q : VK} (j : Nat) (m : MutO ms ps H0 H L (.dct ks ds)) (nd : ks.Nodup) (hj : ks[j]? = some k) (hd : ds[j]? = some d) (q : ∀ v, rep ms H d v → Q v H) :
    ∃ a v, V.ref L = .ref a ∧ DGet H a (kV k) (some v) ∧ Q v H := by
  obtain ⟨vs, hp, hl, hr⟩ := m.val
  obtain ⟨v, hv, rv⟩ := repL_get hr hd
  exact ⟨L, v, rfl, dgetL hp nd hl hj hv, q v rv⟩
/-- d[k], any key: what is found -/
def getM {α : Type} (ks : List Key) (xs : List α) (k : Key) : Option α := ((ks.zip xs).find? fun q => decide (q.1 = k)).map (·.2)
theorem getM_at {α : Type} {y : α} : ∀ {ks : List Key} {xs : List α}, getM ks xs k = some y → ∃ j : Nat, ks[j]? = some k ∧ xs[j]? = some y
  | [], _, h => by simp [getM] at h
  | _ :: _, [], h => by simp [getM] at h
  | k0 :: ks, x :: xs, h => by
    by_cases e : k0 = k
    · subst e
      simp [getM] at h
      exact ⟨0, rfl, by rw [h]; rfl⟩
    · have h' : getM ks xs k = some y := by
        unfold getM at h ⊢
        rw [List.zip_cons_cons, List.find?_cons_of_neg (by simpa using e)] at h
        exact h
      obtain ⟨j, h1, h2⟩ := getM_at h'
      exact ⟨j + 1, by simpa using h1, by simpa using h2⟩
theorem rep_dgetM {α : Type} {e : α → D} {xs : List α} {y : α} {Q : VK} (h : rep ms H (.dct ks (xs.map e)) x) (nd : ks.Nodup) (hy : getM ks xs k = some y) (q : ∀ v, rep ms H (e y) v → Q v H) :
    ∃ a v, x = .ref a ∧ DGet H a (kV k) (some v) ∧ Q v H := by
  obtain ⟨j, h1, h2⟩ := getM_at hy
  exact rep_dget j h nd h1 (by rw [List.getElem?_map, h2]; rfl) q
/-- dict(list(d.items())) -/
theorem rep_items {Q : VK} (w : Wd ms ps [] H0 H) (h : rep ms H (.dct ks ds) x)
    (q : ∀ (H' : Hp) (p : Addr), Ret [] H H' → (∀ (r : List V → Hp → Prop), (∀ vs, ks.length = vs.length → repL ms H' ds vs → (∃ ps, SqL K H' p (ps.map V.ref) ∧ Paired (fun p kv => SqT K H' p [kV kv.1, kv.2]) ps (ks.zip vs)) → r vs H') → ∃ vs, ks.length = vs.length ∧ repL ms H' ds vs ∧ r vs H') → Q (.ref p) H') :
    ∃ (d : Addr) (kvs : List (Key × V)), x = .ref d ∧ H d = some (.dK kvs) ∧ ∀ (H' : Hp) (p : Addr) (ts : List Addr), (∀ b o, H b = some o → H' b = some o) → H p = none → (∀ t ∈ ts, H t = none) → p ∉ ts → H' p = some (.lst (ts.map V.ref)) → Paired (fun (t : Addr) (q : Key × V) => H' t = some (.tup [kV q.1, q.2])) ts kvs → Q (.ref p) H' := by
  simp only [rep] at h
  obtain ⟨d, vs, rfl, _, hp, hl, hr⟩ := h
  refine ⟨d, _, rfl, hp, fun H' p ts keep np nts pt hl' hpd => ?_⟩
  have e : Ret [] H H' := ⟨fun a o _ z => keep a o z, fun _ z => absurd z List.not_mem_nil, fun a z => by
    cases c : H a with
    | none => exact absurd c z
    | some o => rw [keep a o c]; exact fun z => nomatch z⟩
  refine q H' p e fun r hr' => ⟨vs, hl, repL_ext e hr, hr' vs hl (repL_ext e hr) ⟨ts, .inl (.inl hl'), ?_⟩⟩
  clear hr' hl' q hp
  generalize ks.zip vs = kvs at hpd
  induction hpd with
  | nil => exact .nil
  | cons a _ ih => exact .cons (.inl (.inl a)) (ih (fun t z => nts t (List.mem_cons_of_mem _ z)) fun z => pt (List.mem_cons_of_mem _ z))
end
end Rx
namespace Rx
open PySem PySem.Spec PyProof.Rows L2
section
variable {X : Cx} {K : PySem.W.Frag}
theorem call_dictPK (hK : X.K = K) (hcalm : X.calm = true) : CallR X (.type "dict") (fun xs H Q => ∃ (a : Addr) (ps : List Addr) (kvs : List (Key × V)), xs = [.ref a] ∧ SqL K H a (ps.map V.ref) ∧ Paired (fun p kv => SqT K H p [kV kv.1, kv.2]) ps kvs ∧
    ∀ p, H p = none → Q (.ref p) (upd H p (.dK (mergeK [] kvs)))) := by
  subst hK
  exact call_dictP hcalm
end
end Rx
namespace Rx
theorem nin_of {α : Type} {ks : List α} {k : α} (h : (ks ++ [k]).Nodup) : k ∉ ks := fun z => by
  rw [List.nodup_append] at h
  exact h.2.2 k z k (by simp) rfl
end Rx
namespace Rx
open PySem PySem.Spec PyProof.Rows L2
/-! a new instance, while its __init__ runs -/
section
variable {ms ps : List Addr} {H0 H H' He : Hp} {p L C dx : Addr} {d : D} {u : V} {fs : List (Str × V)} {o : HO}
structure KpI (p : Addr) (He H : Hp) : Prop where
  kp : ∀ a o, a ≠ p → He a = some o → H a = some o
  gr : ∀ a, He a ≠ none → H a ≠ none
theorem ki_refl : KpI p H H := ⟨fun _ _ _ h => h, fun _ h => h⟩
theorem ki_wd (k : KpI p He H0) (w : Wd ms [] [] H0 H) : KpI p He H := ⟨fun a o n h => w.kp a o (by simp) (k.kp a o n h), fun a h => w.grow a (k.gr a h)⟩
theorem ki_put (k : KpI p He H0) (w : Wd ms [] [] H0 H) : KpI p He (upd H p o) := ⟨fun a o' n h => by
  rw [upd_ne n]
  exact (ki_wd k w).kp a o' n h, fun a h => by
  by_cases e : a = p
  · rw [e, upd_same]
    exact fun z => nomatch z
  · rw [upd_ne e]
    exact (ki_wd k w).gr a h⟩
theorem wd_at (w : Wd ms [] [] H0 H) : Wd ms [] [] (upd H p o) (upd H p o) := ⟨fun _ _ _ h => h, fun _ h => h, fun m h => by
  by_cases e : m = p
  · rw [e, upd_same]
    exact fun z => nomatch z
  · rw [upd_ne e]
    exact w.tr m h, fun _ h => absurd h List.not_mem_nil, fun _ h => absurd h List.not_mem_nil, fun _ h => absurd h List.not_mem_nil⟩
theorem at_put (hp : H p = some (.ins C dx fs)) (m : MutO ms ps H0 H L d) : upd H L o p = some (.ins C dx fs) := by
  rw [upd_ne (fun z => ?_)]
  · exact hp
  · have h := m.isMo
    rw [← z, hp] at h
    exact h
theorem putF_zip {f : Str} {v : V} : ∀ {ns : List Str} {us : List V}, ns.length = us.length → f ∉ ns → putF f v (ns.zip us) = (ns ++ [f]).zip (us ++ [v])
  | [], [], _, _ => by simp [putF]
  | [], _ :: _, h, _ => by simp at h
  | _ :: _, [], h, _ => by simp at h
  | n :: ns, u :: us, h, nn => by
    have e : ¬ n = f := fun z => nn (by rw [z]; exact List.mem_cons_self)
    have ih := putF_zip (f := f) (v := v) (ns := ns) (us := us) (by simpa using h) fun z => nn (List.mem_cons_of_mem _ z)
    simp only [List.zip_cons_cons, List.cons_append]
    unfold putF
    rw [if_neg e, ih]
theorem mem_new (nl : H p = none) (h : rep ms H d u) (ndx : H dx = none) {o1 o2 : HO} : rep (p :: ms) (upd (upd H dx o1) p o2) d u :=
  rep_map (fun a o n hp => ⟨fun z => by
    rcases List.mem_cons.mp z with z | z
    · exact ne_of_none hp nl z
    · exact n z, by rw [upd_ne (ne_of_none hp nl), upd_ne (ne_of_none hp ndx)]; exact hp⟩) d u h
theorem wd_new (w : Wd ms ps cs H0 H) (nl : H p = none) (ndx : H dx = none) {o1 o2 : HO} : Wd (p :: ms) [] [] (upd (upd H dx o1) p o2) (upd (upd H dx o1) p o2) := ⟨fun _ _ _ h => h, fun _ h => h, fun m h => by
  by_cases e : m = p
  · rw [e, upd_same]
    exact fun z => nomatch z
  · rw [upd_ne e]
    by_cases e2 : m = dx
    · rw [e2, upd_same]
      exact fun z => nomatch z
    · rw [upd_ne e2]
      exact w.tr m ((List.mem_cons.mp h).elim (fun z => absurd z e) id), fun _ h => absurd h List.not_mem_nil, fun _ h => absurd h List.not_mem_nil, fun _ h => absurd h List.not_mem_nil⟩
theorem ext_new (k : KpI p (upd (upd H dx o1) p o2) H') (nl : H p = none) (ndx : H dx = none) : Ret [] H H' := ⟨fun a o _ h => k.kp a o (ne_of_none h nl) (by rw [upd_ne (ne_of_none h nl), upd_ne (ne_of_none h ndx)]; exact h), fun _ z => absurd z List.not_mem_nil, fun a h => k.gr a (by
  by_cases e : a = p
  · rw [e, upd_same]
    exact fun z => nomatch z
  · rw [upd_ne e]
    by_cases e2 : a = dx
    · rw [e2, upd_same]
      exact fun z => nomatch z
    · rw [upd_ne e2]
      exact h)⟩
theorem rep_insW (w : Wd ms ps cs H0 H) (np : H p = none) {ns : List Str} {us : List V} {ds : List D} (hp : H' p = some (.ins C dx (ns.zip us))) (hl : ns.length = us.length) (hr : repL (p :: ms) H' ds us) : rep ms H' (.ins C ns ds) (.ref p) := by
  simp only [rep]
  exact ⟨p, dx, us, rfl, fun z => w.tr p z np, hp, hl, repL_weak hr⟩
end
end Rx
namespace Rx
open PySem PySem.Spec PyProof.Rows L2
section
variable {K : PySem.W.Frag} {x qual : Str} {params : Arguments} {body : List Stmt} {scope : Scope} {dvs : List V} {f : Addr} {fd : FuncData} {ps : List Str}
/-- a def with defaults, called with all its arguments -/
theorem FunD_b0 (F : FunD K x qual params body scope dvs [] f fd) (hd : dvs ≠ [])
    (h : ∀ (T : Addr) (kV doc pm : Value) (an : Option Addr) (cdv ct : Value) (us its : List Value), us.length = ps.length → its.length = dvs.length →
      ∃ k, bindArgs (PySem.W.fnOf x qual params body scope (.ref T) kV doc pm an cdv ct) ⟨us, []⟩ = seqItems? (.ref T) >>= k ∧ k (some its.toArray) = pure (ps.zip us)) : Binds K fd ps [] := by
  obtain ⟨ds, rd, hb⟩ := F.binds1 (ps := ps) ps.length dvs.length hd (by omega) fun T kV doc pm an cdv ct us its h1 h2 => by
    obtain ⟨k, e1, e2⟩ := h T kV doc pm an cdv ct us its h1 h2
    refine ⟨k, e1, ?_⟩
    rw [e2, List.drop_of_length_le (by omega), List.append_nil]
  rw [List.drop_length] at rd
  cases rd
  exact hb
end
end Rx
namespace Rx
open PySem PySem.Spec PyProof.Rows L2
/-! x in a written dict, x there -/
def rInW (K : PySem.W.Frag) (w : World) (d : Addr) (b : Bool) : R2 := fun x y H Q => ∃ (z c : Str), x = .str z ∧ y = .ref d ∧ KDct K w d z (.str c) ∧ Q (.bl b) H
section
variable {X : Cx} {K : PySem.W.Frag} {w : World} {d : Addr}
theorem op_inW (hK : X.K = K) (hw : X.w = w) (low : (d == sysModules) = false) : OpR X (compareOp .In) (rInW K w d true) := by
  subst hK hw
  intro pins s σ H x y v u Q I rx ry h
  obtain ⟨z, c, rfl, rfl, ⟨es, n, u0, at_, lit, ns, ru⟩, q⟩ := h
  exact op_in_kd ⟨at_, lit, low⟩ pins s σ H _ _ v u Q I rx ry ⟨z, some u0, rfl, rfl, ns, q⟩
theorem op_ninW (hK : X.K = K) (hw : X.w = w) (low : (d == sysModules) = false) : OpR X (compareOp .NotIn) (rInW K w d false) := by
  subst hK hw
  intro pins s σ H x y v u Q I rx ry h
  obtain ⟨z, c, rfl, rfl, ⟨es, n, u0, at_, lit, ns, ru⟩, q⟩ := h
  exact op_notIn_kd ⟨at_, lit, low⟩ pins s σ H _ _ v u Q I rx ry ⟨z, some u0, rfl, rfl, ns, q⟩
theorem rep_inW {l : List (Str × Str)} {z c : Str} {b : Bool} {H : Hp} {σ : L2.St} {Q : VK} (t : ∀ z c : Str, l.lookup z = some c → KDct K w d z (.str c)) (h : l.lookup z = some c) (q : Q (.bl b) H) : tC (V.ref d) σ H fun y H2 => rInW K w d b (.str z) y H2 Q := ⟨z, c, rfl, rfl, t z c h, q⟩
end
end Rx
namespace Rx
open PySem PySem.Spec PyProof.Rows L2
/-! ranges with a step -/
def rangeS (lo hi c : Int) : List Int := (List.range (if lo < hi then (hi - lo - 1) / c + 1 else 0).toNat).map fun i => lo + ((i : Nat) : Int) * c
def RgB (lo hi : Int) : Prop := -(2 ^ 60) ≤ lo ∧ lo < 2 ^ 60 ∧ -(2 ^ 60) ≤ hi ∧ hi < 2 ^ 60
theorem rangeS_len {lo hi c : Int} : (rangeS lo hi c).length = (if lo < hi then (hi - lo - 1) / c + 1 else 0).toNat := by simp [rangeS]
theorem rangeS_get {lo hi c : Int} {i : Nat} (h : i < (rangeS lo hi c).length) : (rangeS lo hi c)[i]? = some (lo + (i : Int) * c) := by
  rw [rangeS_len] at h
  simp [rangeS, List.getElem?_map, List.getElem?_range h]
theorem rgS_size {lo hi c : Int} (hc : 0 < c) : Builtin.Range.rangeSize lo hi c = ((rangeS lo hi c).length : Int) := by
  rw [rangeS_len]
  unfold Builtin.Range.rangeSize
  rw [if_pos hc]
  split
  · have := Int.ediv_nonneg (a := hi - lo - 1) (b := c) (by omega) (by omega)
    omega
  · rfl
theorem rgS_small {lo hi c : Int} (hc : 0 < c) (hc2 : c < 2 ^ 30) (hb : RgB lo hi) : Builtin.Range.small lo hi c = true := by
  obtain ⟨h1, h2, h3, h4⟩ := hb
  have e : Builtin.Range.rangeSize lo hi c ≤ 2 ^ 61 ∧ 0 ≤ Builtin.Range.rangeSize lo hi c := by
    unfold Builtin.Range.rangeSize
    rw [if_pos hc]
    split
    · have a := Int.ediv_nonneg (a := hi - lo - 1) (b := c) (by omega) (by omega)
      have b := Int.ediv_le_self (a := hi - lo - 1) c (by omega)
      omega
    · omega
  unfold Builtin.Range.small
  have f : ∀ z : Int, -(2 ^ 62) ≤ z → z < 2 ^ 62 → Builtin.Range.rangeFitsLong z = true := by
    intro z a b
    unfold Builtin.Range.rangeFitsLong
    simp only [Bool.and_eq_true, decide_eq_true_eq]
    omega
  rw [f lo (by omega) (by omega), f hi (by omega) (by omega), f c (by omega) (by omega), f _ (by omega) (by omega), if_pos hc, f (hi + (c - 1)) (by omega) (by omega)]
  simp
theorem rgC_of {lo hi c : Int} (hc : 0 < c) (hc2 : c < 2 ^ 30) (hb : RgB lo hi) : RgC lo hi c (rangeS lo hi c).length :=
  ⟨by omega, by omega, rgS_small hc hc2 hb, rgS_size hc⟩
section
variable {α β : Type} {K : PySem.W.Frag} {H1 H2 : Hp} {g : TG} {tt : TT} {te : TE} {vl : List Nat} {σ : L2.St} {Qd : Hp → Prop} {L : Addr}
theorem lc_rangeTG {lo hi c : Int} {body : Int → (β → Prop) → Prop} {KM : List β → Prop} (SI : Nat → List β → Hp → Prop) (hM : (rangeS lo hi c).length < 100000 ∧ mapC body (rangeS lo hi c) [] KM) (h0 : SI 0 [] (upd H1 L (.lst [])))
    (hs : ∀ (x : Int) (n : Nat) (ys : List β) (k : β → Prop) (H : Hp), n < 100000 → SI n ys H → body x k → ∀ Nx : Hp → Prop, (∀ y H', k y → SI (n + 1) (ys ++ [y]) H' → Nx H') → Turn g tt te vl σ L (.int x) H Nx)
    (hd : ∀ n ys H, KM ys → SI n ys H → Qd H) :
    ∃ W : Nat → Nat → Hp → Prop, (∃ m, W 0 m (upd H1 L (.lst []))) ∧ ∀ i m H, W i m H →
      ((Itc lo c (rangeS lo hi c).length).stop i H ∧ Qd H) ∨ ((Itc lo c (rangeS lo hi c).length).go i H ∧ ∃ Nx : Hp → Prop, (∀ H', Nx H' → ∃ m', m' < m ∧ W (i + 1) m' H') ∧ ∀ x H', (Itc lo c (rangeS lo hi c).length).yld i H x H' → g x (wipe σ vl) H' fun σ2 H2 => wipe σ2 vl = wipe σ vl ∧ tt σ2 H2 fun b H3 =>
        if b = true then te σ2 H3 fun y H4 => ∃ acc, H4 L = some (.lst acc) ∧ acc.length < sizeLine ∧ Nx (upd H4 L (.lst (acc ++ [y]))) else Nx H3) := by
  obtain ⟨hn, hM⟩ := hM
  refine ⟨fun i m H => m = (rangeS lo hi c).length - i ∧ i ≤ (rangeS lo hi c).length ∧ ∃ ys, SI i ys H ∧ mapC body ((rangeS lo hi c).drop i) ys KM, ⟨_, rfl, Nat.zero_le _, [], h0, hM⟩, ?_⟩
  rintro i m H ⟨rfl, hi', ys, T, q⟩
  by_cases hlt : i < (rangeS lo hi c).length
  · refine .inr ⟨hlt, fun H' => i + 1 ≤ (rangeS lo hi c).length ∧ ∃ ys, SI (i + 1) ys H' ∧ mapC body ((rangeS lo hi c).drop (i + 1)) ys KM, fun H' p' => ⟨_, by omega, rfl, p'⟩, fun x H' y => ?_⟩
    obtain ⟨e, y⟩ := y
    subst e y
    rw [drop_cons' (rangeS_get hlt)] at q
    exact hs _ i ys _ H' (by omega) T q _ fun y H' k T' => ⟨hlt, _, T', k⟩
  · have e : i = (rangeS lo hi c).length := by omega
    refine .inl ⟨by rw [e]; exact Nat.le_refl _, ?_⟩
    rw [List.drop_of_length_le (by omega)] at q
    exact hd _ ys H q T
theorem lf_rangeTG {lo hi c : Int} {body : Int → (Option β → Prop) → Prop} {KM : List β → Prop} (SI : Nat → List β → Hp → Prop) (hM : (rangeS lo hi c).length < 100000 ∧ filC body (rangeS lo hi c) [] KM) (h0 : SI 0 [] (upd H1 L (.lst [])))
    (hs : ∀ (x : Int) (n : Nat) (ys : List β) (k : Option β → Prop) (H : Hp), n < 100000 → SI n ys H → body x k → ∀ Nx : Hp → Prop, (∀ y H', k (some y) → SI (n + 1) (ys ++ [y]) H' → Nx H') → (∀ H', k none → SI (n + 1) ys H' → Nx H') → Turn g tt te vl σ L (.int x) H Nx)
    (hd : ∀ n ys H, KM ys → SI n ys H → Qd H) :
    ∃ W : Nat → Nat → Hp → Prop, (∃ m, W 0 m (upd H1 L (.lst []))) ∧ ∀ i m H, W i m H →
      ((Itc lo c (rangeS lo hi c).length).stop i H ∧ Qd H) ∨ ((Itc lo c (rangeS lo hi c).length).go i H ∧ ∃ Nx : Hp → Prop, (∀ H', Nx H' → ∃ m', m' < m ∧ W (i + 1) m' H') ∧ ∀ x H', (Itc lo c (rangeS lo hi c).length).yld i H x H' → g x (wipe σ vl) H' fun σ2 H2 => wipe σ2 vl = wipe σ vl ∧ tt σ2 H2 fun b H3 =>
        if b = true then te σ2 H3 fun y H4 => ∃ acc, H4 L = some (.lst acc) ∧ acc.length < sizeLine ∧ Nx (upd H4 L (.lst (acc ++ [y]))) else Nx H3) := by
  obtain ⟨hn, hM⟩ := hM
  refine ⟨fun i m H => m = (rangeS lo hi c).length - i ∧ i ≤ (rangeS lo hi c).length ∧ ∃ ys, SI i ys H ∧ filC body ((rangeS lo hi c).drop i) ys KM, ⟨_, rfl, Nat.zero_le _, [], h0, hM⟩, ?_⟩
  rintro i m H ⟨rfl, hi', ys, T, q⟩
  by_cases hlt : i < (rangeS lo hi c).length
  · refine .inr ⟨hlt, fun H' => i + 1 ≤ (rangeS lo hi c).length ∧ ∃ ys, SI (i + 1) ys H' ∧ filC body ((rangeS lo hi c).drop (i + 1)) ys KM, fun H' p' => ⟨_, by omega, rfl, p'⟩, fun x H' y => ?_⟩
    obtain ⟨e, y⟩ := y
    subst e y
    rw [drop_cons' (rangeS_get hlt)] at q
    exact hs _ i ys _ H' (by omega) T q _ (fun y H' k T' => ⟨hlt, _, T', k⟩) fun H' k T' => ⟨hlt, _, T', k⟩
  · have e : i = (rangeS lo hi c).length := by omega
    refine .inl ⟨by rw [e]; exact Nat.le_refl _, ?_⟩
    rw [List.drop_of_length_le (by omega)] at q
    exact hd _ ys H q T
theorem lc_rangeTS {lo hi c : Int} {body : Int → S → (β → S → Prop) → Prop} {KM : List β → S → Prop} (SI : Nat → List β → S → Hp → Prop) (s0 : S) (hM : (rangeS lo hi c).length < 100000 ∧ mapS body (rangeS lo hi c) [] s0 KM) (h0 : SI 0 [] s0 (upd H1 L (.lst [])))
    (hs : ∀ (x : Int) (n : Nat) (ys : List β) (s : S) (k : β → S → Prop) (H : Hp), n < 100000 → SI n ys s H → body x s k → ∀ Nx : Hp → Prop, (∀ y s' H', k y s' → SI (n + 1) (ys ++ [y]) s' H' → Nx H') → Turn g tt te vl σ L (.int x) H Nx)
    (hd : ∀ n ys s H, KM ys s → SI n ys s H → Qd H) :
    ∃ W : Nat → Nat → Hp → Prop, (∃ m, W 0 m (upd H1 L (.lst []))) ∧ ∀ i m H, W i m H →
      ((Itc lo c (rangeS lo hi c).length).stop i H ∧ Qd H) ∨ ((Itc lo c (rangeS lo hi c).length).go i H ∧ ∃ Nx : Hp → Prop, (∀ H', Nx H' → ∃ m', m' < m ∧ W (i + 1) m' H') ∧ ∀ x H', (Itc lo c (rangeS lo hi c).length).yld i H x H' → g x (wipe σ vl) H' fun σ2 H2 => wipe σ2 vl = wipe σ vl ∧ tt σ2 H2 fun b H3 =>
        if b = true then te σ2 H3 fun y H4 => ∃ acc, H4 L = some (.lst acc) ∧ acc.length < sizeLine ∧ Nx (upd H4 L (.lst (acc ++ [y]))) else Nx H3) := by
  obtain ⟨hn, hM⟩ := hM
  refine ⟨fun i m H => m = (rangeS lo hi c).length - i ∧ i ≤ (rangeS lo hi c).length ∧ ∃ ys s, SI i ys s H ∧ mapS body ((rangeS lo hi c).drop i) ys s KM, ⟨_, rfl, Nat.zero_le _, [], s0, h0, hM⟩, ?_⟩
  rintro i m H ⟨rfl, hi', ys, s, T, q⟩
  by_cases hlt : i < (rangeS lo hi c).length
  · refine .inr ⟨hlt, fun H' => i + 1 ≤ (rangeS lo hi c).length ∧ ∃ ys s, SI (i + 1) ys s H' ∧ mapS body ((rangeS lo hi c).drop (i + 1)) ys s KM, fun H' p' => ⟨_, by omega, rfl, p'⟩, fun x H' y => ?_⟩
    obtain ⟨e, y⟩ := y
    subst e y
    rw [drop_cons' (rangeS_get hlt)] at q
    exact hs _ i ys s _ H' (by omega) T q _ fun y s' H' k T' => ⟨hlt, _, _, T', k⟩
  · have e : i = (rangeS lo hi c).length := by omega
    refine .inl ⟨by rw [e]; exact Nat.le_refl _, ?_⟩
    rw [List.drop_of_length_le (by omega)] at q
    exact hd _ ys s H q T
end
section
variable {α S : Type} {K : PySem.W.Frag} {H1 : Hp} {g : TG} {tb : TS} {D' : Ends} {σ : L2.St}
theorem for_rangeTG {lo hi c : Int} {body : Int → S → (S → Prop) → Prop} {KM : S → Prop} (SI : S → L2.St → Hp → Prop) (s0 : S) (hM : forC body (rangeS lo hi c) s0 KM) (h0 : SI s0 σ H1)
    (hs : ∀ (x : Int) (s : S) (k : S → Prop) (σ : L2.St) (H : Hp), SI s σ H → body x s k → ∀ Nx : L2.St → Hp → Prop, (∀ s' σ' H', k s' → SI s' σ' H' → Nx σ' H') →
      g (.int x) σ H fun σ2 H2 => tb { D' with nx := Nx, ct := Nx, bk := D'.nx } σ2 H2)
    (hd : ∀ s σ H, KM s → SI s σ H → D'.nx σ H) :
    ∃ W : Nat → Nat → L2.St → Hp → Prop, (∃ m, W 0 m σ H1) ∧ ∀ i m σ H, W i m σ H →
      ((Itc lo c (rangeS lo hi c).length).stop i H ∧ D'.nx σ H) ∨ ((Itc lo c (rangeS lo hi c).length).go i H ∧ ∃ Nx : L2.St → Hp → Prop, (∀ σ' H', Nx σ' H' → ∃ m', m' < m ∧ W (i + 1) m' σ' H') ∧ ∀ x H', (Itc lo c (rangeS lo hi c).length).yld i H x H' → g x σ H' fun σ2 H2 => tb { D' with nx := Nx, ct := Nx, bk := D'.nx } σ2 H2) := by
  refine L2.for_rangeC (lo := lo) (c := c) (n := (rangeS lo hi c).length) (D := D') (fun i σ H => ∃ s, SI s σ H ∧ forC body ((rangeS lo hi c).drop i) s KM) ⟨s0, h0, hM⟩ (fun i σ H hi' ⟨s, si, q⟩ => ?_) (fun σ H ⟨s, si, q⟩ => ?_)
  · rw [drop_cons' (rangeS_get hi')] at q
    exact hs _ s _ σ H si q _ fun s' σ' H' hk si2 => ⟨s', si2, hk⟩
  · rw [List.drop_of_length_le (Nat.le_refl _)] at q
    exact hd s σ H q si
end
theorem paired_at {ys : List V} {l : List Value} (hl : ys.length = l.length) (h : ∀ (i : Nat) (v : V) (u : Value), ys[i]? = some v → l[i]? = some u → L2.RelV v u) : Vals ys l := by
  induction ys generalizing l with
  | nil =>
    cases l with
    | nil => exact .nil
    | cons _ _ => cases hl
  | cons y ys ih =>
    cases l with
    | nil => cases hl
    | cons u l => exact .cons (h 0 y u rfl rfl) (ih (Nat.succ.inj hl) fun i v u a b => h (i + 1) v u a b)
section
variable {X : L2.Cx} {a b c e : PySem.Expr} {ta : TA}
/-- list(range(a, b, c)) -/
def tLstRg3 (ta : TA) : TE := fun σ H Q => ta σ H fun vs H1 => ∃ i j c : Int, vs = [.int i, .int j, .int c] ∧ (0 < c ∧ c < 2 ^ 30) ∧ RgB i j ∧ (rangeS i j c).length ≤ 2 ^ 24 ∧ ∀ q, H1 q = none → Q (.ref q) (upd H1 q (.lst ((rangeS i j c).map V.int)))
theorem pe_listRg3 {p pos p' pos' : Pos} (hc : X.calm = true) (hl : Gl X "list") (hlm : X.mg "list" = none) (hg : Gl X "range") (hm : X.mg "range" = none) (ha : PA X [a, b, c] ta)
    (hs : starEach [a, b, c] X.env = [(false, eval a X.env), (false, eval b X.env), (false, eval c X.env)] := by rfl) (hs2 : starEach [b, c] X.env = [(false, eval b X.env), (false, eval c X.env)] := by rfl) :
    PE X (.Call (.Name "list" p) [.Call (.Name "range" p') [a, b, c] [] pos'] [] pos) (tLstRg3 ta) := by
  refine ⟨fun pins s σ H Q I h => ?_⟩
  refine Call_ (ld_blt I hl hlm boot_list (PyProof.Rows.callWith_type1 (e := .Call (.Name "range" p') [a, b, c] [] pos') (rest := []) (PyProof.Rows.args_cons (Call_ (ld_blt I hg hm boot_range (PyProof.Rows.callWith_type1 (thn (ha.run pos' pins s σ H _ I h) fun us s1 ⟨vs, H1, I1, r1, q1⟩ => ?_) (by rw [hs, hs2]) (by rw [hs2]; rfl)))) rfl) rfl rfl))
  obtain ⟨i, j, c, e, ⟨c0, c1⟩, hb, hn, q⟩ := q1
  subst e
  cases r1 with
  | cons r rr =>
  cases rr with
  | cons r' rr =>
  cases rr with
  | cons r'' rr =>
  cases rr
  obtain ⟨t, rfl⟩ := r
  obtain ⟨t', rfl⟩ := r'
  obtain ⟨t'', rfl⟩ := r''
  refine call_range_3 (by omega) (PyProof.Rows.args_nil ?_) (.inl ?_)
  · have I2 : L2.Inv X pins σ H1 { heap := s1.heap.push { cls := .type "range", data := .fields #[.int i t, .int j t', .int c t''] }, gens := s1.gens, drawn := s1.drawn, toks := s1.toks, os := s1.os } := I1.kept fun b o e => Heap.get?_push_of_some _ e
    refine call_list_range (I2.ok.hd hc) (IsRange.new _ i j c t t' t'') (rgS_small c0 c1 hb) (rgS_size c0) hn fun h' tk acc' c' hk hob hit => ?_
    obtain ⟨hi1, hi2⟩ := hit
    refine ⟨.ref _, _, I2.laid (a := _) (o := .lst ((rangeS i j c).map V.int)) (t' := tk) hk (Nat.le_refl _) ?_, rfl, q _ I2.fresh⟩
    refine ⟨by rw [List.length_map, sizeLine_eq]; omega, acc'.toList, c', paired_at (by rw [List.length_map]; exact hi1.symm) fun k v u hv hu => ?_, hob⟩
    rw [List.getElem?_map] at hv
    have lt : k < (rangeS i j c).length := by
      rcases Nat.lt_or_ge k (rangeS i j c).length with h | h
      · exact h
      · rw [List.getElem?_eq_none h] at hv
        cases hv
    rw [rangeS_get lt] at hv
    cases hv
    obtain ⟨tt, e⟩ := hi2 k u (by simpa using hu)
    exact ⟨tt, e⟩
  · unfold Builtin.divisionGoesByPylong
    have e : c.natAbs.log2 < 30 := (Nat.log2_lt (by omega)).mpr (by omega)
    have d : (if (c == 0) = true then 0 else c.natAbs.log2 / 30 + 1) ≤ 1 := by
      split
      · omega
      · omega
    simp only [Bool.and_eq_false_iff, decide_eq_false_iff_not]
    exact .inl (by omega)
end
/-! text[::-1] -/
def revS (z : Str) : Str := ⟨z.cps.reverse⟩
theorem revS_len (z : Str) : (revS z).length = z.length := by
  show (z.cps.reverse).size = z.cps.size
  exact Array.size_reverse
theorem revS_eq (z : Str) (u : Tok) : Txt.sliceBy z none none (-1, u) = revS z := by
  have h := step_rev_list z u
  have e : (Txt.sliceBy z none none (-1, u)).cps = (revS z).cps := by
    apply Array.toList_inj.mp
    rw [h]
    show _ = (z.cps.reverse).toList
    rw [Array.toList_reverse]
    apply List.ext_getElem?
    intro i
    rw [List.getElem?_map]
    by_cases c : i < z.length
    · rw [List.getElem?_range c, List.getElem?_reverse (by exact c)]
      show some (z.cps.getD (z.length - 1 - i) 0) = z.cps.toList[z.length - 1 - i]?
      rw [Array.getD_eq_getD_getElem?, ← Array.getElem?_toList, List.getElem?_eq_getElem (show z.length - 1 - i < z.cps.toList.length from (by have : z.cps.toList.length = z.length := rfl; omega))]
      rfl
    · rw [List.getElem?_eq_none (by simpa using c), List.getElem?_eq_none (by rw [List.length_reverse]; exact Nat.le_of_not_lt c)]
      rfl
  cases hx : Txt.sliceBy z none none (-1, u) with
  | mk c =>
    rw [hx] at e
    show Str.mk c = Str.mk _
    rw [show c = _ from e]
    rfl
section
variable {X : L2.Cx} {e : PySem.Expr} {te : TE}
def tRevS (te : TE) : TE := fun σ H Q => te σ H fun x H1 => ∃ z : Str, x = .str z ∧ z.length ≤ sizeLine ∧ Q (.str (revS z)) H1
theorem pe_revS {e : PySem.Expr} {k : Nat} {p1 p2 p3 pos : Pos} (h : PE X e te)  (hl : ∀ o r : Value, letTemporaryGo e o r = pure () := by intros; rfl) :
    PE X (.Subscript e (.Slice none none (some (.UnaryOp .USub (.Constant (.int 1) k p1) p2)) p3) pos) (tRevS te) := by
  refine ⟨fun pins s σ H Q I q => ?_⟩
  have hn : PE X (.UnaryOp .USub (.Constant (.int 1) k p1) p2) (tC (.int (-1))) := ⟨fun pins s σ H Q I q => (pe_un un_neg pe_int).run pins s σ H Q I ⟨1, rfl, q⟩⟩
  refine wpAny_Subscript_Slice_step (T := "str") (id := "str.__getitem__") (by rfl) (thn (h.run pins s σ H _ I q) fun v s1 ⟨x, H1, I1, r1, q1⟩ => ?_) hl
  obtain ⟨z, e, hz, q1⟩ := q1
  subst e
  obtain ⟨t, rfl⟩ := r1
  refine wpAny_Slice (evalPart_none_step (evalPart_none_step (wpAny_evalPart_some (thn (hn.run pins s1 σ H1 (fun y H2 => y = .int (-1) ∧ H2 = H1) I1 ⟨rfl, rfl⟩) fun v s2 ⟨y, H2, I2, r2, q2⟩ => ?_))))
  obtain ⟨e1, e2⟩ := q2
  subst e1 e2
  obtain ⟨t2, rfl⟩ := r2
  refine ⟨rfl, wpAny_getItem_str_slice (l := none) (u := none) (st := some (-1, t2)) ⟨_, Heap.get?_push_size _ rfl, rfl, rfl⟩ (by rfl) ?_⟩
  have e : sliceMade z t none none (some (-1, t2)) = .str (revS z) := by
    rw [← revS_eq z t2]
    rfl
  rw [e]
  unfold Made.post
  exact ⟨by rw [revS_len]; exact hz, .str (revS z), _, I2.kept fun b o e => Heap.get?_push_of_some _ e, ⟨_, rfl⟩, q1⟩
end
theorem repL_intsM {ms : List Addr} {H : Hp} {xs : List Int} : repL ms H (xs.map fun y_ : Int => D.v (V.int y_)) (xs.map V.int) := by
  have e1 : xs.map (fun y_ : Int => D.v (V.int y_)) = (xs.map V.int).map D.v := by
    rw [List.map_map]
    rfl
  rw [e1]
  exact repL_flat.mpr rfl
/-! results that may be None, of plain values -/
def optV {α : Type} (f : α → V) : Option α → V
  | none => .non
  | some y => f y
theorem rep_oV {α : Type} {f : α → V} {ms : List Addr} {H : Hp} {m : Option α} : rep ms H (encO (fun y_ : α => D.v (f y_)) m) (optV f m) := by
  cases m <;> exact rep_v
theorem rep_optV {α : Type} {f : α → V} {ms : List Addr} {H : Hp} {m : Option α} {u : V} (h : rep ms H (encO (fun y_ : α => D.v (f y_)) m) u) : u = optV f m := by
  cases m <;> exact of_v h
theorem optV_isN {α : Type} {f : α → V} {m : Option α} (he : ∀ y, f y ≠ .non) : decide (optV f m = .non) = m.isNone := by
  cases m with
  | none => rfl
  | some y => exact decide_eq_false (he y)
theorem optV_isSome {α : Type} {f : α → V} {m : Option α} (he : ∀ y, f y ≠ .non) : (!decide (optV f m = .non)) = m.isSome := by
  rw [optV_isN he]
  cases m <;> rfl
theorem optV_some {α : Type} {f : α → V} {m : Option α} {y : α} (h : m = some y) : optV f m = f y := by rw [h]; rfl
theorem scal_oo {a b : Option Int} : scal (optV V.int a) (optV V.int b) = true := by
  cases a <;> cases b <;> rfl
theorem scal_oi {a : Option Int} {b : Int} : scal (optV V.int a) (V.int b) = true := by
  cases a <;> rfl
theorem scal_io {a : Int} {b : Option Int} : scal (V.int a) (optV V.int b) = true := by
  cases b <;> rfl
theorem scal_on {a : Option Int} : scal (optV V.int a) V.non = true := by
  cases a <;> rfl
/-! x in a list or tuple of plain values -/
section
variable {X : L2.Cx} {K : PySem.W.Frag} {ms : List Addr} {H : Hp} {u x : V}
theorem op_inSK (hK : X.K = K) : OpR X (compareOp .In) (rIn K false) := by
  subst hK
  exact op_in_seq
theorem op_ninSK (hK : X.K = K) : OpR X (compareOp .NotIn) (rIn K true) := by
  subst hK
  exact op_notIn_seq
theorem inQ_all {α : Type} {f : α → V} {xs : List α} (fs : ∀ y, flatV (f y) = true) : (xs.map f).all flatV = true := by
  rw [List.all_map]
  exact List.all_eq_true.mpr fun y _ => fs y
theorem inQ_eq {α : Type} {f : α → V} {xs : List α} {vs : List V} (h : repL ms H (xs.map fun y_ : α => D.v (f y_)) vs) : vs = xs.map f := by
  have e1 : xs.map (fun y_ : α => D.v (f y_)) = (xs.map f).map D.v := by
    rw [List.map_map]
    rfl
  rw [e1] at h
  exact repL_flat.mp h
theorem rep_inL {α : Type} {f : α → V} {xs : List α} {Q : VK} (h : rep ms H (.lst (xs.map fun y_ : α => D.v (f y_))) u) (fx : flatV x = true) (fs : ∀ y, flatV (f y) = true) (k : Q (.bl (inV x (xs.map f))) H) : rIn K false x u H Q := by
  simp only [rep] at h
  obtain ⟨p, vs, e, _, hp, hr⟩ := h
  rw [inQ_eq hr] at hp
  exact ⟨p, _, e, .inl (.inl (.inl hp)), fx, inQ_all fs, k⟩
theorem rep_ninL {α : Type} {f : α → V} {xs : List α} {Q : VK} (h : rep ms H (.lst (xs.map fun y_ : α => D.v (f y_))) u) (fx : flatV x = true) (fs : ∀ y, flatV (f y) = true) (k : Q (.bl (!inV x (xs.map f))) H) : rIn K true x u H Q := by
  simp only [rep] at h
  obtain ⟨p, vs, e, _, hp, hr⟩ := h
  rw [inQ_eq hr] at hp
  exact ⟨p, _, e, .inl (.inl (.inl hp)), fx, inQ_all fs, k⟩
theorem rep_inT {α : Type} {f : α → V} {xs : List α} {Q : VK} (h : rep ms H (.tup (xs.map fun y_ : α => D.v (f y_))) u) (fx : flatV x = true) (fs : ∀ y, flatV (f y) = true) (k : Q (.bl (inV x (xs.map f))) H) : rIn K false x u H Q := by
  simp only [rep] at h
  obtain ⟨p, vs, e, _, hp, hr⟩ := h
  rw [inQ_eq hr] at hp
  exact ⟨p, _, e, .inr (.inl (.inl hp)), fx, inQ_all fs, k⟩
theorem rep_ninT {α : Type} {f : α → V} {xs : List α} {Q : VK} (h : rep ms H (.tup (xs.map fun y_ : α => D.v (f y_))) u) (fx : flatV x = true) (fs : ∀ y, flatV (f y) = true) (k : Q (.bl (!inV x (xs.map f))) H) : rIn K true x u H Q := by
  simp only [rep] at h
  obtain ⟨p, vs, e, _, hp, hr⟩ := h
  rw [inQ_eq hr] at hp
  exact ⟨p, _, e, .inr (.inl (.inl hp)), fx, inQ_all fs, k⟩
theorem inV_int {x : Int} {xs : List Int} : inV (.int x) (xs.map V.int) = true ↔ x ∈ xs := by
  unfold inV
  rw [List.any_map, List.any_eq_true]
  constructor
  · rintro ⟨y, hy, e⟩
    have e' : (y == x) = true := e
    rw [← eq_of_beq e']
    exact hy
  · intro h
    exact ⟨x, h, show (x == x) = true from beq_self_eq_true x⟩
end
section
variable {K : PySem.W.Frag} {ms ps : List Addr} {H0 H H' H1 : Hp} {L : Addr} {d : D} {ds : List D} {u x y : V} {vs : List V} {ks : List Key} {k : Key}
theorem rep_itemsR {Q : VK} (w : Wd ms ps [] H0 H) (h : rep ms H (.dct ks ds) x)
    (q : ∀ (H' : Hp) (p : Addr), Ret [] H H' → (∀ (r : List V → Hp → Prop), (∀ vs, ks.length = vs.length → repL ms H' ds vs → (∃ ps, SqL K H' p (ps.map V.ref) ∧ Paired (fun p kv => SqT K H' p [kV kv.1, kv.2]) ps (ks.zip vs)) → r vs H') → ∃ vs, ks.length = vs.length ∧ repL ms H' ds vs ∧ r vs H') → Q (.ref p) H') : LiI.rItemsL x H Q := rep_items w h q
end
end Rx
namespace Rx
open PySem PySem.Spec PyProof.Rows L2
section
variable {K : PySem.W.Frag} {ms ps : List Addr} {H0 H : Hp} {x : V}
theorem rep_gunl {ds : List D} {n : Nat} {Q : L2.St → Hp → Prop} {t : TGs} {σ : L2.St} (h : rep ms H (.lst ds) x) (hn : ds.length = n) (k : ∀ vs, repL ms H ds vs → t vs σ H Q) : ∃ a xs, x = .ref a ∧ SqL K H a xs ∧ xs.length = n ∧ t xs σ H Q := by
  simp only [rep] at h
  obtain ⟨p, vs, e, _, hp, hr⟩ := h
  exact ⟨p, vs, e, .inl (.inl hp), by rw [← repL_len hr]; exact hn, k vs hr⟩
theorem rep_iterE {ds : List D} {P : Addr → Prop} (h : rep ms H (.lst ds) x) (k : ∀ a xs, x = .ref a → a ∉ ms → H a = some (.lst xs) → repL ms H ds xs → P a) : ∃ (a : Addr) (xs : List V), [x] = [.ref a] ∧ SqL K H a xs ∧ P a := by
  simp only [rep] at h
  obtain ⟨p, vs, e, n, hp, hr⟩ := h
  exact ⟨p, vs, by rw [e], .inl (.inl hp), k p vs e n hp hr⟩
end
section
variable {α S : Type} {K : PySem.W.Frag} {H1 : Hp} {g : TG} {tb : TS} {D' : Ends} {σ : L2.St}
/-- a pair that is new at T -/
theorem rep_pair {ms : List Addr} {H H2 : Hp} {T : Addr} {d1 d2 : D} {v1 v2 : V} (tr : ∀ m ∈ ms, H m ≠ none) (nT : H T = none) (e : H2 = upd H T (.tup [v1, v2])) (h1 : rep ms H d1 v1) (h2 : rep ms H d2 v2) : rep ms H2 (.tup [d1, d2]) (.ref T) := by
  subst e
  simp only [rep]
  refine ⟨T, [v1, v2], rfl, fun z => tr T z nT, upd_same, ?_⟩
  exact repL_ext (Ext.new nT) (repL_cons h1 (repL_cons h2 repL_nil))
theorem for_enumG {items : List α} {e : α → D} {ms : List Addr} {a : Addr} {xs : List V} {body : (Int × α) → S → (S → Prop) → Prop} {KM : S → Prop} (SI : S → L2.St → Hp → Prop) (s0 : S) (an : a ∉ ms) (ha : H1 a = some (.lst xs)) (hx : repL ms H1 (items.map e) xs)
    (kp : ∀ s σ H, SI s σ H → Keep ms H1 H) (tr : ∀ s σ H, SI s σ H → ∀ m ∈ ms, H m ≠ none) (hM : forC body ((rangeI 0 (items.length : Int)).zip items) s0 KM) (h0 : SI s0 σ H1)
    (hs : ∀ (x : Int × α) (u : V) (s : S) (k : S → Prop) (σ : L2.St) (H H2 : Hp), SI s σ H → Ext H H2 → rep ms H2 (.tup [.v (.int x.1), e x.2]) u → body x s k → ∀ Nx : L2.St → Hp → Prop, (∀ s' σ' H', k s' → SI s' σ' H' → Nx σ' H') →
      g u σ H2 fun σ2 H2 => tb { D' with nx := Nx, ct := Nx, bk := D'.nx } σ2 H2)
    (hd : ∀ s σ H, KM s → SI s σ H → D'.nx σ H) :
    ∃ W : Nat → Nat → L2.St → Hp → Prop, (∃ m, W 0 m σ H1) ∧ ∀ i m σ H, W i m σ H →
      ((Ite K a).stop i H ∧ D'.nx σ H) ∨ ((Ite K a).go i H ∧ ∃ Nx : L2.St → Hp → Prop, (∀ σ' H', Nx σ' H' → ∃ m', m' < m ∧ W (i + 1) m' σ' H') ∧ ∀ x H', (Ite K a).yld i H x H' → g x σ H' fun σ2 H2 => tb { D' with nx := Nx, ct := Nx, bk := D'.nx } σ2 H2) := by
  have hl : items.length = xs.length := by
    have := repL_len hx
    rwa [List.length_map] at this
  have rl : (rangeI 0 (items.length : Int)).length = items.length := by rw [rangeI_len]; omega
  have zl : ((rangeI 0 (items.length : Int)).zip items).length = xs.length := by rw [List.length_zip, rl, hl, Nat.min_self]
  refine for_it (walk_enum (K := K) (a := a) (xs := xs)) (D := D') (fun i σ H => ∃ s, SI s σ H ∧ forC body (((rangeI 0 (items.length : Int)).zip items).drop i) s KM) ⟨s0, h0, hM⟩ (fun i σ H _ ⟨s, si, _⟩ => .inl (.inl (kp s σ H si a _ an ha))) (fun i u σ H H' hi ⟨s, si, q⟩ y => ?_) (fun σ H ⟨s, si, q⟩ => ?_)
  · obtain ⟨T, x1, x2, rfl, nT, eH, e1, e2⟩ := y
    have hit : items[i]? = some (items[i]'(by omega)) := List.getElem?_eq_getElem (by omega)
    have hz : ((rangeI 0 (items.length : Int)).zip items)[i]? = some ((i : Int), items[i]'(by omega)) := by
      rw [List.getElem?_zip_eq_some]
      exact ⟨by rw [rangeI_get (by omega)]; congr 1; omega, hit⟩
    rw [drop_cons' hz] at q
    obtain ⟨v, hv, rv⟩ := repL_get (repL_keep (kp s σ H si) hx) (j := i) (d := e (items[i]'(by omega))) (by rw [List.getElem?_map, hit]; rfl)
    have e2 : xs[i]? = some x2 := e2
    rw [e2] at hv
    have ev : x2 = v := Option.some.inj hv
    subst ev
    have ev1 : V.int (i : Nat) = x1 := Option.some.inj e1
    subst ev1
    have ex : Ext H H' := by rw [eH]; exact Ext.new nT
    exact hs ((i : Int), items[i]'(by omega)) (.ref T) s _ σ H H' si ex (rep_pair (tr s σ H si) nT eH rep_v rv) q _ fun s' σ' H'' hk si2 => ⟨s', si2, hk⟩
  · rw [List.drop_of_length_le (by omega)] at q
    exact hd s σ H q si
end
end Rx
namespace Rx
open PySem PySem.Spec PyProof.Rows L2
/-! dicts with any keys of one kind -/
section
variable {α κ : Type} [DecidableEq κ]
def putD (m : List (κ × α)) (k : κ) (y : α) : List (κ × α) := if (m.any fun q => decide (q.1 = k)) = true then m.map (fun q => if q.1 = k then (q.1, y) else q) else m ++ [(k, y)]
def getD (m : List (κ × α)) (k : κ) : Option α := (m.find? fun q => decide (q.1 = k)).map (·.2)
def hasD (m : List (κ × α)) (k : κ) : Bool := m.any fun q => decide (q.1 = k)
theorem zip_fst_any {k : κ} : ∀ {m : List (κ × α)} {vs : List V}, m.length = vs.length → (((m.map (·.1)).zip vs).any fun kv => decide (kv.1 = k)) = m.any fun q => decide (q.1 = k)
  | [], [], _ => rfl
  | q :: m, v :: vs, h => by
    rw [List.map_cons, List.zip_cons_cons, List.any_cons, List.any_cons, zip_fst_any (by simpa using h)]
  | [], _ :: _, h => by simp at h
  | _ :: _, [], h => by simp at h
theorem putK_map {k : κ} {y : α} {v : V} : ∀ {m : List (κ × α)} {vs : List V}, m.length = vs.length → ((m.map (·.1)).zip vs).map (fun kv => if kv.1 = k then (kv.1, v) else kv) = ((m.map (fun q => if q.1 = k then (q.1, y) else q)).map (·.1)).zip ((m.zip vs).map fun z => if z.1.1 = k then v else z.2)
  | [], [], _ => rfl
  | q :: m, w :: vs, h => by
    have ih := putK_map (k := k) (y := y) (v := v) (m := m) (vs := vs) (by simpa using h)
    rw [List.map_cons, List.zip_cons_cons, List.map_cons, ih, List.map_cons, List.map_cons, List.zip_cons_cons, List.map_cons, List.zip_cons_cons]
    by_cases e : q.1 = k
    · simp [e]
    · simp [e]
  | [], _ :: _, h => by simp at h
  | _ :: _, [], h => by simp at h
end
section
variable {α : Type} {K : PySem.W.Frag} {ms ps : List Addr} {H0 H : Hp} {L : Addr} {x : V} {e : α → D}
theorem repL_mapD {ms : List Addr} {H : Hp} {y : α} {v : V} {k : Key} (rv : rep ms H (e y) v) : ∀ {m : List (Key × α)} {vs : List V}, repL ms H (m.map fun q => e q.2) vs → repL ms H ((m.map (fun q => if q.1 = k then (q.1, y) else q)).map fun q => e q.2) ((m.zip vs).map fun z => if z.1.1 = k then v else z.2)
  | [], vs, h => by
    have := repL_empty h
    subst this
    exact repL_nil
  | q :: m, vs, h => by
    obtain ⟨u, us, rfl, h1, h2⟩ := repL_uncons h
    have ih := repL_mapD (y := y) (v := v) (k := k) rv h2
    by_cases c : q.1 = k
    · simp only [List.map_cons, List.zip_cons_cons, if_pos c]
      exact repL_cons rv ih
    · simp only [List.map_cons, List.zip_cons_cons, if_neg c]
      exact repL_cons h1 ih
/-- d[k] = v, the key new or not -/
theorem mo_putA {m : List (Key × α)} {k : Key} {y : α} {v : V} {Q : Hp → Prop} (mo : MutO ms ps H0 H L (.dct (m.map (·.1)) (m.map fun q => e q.2))) (rv : rep ms H (e y) v) (hk : m.length < 16777216)
    (q : ∀ vs, ((putD m k y).map (·.1)).length = vs.length → repL ms H ((putD m k y).map fun q => e q.2) vs → Q (upd H L (.dK (((putD m k y).map (·.1)).zip vs)))) : rSetD (.ref L) (kV k) v H Q := by
  obtain ⟨vs, h1, h2, h3⟩ := mo.val
  have hl : m.length = vs.length := by rw [← h2, List.length_map]
  refine ⟨L, _, rfl, DPut.k h1 ?_, ?_⟩
  · rw [List.length_zip, ← h2, sizeLine_eq, Nat.min_self, List.length_map]
    exact hk
  · unfold putK
    rw [zip_fst_any hl]
    unfold putD at q
    by_cases c : (m.any fun q => decide (q.1 = k)) = true
    · rw [if_pos c, putK_map (y := y) hl]
      rw [if_pos c] at q
      exact q _ (by simp [hl]) (repL_mapD rv h3)
    · rw [if_neg c]
      rw [if_neg c] at q
      have z : (m.map (·.1)).zip vs ++ [(k, v)] = ((m ++ [(k, y)]).map (·.1)).zip (vs ++ [v]) := by
        rw [List.map_append, List.zip_append h2]
        rfl
      rw [z]
      refine q _ (by simp [hl]) ?_
      rw [List.map_append]
      exact repL_app h3 (repL_one rv)
theorem valV_getD {ms : List Addr} {H : Hp} {k : Key} {y : α} : ∀ {m : List (Key × α)} {vs : List V}, repL ms H (m.map fun q => e q.2) vs → getD m k = some y → ∃ v, valV ((m.map (·.1)).zip vs) k = some v ∧ rep ms H (e y) v
  | [], _, _, h => by simp [getD] at h
  | q :: m, vs, r, h => by
    obtain ⟨u, us, rfl, h1, h2⟩ := repL_uncons r
    by_cases c : q.1 = k
    · have : q.2 = y := by simpa [getD, c] using h
      subst this
      exact ⟨u, valV_pos (p := (q.1, u)) c, h1⟩
    · have h' : getD m k = some y := by
        unfold getD at h ⊢
        rw [List.find?_cons_of_neg (by simpa using c)] at h
        exact h
      obtain ⟨v, hv, rv⟩ := valV_getD h2 h'
      exact ⟨v, by rw [List.map_cons, List.zip_cons_cons, valV_neg (p := (q.1, u)) c]; exact hv, rv⟩
theorem rep_dgetA {m : List (Key × α)} {k : Key} {y : α} {Q : VK} (h : rep ms H (.dct (m.map (·.1)) (m.map fun q => e q.2)) x) (hy : getD m k = some y) (q : ∀ v, rep ms H (e y) v → Q v H) :
    ∃ a v, x = .ref a ∧ DGet H a (kV k) (some v) ∧ Q v H := by
  simp only [rep] at h
  obtain ⟨p, vs, rfl, _, hp, hl, hr⟩ := h
  obtain ⟨v, hv, rv⟩ := valV_getD hr hy
  refine ⟨p, v, rfl, ?_, q v rv⟩
  have := DGet.k (k := k) hp
  rw [hv] at this
  exact this
theorem mo_dgetA {m : List (Key × α)} {k : Key} {y : α} {Q : VK} (mo : MutO ms ps H0 H L (.dct (m.map (·.1)) (m.map fun q => e q.2))) (hy : getD m k = some y) (q : ∀ v, rep ms H (e y) v → Q v H) :
    ∃ a v, V.ref L = .ref a ∧ DGet H a (kV k) (some v) ∧ Q v H := by
  obtain ⟨vs, hp, hl, hr⟩ := mo.val
  obtain ⟨v, hv, rv⟩ := valV_getD hr hy
  refine ⟨L, v, rfl, ?_, q v rv⟩
  have := DGet.k (k := k) hp
  rw [hv] at this
  exact this
end
section
variable {K : PySem.W.Frag} {ms : List Addr} {H : Hp} {x : V}
/-- an item of a list whose items are of several kinds -/
theorem rep_ixH {ds : List D} {d : D} {i : Int} {σ : L2.St} {Q : VK} (j : Nat) (h : rep ms H (.lst ds) x) (hi : i = (j : Int)) (hd : ds[j]? = some d) (q : ∀ v, rep ms H d v → Q v H) : tC (V.int i) σ H fun y H2 => rIxL K x y H2 Q := by
  simp only [rep] at h
  obtain ⟨p, vs, rfl, _, hp, hr⟩ := h
  obtain ⟨v, hv, rv⟩ := repL_get hr hd
  subst hi
  exact ⟨p, vs, _, v, rfl, rfl, .inl (.inl hp), atI_nat hv, q v rv⟩
end
/-! xs.index(x): numbers -/
theorem idxOf_le_of {w : Int} : ∀ {xs : List Int} {m : Nat}, xs[m]? = some w → xs.idxOf w ≤ m
  | [], _, h => by simp at h
  | x :: xs, 0, h => by
    have : x = w := Option.some.inj h
    subst this
    rw [List.idxOf_cons_self]
    exact Nat.le_refl 0
  | x :: xs, m + 1, h => by
    have ih := idxOf_le_of (xs := xs) (m := m) (by simpa using h)
    rw [List.idxOf_cons]
    cases x == w
    · show List.idxOf w xs + 1 ≤ m + 1
      omega
    · show 0 ≤ m + 1
      omega
def rIndexI (K : PySem.W.Frag) : V → List V → Hp → VK → Prop := rIndex K
theorem mt_indexK {X : Cx} {K : PySem.W.Frag} (hK : X.K = K) : MtR X "list.index" (rIndexI K) := by
  subst hK
  exact mt_index
theorem rep_indexI {K : PySem.W.Frag} {ms : List Addr} {H : Hp} {x : V} {xs : List Int} {n : Int} {Q : VK} (h : rep ms H (.lst (xs.map fun y => .v (.int y))) x) (hm : n ∈ xs) (q : Q (.int (xs.idxOf n : Int)) H) : rIndexI K x [.int n] H Q := by
  simp only [rep] at h
  obtain ⟨p, vs, rfl, _, hp, hr⟩ := h
  have ev : vs = xs.map V.int := by
    have := repL_flat (xs := xs.map V.int) (vs := vs) (ms := ms) (H := H)
    rw [List.map_map] at this
    exact this.mp hr
  subst ev
  have hl : xs.idxOf n < xs.length := List.idxOf_lt_length_iff.mpr hm
  have eqv : ∀ a b : Int, eqV (.int a) (.int b) = decide (a = b) := fun a b => by
    by_cases c : a = b
    · subst c
      rw [decide_eq_true rfl]
      show (a == a) = true
      exact beq_self_eq_true a
    · rw [decide_eq_false c]
      show (a == b) = false
      exact beq_eq_false_iff_ne.mpr c
  refine ⟨p, _, _, xs.idxOf n, .int n, rfl, rfl, .inl (.inl hp), rfl, ?_, ?_, ?_, ?_, q⟩
  · rw [List.all_eq_true]
    intro z hz
    obtain ⟨w, _, rfl⟩ := List.mem_map.mp hz
    rfl
  · rw [List.getElem?_map, List.getElem?_eq_getElem hl, List.getElem_idxOf hl]
    rfl
  · rw [eqv, decide_eq_true rfl]
  · intro m z' hm' hz
    rw [List.getElem?_map] at hz
    obtain ⟨w, hw, rfl⟩ := Option.map_eq_some_iff.mp hz
    rw [eqv]
    refine decide_eq_false fun c => ?_
    subst c
    have := idxOf_le_of hw
    omega
theorem rep_indexIC {K : PySem.W.Frag} {ms : List Addr} {H : Hp} {x : V} {xs : List Int} {n : Int} {σ : L2.St} {Q : VK} (h : rep ms H (.lst (xs.map fun y => .v (.int y))) x) (hm : n ∈ xs) (q : Q (.int (xs.idxOf n : Int)) H) : tCons (tC (V.int n)) tNil σ H fun ys H2 => rIndexI K x ys H2 Q := rep_indexI (K := K) (Q := Q) h hm q
end Rx
namespace Wm
open PySem PySem.Spec PyProof.Rows L2

abbrev L (z : Str) : List Nat := z.cps.toList
theorem len_L (z : Str) : z.length = (L z).length := by
  show z.cps.size = z.cps.toList.length
  simp
theorem L_mk (l : List Nat) : L ⟨l.toArray⟩ = l := by simp [L]
theorem mk_L (z : Str) : (⟨(L z).toArray⟩ : Str) = z := by
  cases z
  simp [L]
theorem L_ext {a b : Str} (h : L a = L b) : a = b := ext_toList h
theorem L_app (a b : Str) : L (a ++ b) = L a ++ L b := by
  show (a.cps ++ b.cps).toList = _
  simp [L]
theorem L_empty : L ("" : Str) = [] := by decide +kernel
theorem L_h : L ("h" : Str) = [104] := by decide +kernel
theorem L_a : L ("a" : Str) = [97] := by decide +kernel
theorem L_one (c : Nat) : L ⟨#[c]⟩ = [c] := by simp [L]
theorem h_mk : ("h" : Str) = ⟨#[104]⟩ := by decide +kernel
theorem a_mk : ("a" : Str) = ⟨#[97]⟩ := by decide +kernel
theorem eqS {a b : Str} : decide (V.str a = V.str b) = decide (L a = L b) := by
  by_cases h : a = b
  · subst h
    simp
  · rw [decide_eq_false (fun z => h (V.str.inj z)), decide_eq_false (fun z => h (L_ext z))]
theorem eqI {a b : Int} : decide (V.int a = V.int b) = decide (a = b) := by
  by_cases h : a = b
  · subst h
    simp
  · rw [decide_eq_false (fun z => h (V.int.inj z)), decide_eq_false h]

/-- how many signs c -/
def cn (c : Nat) (l : List Nat) : Int := ((l.count c : Nat) : Int)
theorem cn_nil (c : Nat) : cn c [] = 0 := rfl
theorem cn_app (c : Nat) (a b : List Nat) : cn c (a ++ b) = cn c a + cn c b := by
  unfold cn
  rw [List.count_append]
  omega
theorem cn_cons (c x : Nat) (l : List Nat) : cn c (x :: l) = (if x = c then 1 else 0) + cn c l := by
  unfold cn
  rw [List.count_cons]
  by_cases h : x = c
  · simp [h]
    omega
  · simp [h]
theorem cn_pos (c : Nat) (l : List Nat) : 0 ≤ cn c l := by
  unfold cn
  omega
theorem cn_le (c : Nat) (l : List Nat) : cn c l ≤ l.length := by
  unfold cn
  have := List.count_le_length (a := c) (l := l)
  omega
theorem cnt_cn (c : Nat) : ∀ l : List Nat, cnt c l = cn c l
  | [] => by rw [cn_nil]; rfl
  | x :: l => by rw [cn_cons, cnt_cons, cnt_cn c l]
theorem count_h (x : Str) : Txt.count x ("h" : Str) = cn 104 (L x) := by rw [h_mk, count_cnt, cnt_cn]
theorem count_a (x : Str) : Txt.count x ("a" : Str) = cn 97 (L x) := by rw [a_mk, count_cnt, cnt_cn]
theorem marks_all : ∀ l : List Nat, (∀ c ∈ l, c = 104 ∨ c = 97) → cn 104 l + cn 97 l = l.length
  | [], _ => rfl
  | x :: l, h => by
    have ih := marks_all l fun c hc => h c (List.mem_cons_of_mem _ hc)
    rw [cn_cons, cn_cons, List.length_cons]
    rcases h x List.mem_cons_self with e | e <;> subst e <;> simp <;> omega

/-- z[:k], 0 ≤ k -/
theorem cut_take (z : Str) {k : Int} (h : 0 ≤ k) : L (cutS z none (some k)) = (L z).take k.toNat := by
  unfold cutS
  rw [L_mk, HT.sIx_none, List.drop_zero, Nat.sub_zero]
  show List.take (if k < 0 then _ else min k.toNat z.length) z.cps.toList = _
  rw [if_neg (by omega)]
  rw [len_L]
  exact (List.take_eq_take_min).symm
theorem join_L (ys : List Str) : L (Txt.join ("" : Str) ys) = (ys.map L).flatten := by
  rw [TL.join_eq]
  show TL.tl (Str.join _ _) = _
  rw [TL.tl_join]
  show TL.joinL (L ("" : Str)) _ = _
  rw [L_empty]
  show _ = (ys.map TL.tl).flatten
  generalize ys.map TL.tl = ls
  induction ls with
  | nil => rfl
  | cons p ls ih =>
    cases ls with
    | nil => simp [TL.joinL]
    | cons q r =>
      show p ++ ([] ++ TL.joinL [] (q :: r)) = _
      rw [ih]
      simp

/-! ### the middle, said again and again -/
def cyc (m : List Nat) (k : Nat) : List Nat := (List.range k).map fun j => m.getD (j % m.length) 0
theorem cyc_len (m : List Nat) (k : Nat) : (cyc m k).length = k := by simp [cyc]
theorem cyc_get (m : List Nat) {k j : Nat} (h : j < k) : (cyc m k)[j]? = some (m.getD (j % m.length) 0) := by
  simp [cyc, List.getElem?_map, List.getElem?_range h]
theorem cyc_get' {m : List Nat} (hm : 0 < m.length) {k j : Nat} (h : j < k) : (cyc m k)[j]? = m[j % m.length]? := by
  rw [cyc_get m h]
  have := Nat.mod_lt j hm
  rw [List.getD_eq_getElem?_getD, List.getElem?_eq_getElem this]
  rfl
theorem cyc_take (m : List Nat) {k j : Nat} (h : j ≤ k) : (cyc m k).take j = cyc m j := by
  unfold cyc
  rw [← List.map_take, List.take_range, Nat.min_eq_left h]
theorem cyc_full {m : List Nat} : cyc m m.length = m := by
  apply List.ext_getElem?
  intro j
  by_cases h : j < m.length
  · rw [cyc_get' (by omega) h, Nat.mod_eq_of_lt h]
  · rw [List.getElem?_eq_none (by rw [cyc_len]; omega), List.getElem?_eq_none (by omega)]
theorem cyc_add {m : List Nat} (hm : 0 < m.length) (k : Nat) : cyc m (m.length + k) = m ++ cyc m k := by
  apply List.ext_getElem?
  intro j
  by_cases h : j < m.length
  · rw [cyc_get' hm (by omega), List.getElem?_append_left h, Nat.mod_eq_of_lt h]
  · rw [List.getElem?_append_right (by omega)]
    by_cases h2 : j < m.length + k
    · rw [cyc_get' hm h2, cyc_get' hm (by omega), Nat.mod_eq_sub_mod (by omega)]
    · rw [List.getElem?_eq_none (by rw [cyc_len]; omega), List.getElem?_eq_none (by rw [cyc_len]; omega)]
/-- how many c the first k of them have -/
def cyn (c : Nat) (m : List Nat) (k : Nat) : Int := ((k / m.length : Nat) : Int) * cn c m + cn c (m.take (k % m.length))
theorem cyn_eq (c : Nat) {m : List Nat} (hm : 0 < m.length) : ∀ k : Nat, cn c (cyc m k) = cyn c m k := by
  intro k
  induction k using Nat.strongRecOn with
  | ind k ih =>
    by_cases h : k < m.length
    · unfold cyn
      rw [Nat.div_eq_of_lt h, Nat.mod_eq_of_lt h]
      have e : cyc m k = m.take k := by
        have := cyc_take m (Nat.le_of_lt h)
        rw [cyc_full] at this
        exact this.symm
      rw [e]
      show _ = ((0 : Nat) : Int) * _ + _
      omega
    · obtain ⟨j, rfl⟩ : ∃ j, k = m.length + j := ⟨k - m.length, by omega⟩
      rw [cyc_add hm, cn_app, ih j (by omega)]
      unfold cyn
      rw [Nat.add_mod_left, Nat.add_div_left _ hm]
      rw [show (((j / m.length + 1 : Nat) : Int)) = ((j / m.length : Nat) : Int) + 1 by omega, Int.add_mul]
      omega
theorem cyn_add (c : Nat) {m : List Nat} (hm : 0 < m.length) (k : Nat) : cyn c m (k + m.length) = cyn c m k + cn c m := by
  rw [← cyn_eq c hm, ← cyn_eq c hm, Nat.add_comm, cyc_add hm, cn_app]
  omega
theorem cyn_mul (c : Nat) {m : List Nat} (hm : 0 < m.length) (k : Nat) : cyn c m (k * m.length) = (k : Int) * cn c m := by
  unfold cyn
  rw [Nat.mul_div_cancel _ hm, Nat.mul_mod_left, List.take_zero, cn_nil]
  omega

/-! ### rows -/
def row (h m t : List Nat) (n : Nat) : List Nat := h ++ cyc m (n - h.length - t.length) ++ t
section
variable {h m t : List Nat} {n : Nat}
theorem row_len (hn : h.length + t.length ≤ n) : (row h m t n).length = n := by
  unfold row
  rw [List.length_append, List.length_append, cyc_len]
  omega
theorem row_head {j : Nat} (hj : j < h.length) : (row h m t n)[j]? = h[j]? := by
  unfold row
  rw [List.append_assoc, List.getElem?_append_left hj]
theorem row_mid {j : Nat} (hm : 0 < m.length) (hn : h.length + t.length ≤ n) (h1 : h.length ≤ j) (h2 : j < n - t.length) : (row h m t n)[j]? = m[(j - h.length) % m.length]? := by
  unfold row
  rw [List.append_assoc, List.getElem?_append_right h1, List.getElem?_append_left (by rw [cyc_len]; omega), cyc_get' hm (by omega)]
theorem row_tail {j : Nat} (hn : h.length + t.length ≤ n) (h1 : n - t.length ≤ j) : (row h m t n)[j]? = t[j - (n - t.length)]? := by
  unfold row
  rw [List.getElem?_append_right (by rw [List.length_append, cyc_len]; omega)]
  congr 1
  rw [List.length_append, cyc_len]
  omega
/-- the homes of the first i places -/
def hom (c : Nat) (h m t : List Nat) (n i : Nat) : Int := cn c (h.take i) + cyn c m (min i (n - t.length) - h.length) + cn c (t.take (i - (n - t.length)))
theorem hom_eq (c : Nat) (hm : 0 < m.length) (hn : h.length + t.length ≤ n) (i : Nat) (hi : i ≤ n) : cn c ((row h m t n).take i) = hom c h m t n i := by
  unfold row hom
  rw [List.take_append, List.take_append, cn_app, cn_app, List.length_append, cyc_len]
  congr 2
  · rw [← cyn_eq c hm]
    by_cases h1 : i - h.length ≤ n - h.length - t.length
    · rw [cyc_take m h1]
      congr 2
      omega
    · rw [List.take_of_length_le (by rw [cyc_len]; omega)]
      congr 2
      omega
  · congr 1
    omega
theorem cn_succ (c : Nat) {l : List Nat} {i x : Nat} (hx : l[i]? = some x) : cn c (l.take (i + 1)) = cn c (l.take i) + (if x = c then 1 else 0) := by
  rw [List.take_add_one, hx, cn_app]
  show _ + cn c [x] = _
  rw [cn_cons, cn_nil]
  omega
end

theorem cyc_end {m : List Nat} (hm : 0 < m.length) (k : Nat) : cyc m (k * m.length) ++ m = cyc m ((k + 1) * m.length) := by
  apply List.ext_getElem?
  intro j
  by_cases h : j < k * m.length
  · rw [List.getElem?_append_left (by rw [cyc_len]; exact h), cyc_get' hm h, cyc_get' hm (by rw [Nat.succ_mul]; omega)]
  · rw [List.getElem?_append_right (by rw [cyc_len]; omega), cyc_len]
    by_cases h2 : j < (k + 1) * m.length
    · rw [cyc_get' hm h2]
      rw [Nat.succ_mul] at h2
      obtain ⟨i, rfl⟩ : ∃ i, j = i + k * m.length := ⟨j - k * m.length, by omega⟩
      rw [Nat.add_mul_mod_self_right, Nat.mod_eq_of_lt (by omega)]
      congr 1
      omega
    · rw [List.getElem?_eq_none (by rw [Nat.succ_mul] at h2; omega), List.getElem?_eq_none (by rw [cyc_len]; omega)]

/-! ### loops of mirrors -/
section
open Rx
variable {α β S : Type}
theorem mapC_ok {body : α → (β → Prop) → Prop} {k : List β → Prop} (g : α → β) : ∀ {xs : List α} {acc : List β}, (∀ x ∈ xs, ∀ k' : β → Prop, k' (g x) → body x k') → k (acc ++ xs.map g) → mapC body xs acc k
  | [], acc, _, q => by
    rw [List.map_nil, List.append_nil] at q
    exact q
  | x :: xs, acc, h, q => h x List.mem_cons_self _ (mapC_ok g (fun y hy => h y (List.mem_cons_of_mem _ hy)) (by rw [List.append_assoc]; exact q))
theorem mapC_any {body : α → (β → Prop) → Prop} {k : List β → Prop} (P : β → Prop) : ∀ {xs : List α} {acc : List β}, (∀ x ∈ xs, ∀ k' : β → Prop, (∀ y, P y → k' y) → body x k') → (∀ ys : List β, ys.length = xs.length → (∀ y ∈ ys, P y) → k (acc ++ ys)) → mapC body xs acc k
  | [], acc, _, q => by
    have := q [] rfl (fun _ h => absurd h List.not_mem_nil)
    rw [List.append_nil] at this
    exact this
  | x :: xs, acc, h, q => h x List.mem_cons_self _ fun y hy => mapC_any P (fun z hz => h z (List.mem_cons_of_mem _ hz)) fun ys hl hp => by
    rw [List.append_assoc]
    exact q (y :: ys) (congrArg Nat.succ hl) fun z hz => by
      rcases List.mem_cons.mp hz with e | hz
      · rw [e]
        exact hy
      · exact hp z hz
theorem filC_ok {body : α → (Option β → Prop) → Prop} {k : List β → Prop} (g : α → Option β) : ∀ {xs : List α} {acc : List β}, (∀ x ∈ xs, ∀ k' : Option β → Prop, k' (g x) → body x k') → k (acc ++ xs.filterMap g) → filC body xs acc k
  | [], acc, _, q => by
    rw [List.filterMap_nil, List.append_nil] at q
    exact q
  | x :: xs, acc, h, q => h x List.mem_cons_self _ (by
    show match g x with | some y => filC body xs (acc ++ [y]) k | none => filC body xs acc k
    cases e : g x with
    | none => exact filC_ok g (fun y hy => h y (List.mem_cons_of_mem _ hy)) (by rw [List.filterMap_cons_none e] at q; exact q)
    | some y => exact filC_ok g (fun y hy => h y (List.mem_cons_of_mem _ hy)) (by rw [List.filterMap_cons_some e] at q; rw [List.append_assoc]; exact q))
theorem forC_ok {body : α → S → (S → Prop) → Prop} {k : S → Prop} (I : S → Prop) : ∀ {xs : List α} {s0 : S}, (∀ x ∈ xs, ∀ (s : S) (k' : S → Prop), I s → (∀ s', I s' → k' s') → body x s k') → I s0 → (∀ s, I s → k s) → forC body xs s0 k
  | [], s0, _, i, q => q s0 i
  | x :: xs, s0, h, i, q => h x List.mem_cons_self s0 _ i fun s' i' => forC_ok I (fun y hy => h y (List.mem_cons_of_mem _ hy)) i' q
theorem whileC_ok {body : S → (S → Prop) → (S → Prop) → Prop} {k : S → Prop} (I : S → Prop) (μ : S → Nat) (h : ∀ (s : S) (k1 : S → Prop), I s → (∀ s', I s' → μ s' < μ s → k1 s') → body s k1 k) {s0 : S} (i : I s0) : ∃ n, whileC body n s0 k := by
  have go : ∀ (n : Nat) (s : S), μ s < n → I s → whileC body n s k := by
    intro n
    induction n with
    | zero => intro s hs; omega
    | succ n ih => intro s hs is; exact h s _ is fun s' is' hl => ih s' (by omega) is'
  exact ⟨_, go _ s0 (Nat.lt_succ_self _) i⟩
theorem rangeI_mem {lo hi x : Int} (h : x ∈ rangeI lo hi) : lo ≤ x ∧ x < hi := by
  unfold rangeI at h
  obtain ⟨i, hi', e⟩ := List.mem_map.mp h
  have := List.mem_range.mp hi'
  omega
end
end Wm
namespace Lw
open PySem PySem.Spec PyProof.Rows L2 Rx
abbrev St := L2.St
def topS (i : Nat) : Stmt := PySem.Challenge.pw_ringrows_k26_whole_words_that_part_late.main.body.getD i (.Pass ⟨0, 0, 0, 0⟩)
abbrev s_is_marks : Stmt := (topS 9)
abbrev s_check_part : Stmt := (topS 16)
abbrev s_draw : Stmt := (topS 22)
abbrev s_pick : Stmt := (topS 23)
abbrev s_turned : Stmt := (topS 30)
abbrev s_signs : Stmt := (topS 24)
abbrev s_late : Stmt := (topS 31)
abbrev s_alike : Stmt := (topS 28)
abbrev s_bent : Stmt := (topS 32)
abbrev s_shortest_said : Stmt := (topS 19)
abbrev s_Word_reduced : Stmt := (inClass (topS 13) 9)
abbrev s_Word_repr : Stmt := (inClass (topS 13) 12)
abbrev s_mixed : Stmt := (topS 33)
abbrev s_least : Stmt := (topS 26)
abbrev s_line : Stmt := (topS 27)
abbrev s_due : Stmt := (topS 29)
abbrev s_Word_eq : Stmt := (inClass (topS 13) 10)
abbrev s_same_rows : Stmt := (topS 14)
abbrev s_Word_least : Stmt := (inClass (topS 13) 4)
abbrev s_is_integer : Stmt := (topS 8)
abbrev s_check_places : Stmt := (topS 17)
abbrev s_Word_row : Stmt := (inClass (topS 13) 5)
abbrev s_first_difference : Stmt := (topS 18)
abbrev s_first_unlike_place : Stmt := (topS 15)
abbrev s_pairs_right : Stmt := (topS 34)
abbrev s_right : Stmt := (topS 35)
abbrev s_pot : Stmt := (topS 21)
abbrev s_law : Stmt := (topS 36)
abbrev s_Word_init : Stmt := (inClass (topS 13) 0)
theorem sc_is_marks : FnScope ["value"] ["value"] (defScope s_is_marks) := ⟨rfl, rfl, rfl, by decide +kernel, rfl, by decide +kernel, by decide +kernel⟩
theorem sc_check_part : FnScope ["marks"] ["marks"] (defScope s_check_part) := ⟨rfl, rfl, rfl, by decide +kernel, rfl, by decide +kernel, by decide +kernel⟩
theorem sc_draw : FnScope ["_law_pot_here", "_law_size", "_law_digit"] ["_law_pot_here", "_law_size"] (defScope s_draw) := ⟨rfl, rfl, rfl, by decide +kernel, rfl, by decide +kernel, by decide +kernel⟩
theorem sc_pick : FnScope ["_law_pot_here", "_law_some"] ["_law_pot_here", "_law_some"] (defScope s_pick) := ⟨rfl, rfl, rfl, by decide +kernel, rfl, by decide +kernel, by decide +kernel⟩
theorem sc_turned : FnScope ["_law_signs_here", "_law_sign"] ["_law_signs_here"] (defScope s_turned) := ⟨rfl, rfl, rfl, by decide +kernel, rfl, by decide +kernel, by decide +kernel⟩
theorem sc_signs : FnScope ["_law_pot_here", "_law_few", "_law_many", "_law_turn"] ["_law_pot_here", "_law_few", "_law_many"] (defScope s_signs) := ⟨rfl, rfl, rfl, by decide +kernel, rfl, by decide +kernel, by decide +kernel⟩
theorem sc_late : FnScope ["_law_pot_here", "_law_menu", "_law_inner", "_law_other", "_law_back", "_law_wide", "_law_ahead", "_law_at", "_law_lead", "_law_end"] ["_law_pot_here"] (defScope s_late) := ⟨rfl, rfl, rfl, by decide +kernel, rfl, by decide +kernel, by decide +kernel⟩
theorem sc_alike : FnScope ["_law_pot_here", "_law_parts_here", "_law_start", "_law_inner", "_law_end", "_law_way"] ["_law_pot_here", "_law_parts_here"] (defScope s_alike) := ⟨rfl, rfl, rfl, by decide +kernel, rfl, by decide +kernel, by decide +kernel⟩
theorem sc_bent : FnScope ["_law_pot_here", "_law_parts_here", "_law_some", "_law_which", "_law_signs_here", "_law_at", "_law_bent_here"] ["_law_pot_here", "_law_parts_here"] (defScope s_bent) := ⟨rfl, rfl, rfl, by decide +kernel, rfl, by decide +kernel, by decide +kernel⟩
theorem sc_shortest_said : FnScope ["middle", "length"] ["middle"] (defScope s_shortest_said) := ⟨rfl, rfl, rfl, by decide +kernel, rfl, by decide +kernel, by decide +kernel⟩
theorem sc_Word_reduced : FnScope ["self", "head", "middle", "tail"] ["self"] (defScope s_Word_reduced) := ⟨rfl, rfl, rfl, by decide +kernel, rfl, by decide +kernel, by decide +kernel⟩
theorem sc_Word_repr : FnScope ["self"] ["self"] (defScope s_Word_repr) := ⟨rfl, rfl, rfl, by decide +kernel, rfl, by decide +kernel, by decide +kernel⟩
theorem sc_mixed : FnScope ["_law_pot_here", "_law_some", "_law_left", "_law_turn"] ["_law_pot_here", "_law_some"] (defScope s_mixed) := ⟨rfl, rfl, rfl, by decide +kernel, rfl, by decide +kernel, by decide +kernel⟩
theorem sc_least : FnScope ["_law_parts_here"] ["_law_parts_here"] (defScope s_least) := ⟨rfl, rfl, rfl, by decide +kernel, rfl, by decide +kernel, by decide +kernel⟩
theorem sc_line : FnScope ["_law_parts_here", "_law_size", "_law_inner", "_law_inside"] ["_law_parts_here", "_law_size"] (defScope s_line) := ⟨rfl, rfl, rfl, by decide +kernel, rfl, by decide +kernel, by decide +kernel⟩
theorem sc_due : FnScope ["_law_parts_here", "_law_others", "_law_low", "_law_size", "_law_line_here", "_law_mate", "_law_at"] ["_law_parts_here", "_law_others"] (defScope s_due) := ⟨rfl, rfl, rfl, by decide +kernel, rfl, by decide +kernel, by decide +kernel⟩
theorem sc_Word_eq : FnScope ["self", "other"] ["self", "other"] (defScope s_Word_eq) := ⟨rfl, rfl, rfl, by decide +kernel, rfl, by decide +kernel, by decide +kernel⟩
theorem sc_same_rows : FnScope ["one", "other"] ["one", "other"] (defScope s_same_rows) := ⟨rfl, rfl, rfl, by decide +kernel, rfl, by decide +kernel, by decide +kernel⟩
theorem sc_Word_least : FnScope ["self"] ["self"] (defScope s_Word_least) := ⟨rfl, rfl, rfl, by decide +kernel, rfl, by decide +kernel, by decide +kernel⟩
theorem sc_is_integer : FnScope ["value"] ["value"] (defScope s_is_integer) := ⟨rfl, rfl, rfl, by decide +kernel, rfl, by decide +kernel, by decide +kernel⟩
theorem sc_check_places : FnScope ["word", "places"] ["word", "places"] (defScope s_check_places) := ⟨rfl, rfl, rfl, by decide +kernel, rfl, by decide +kernel, by decide +kernel⟩
theorem sc_Word_row : FnScope ["self", "places", "between"] ["self", "places"] (defScope s_Word_row) := ⟨rfl, rfl, rfl, by decide +kernel, rfl, by decide +kernel, by decide +kernel⟩
theorem sc_first_difference : FnScope ["row", "other", "place"] ["row", "other"] (defScope s_first_difference) := ⟨rfl, rfl, rfl, by decide +kernel, rfl, by decide +kernel, by decide +kernel⟩
theorem sc_first_unlike_place : FnScope ["one", "other", "places"] ["one", "other"] (defScope s_first_unlike_place) := ⟨rfl, rfl, rfl, by decide +kernel, rfl, by decide +kernel, by decide +kernel⟩
theorem sc_pairs_right : FnScope ["_law_made", "_law_some", "_law_pairs", "_law_k", "_law_j", "_law_due_here", "_law_told"] ["_law_made", "_law_some", "_law_pairs"] (defScope s_pairs_right) := ⟨rfl, rfl, rfl, by decide +kernel, rfl, by decide +kernel, by decide +kernel⟩
theorem sc_right : FnScope ["_law_pot_here", "_law_some", "_law_sign", "_law_sizes", "_law_made", "_law_kept", "_law_pairs", "_law_k", "_law_parts_here", "_law_one", "_law_j"] ["_law_pot_here"] (defScope s_right) := ⟨rfl, rfl, rfl, by decide +kernel, rfl, by decide +kernel, by decide +kernel⟩
theorem sc_pot : FnScope ["_law_script", "_law_k", "_law_cell"] ["_law_script", "_law_k"] (defScope s_pot) := ⟨rfl, rfl, rfl, by decide +kernel, rfl, by decide +kernel, by decide +kernel⟩
theorem sc_law : FnScope ["_law_script", "_law_k"] ["_law_script"] (defScope s_law) := ⟨rfl, rfl, rfl, by decide +kernel, rfl, by decide +kernel, by decide +kernel⟩
theorem sc_Word_init : FnScope ["self", "head", "middle", "tail"] ["self", "head", "middle", "tail"] (defScope s_Word_init) := ⟨rfl, rfl, rfl, by decide +kernel, rfl, by decide +kernel, by decide +kernel⟩
structure Ad where
  a_is_marks : Addr
  d_is_marks : FuncData
  a_check_part : Addr
  d_check_part : FuncData
  a_draw : Addr
  d_draw : FuncData
  a_pick : Addr
  d_pick : FuncData
  a_turned : Addr
  d_turned : FuncData
  a_signs : Addr
  d_signs : FuncData
  a_late : Addr
  d_late : FuncData
  a_alike : Addr
  d_alike : FuncData
  a_bent : Addr
  d_bent : FuncData
  a_shortest_said : Addr
  d_shortest_said : FuncData
  a_Word_reduced : Addr
  d_Word_reduced : FuncData
  a_Word_repr : Addr
  d_Word_repr : FuncData
  a_mixed : Addr
  d_mixed : FuncData
  a_least : Addr
  d_least : FuncData
  a_line : Addr
  d_line : FuncData
  a_due : Addr
  d_due : FuncData
  a_Word_eq : Addr
  d_Word_eq : FuncData
  a_same_rows : Addr
  d_same_rows : FuncData
  a_Word_least : Addr
  d_Word_least : FuncData
  a_is_integer : Addr
  d_is_integer : FuncData
  a_check_places : Addr
  d_check_places : FuncData
  a_Word_row : Addr
  d_Word_row : FuncData
  a_first_difference : Addr
  d_first_difference : FuncData
  a_first_unlike_place : Addr
  d_first_unlike_place : FuncData
  a_pairs_right : Addr
  d_pairs_right : FuncData
  a_right : Addr
  d_right : FuncData
  a_pot : Addr
  d_pot : FuncData
  a_law : Addr
  d_law : FuncData
  a_Word_init : Addr
  d_Word_init : FuncData
  c_Word : Addr
  pa_Word_least : Addr
structure Txt (w : World) (K : PySem.W.Frag) (mg : Str → Option Value) (A : Ad) : Prop where
  F_is_marks : Fun K "is_marks" "is_marks" s_is_marks A.a_is_marks A.d_is_marks
  b_is_marks : Binds K A.d_is_marks ["value"] []
  g_is_marks : mg "is_marks" = some (.ref A.a_is_marks)
  F_check_part : Fun K "_check_part" "_check_part" s_check_part A.a_check_part A.d_check_part
  b_check_part : Binds K A.d_check_part ["marks"] []
  g_check_part : mg "_check_part" = some (.ref A.a_check_part)
  F_draw : Fun K "_law_draw" "_law_draw" s_draw A.a_draw A.d_draw
  b_draw : Binds K A.d_draw ["_law_pot_here", "_law_size"] []
  g_draw : mg "_law_draw" = some (.ref A.a_draw)
  F_pick : Fun K "_law_pick" "_law_pick" s_pick A.a_pick A.d_pick
  b_pick : Binds K A.d_pick ["_law_pot_here", "_law_some"] []
  g_pick : mg "_law_pick" = some (.ref A.a_pick)
  F_turned : Fun K "_law_turned" "_law_turned" s_turned A.a_turned A.d_turned
  b_turned : Binds K A.d_turned ["_law_signs_here"] []
  g_turned : mg "_law_turned" = some (.ref A.a_turned)
  F_signs : Fun K "_law_signs" "_law_signs" s_signs A.a_signs A.d_signs
  b_signs : Binds K A.d_signs ["_law_pot_here", "_law_few", "_law_many"] []
  g_signs : mg "_law_signs" = some (.ref A.a_signs)
  F_late : Fun K "_law_late" "_law_late" s_late A.a_late A.d_late
  b_late : Binds K A.d_late ["_law_pot_here"] []
  g_late : mg "_law_late" = some (.ref A.a_late)
  F_alike : Fun K "_law_alike" "_law_alike" s_alike A.a_alike A.d_alike
  b_alike : Binds K A.d_alike ["_law_pot_here", "_law_parts_here"] []
  g_alike : mg "_law_alike" = some (.ref A.a_alike)
  F_bent : Fun K "_law_bent" "_law_bent" s_bent A.a_bent A.d_bent
  b_bent : Binds K A.d_bent ["_law_pot_here", "_law_parts_here"] []
  g_bent : mg "_law_bent" = some (.ref A.a_bent)
  F_shortest_said : Fun K "_shortest_said" "_shortest_said" s_shortest_said A.a_shortest_said A.d_shortest_said
  b_shortest_said : Binds K A.d_shortest_said ["middle"] []
  g_shortest_said : mg "_shortest_said" = some (.ref A.a_shortest_said)
  F_Word_reduced : Fun K "reduced" "Word.reduced" s_Word_reduced A.a_Word_reduced A.d_Word_reduced
  b_Word_reduced : Binds K A.d_Word_reduced ["self"] []
  m_Word_reduced : Meth K A.c_Word "reduced" A.a_Word_reduced
  F_Word_repr : Fun K "__repr__" "Word.__repr__" s_Word_repr A.a_Word_repr A.d_Word_repr
  b_Word_repr : Binds K A.d_Word_repr ["self"] []
  m_Word_repr : Meth K A.c_Word "__repr__" A.a_Word_repr
  F_mixed : Fun K "_law_mixed" "_law_mixed" s_mixed A.a_mixed A.d_mixed
  b_mixed : Binds K A.d_mixed ["_law_pot_here", "_law_some"] []
  g_mixed : mg "_law_mixed" = some (.ref A.a_mixed)
  F_least : Fun K "_law_least" "_law_least" s_least A.a_least A.d_least
  b_least : Binds K A.d_least ["_law_parts_here"] []
  g_least : mg "_law_least" = some (.ref A.a_least)
  F_line : Fun K "_law_line" "_law_line" s_line A.a_line A.d_line
  b_line : Binds K A.d_line ["_law_parts_here", "_law_size"] []
  g_line : mg "_law_line" = some (.ref A.a_line)
  F_due : Fun K "_law_due" "_law_due" s_due A.a_due A.d_due
  b_due : Binds K A.d_due ["_law_parts_here", "_law_others"] []
  g_due : mg "_law_due" = some (.ref A.a_due)
  F_Word_eq : Fun K "__eq__" "Word.__eq__" s_Word_eq A.a_Word_eq A.d_Word_eq
  b_Word_eq : Binds K A.d_Word_eq ["self", "other"] []
  m_Word_eq : Meth K A.c_Word "__eq__" A.a_Word_eq
  F_same_rows : Fun K "same_rows" "same_rows" s_same_rows A.a_same_rows A.d_same_rows
  b_same_rows : Binds K A.d_same_rows ["one", "other"] []
  g_same_rows : mg "same_rows" = some (.ref A.a_same_rows)
  F_Word_least : Fun K "least" "Word.least" s_Word_least A.a_Word_least A.d_Word_least
  b_Word_least : Binds K A.d_Word_least ["self"] []
  p_Word_least : PropOf K A.c_Word "least" A.pa_Word_least A.a_Word_least
  F_is_integer : Fun K "is_integer" "is_integer" s_is_integer A.a_is_integer A.d_is_integer
  b_is_integer : Binds K A.d_is_integer ["value"] []
  g_is_integer : mg "is_integer" = some (.ref A.a_is_integer)
  F_check_places : Fun K "_check_places" "_check_places" s_check_places A.a_check_places A.d_check_places
  b_check_places : Binds K A.d_check_places ["word", "places"] []
  g_check_places : mg "_check_places" = some (.ref A.a_check_places)
  F_Word_row : Fun K "row" "Word.row" s_Word_row A.a_Word_row A.d_Word_row
  b_Word_row : Binds K A.d_Word_row ["self", "places"] []
  m_Word_row : Meth K A.c_Word "row" A.a_Word_row
  F_first_difference : Fun K "_first_difference" "_first_difference" s_first_difference A.a_first_difference A.d_first_difference
  b_first_difference : Binds K A.d_first_difference ["row", "other"] []
  g_first_difference : mg "_first_difference" = some (.ref A.a_first_difference)
  F_first_unlike_place : Fun K "first_unlike_place" "first_unlike_place" s_first_unlike_place A.a_first_unlike_place A.d_first_unlike_place
  b_first_unlike_place : Binds K A.d_first_unlike_place ["one", "other"] []
  g_first_unlike_place : mg "first_unlike_place" = some (.ref A.a_first_unlike_place)
  F_pairs_right : Fun K "_law_pairs_right" "_law_pairs_right" s_pairs_right A.a_pairs_right A.d_pairs_right
  b_pairs_right : Binds K A.d_pairs_right ["_law_made", "_law_some", "_law_pairs"] []
  g_pairs_right : mg "_law_pairs_right" = some (.ref A.a_pairs_right)
  F_right : Fun K "_law_right" "_law_right" s_right A.a_right A.d_right
  b_right : Binds K A.d_right ["_law_pot_here"] []
  g_right : mg "_law_right" = some (.ref A.a_right)
  F_pot : Fun K "_law_pot" "_law_pot" s_pot A.a_pot A.d_pot
  b_pot : Binds K A.d_pot ["_law_script", "_law_k"] []
  g_pot : mg "_law_pot" = some (.ref A.a_pot)
  F_law : Fun K "law" "law" s_law A.a_law A.d_law
  b_law : Binds K A.d_law ["_law_script"] []
  g_law : mg "law" = some (.ref A.a_law)
  F_Word_init : Fun K "__init__" "Word.__init__" s_Word_init A.a_Word_init A.d_Word_init
  b_Word_init : Binds K A.d_Word_init ["self", "head", "middle", "tail"] []
  cl_Word : Cls K A.c_Word
  g_Word : mg "Word" = some (.ref A.c_Word)
  mk_Word : Mk K A.c_Word A.a_Word_init
  na_Word__head : NoAttr K A.c_Word "_head"
  na_Word__middle : NoAttr K A.c_Word "_middle"
  na_Word__tail : NoAttr K A.c_Word "_tail"
  ic_Word : IsC K A.c_Word
  ow_Word_repr : OwnText K A.c_Word "__repr__" A.a_Word_repr
  oe_Word : OwnEq K A.c_Word A.a_Word_eq
  z_abs : mg "abs" = none
  z_all : mg "all" = none
  z_bool : mg "bool" = none
  z_divmod : mg "divmod" = none
  z_int : mg "int" = none
  z_isinstance : mg "isinstance" = none
  z_len : mg "len" = none
  z_list : mg "list" = none
  z_max : mg "max" = none
  z_min : mg "min" = none
  z_range : mg "range" = none
  z_repr : mg "repr" = none
  z_str : mg "str" = none
  c_MOST_MARKS : ∃ u, mg "MOST_MARKS" = some u ∧ RelV (.int 4) u
  c_MOST_PLACES : ∃ u, mg "MOST_PLACES" = some u ∧ RelV (.int 2000) u
abbrev ns_Word : List Str := ["_head", "_middle", "_tail"]
theorem nd_Word : ns_Word.Nodup := by decide +kernel
abbrev eWord (A : Ad) (x : (Str × Str × Str)) : D := .ins A.c_Word ns_Word [(D.v (V.str x.1)), (D.v (V.str x.2.1)), (D.v (V.str x.2.2))]
def M_is_marks (x_value : Str) (KM : Bool → Prop) : Prop :=
  (x_value.length ≤ sizeLine ∧ (KM (decide (V.int ((Txt.count x_value ("h" : Str) : Int) + (Txt.count x_value ("a" : Str) : Int)) = V.int (x_value.length : Int)))))
def sp_is_marks (A : Ad) : Sp := fun vs H Q _ => ∃ (ms : List Addr) (x_value : Str) (KM : Bool → Prop), vs = [V.str x_value] ∧ Wd ms [] [] H H ∧ M_is_marks x_value KM ∧ ∀ (r : Bool) (u : V) (H1 : Hp), KM r → Ret [] H H1 → rep ms H1 (D.v (V.bl r)) u → Q u H1
set_option maxHeartbeats 16000000 in
theorem ok_is_marks {P : Program} {w : World} {K : PySem.W.Frag} {mg : Str → Option Value} {base : Heap} {A : Ad} (T : Txt w K mg A) : FnOk P w K mg base CX0 1 A.a_is_marks A.d_is_marks ["value"] (sp_is_marks A) := by
  refine T.F_is_marks.ok sc_is_marks (fun vs H Q E h => ?_) (fun cdv A_ outer s_ H_0 vs Q E hr h => ?_)
  · obtain ⟨ms, x_value, KM, rfl, _⟩ := h
    rfl
  · obtain ⟨ms, x_value, KM, rfl, hW, hM, hQ⟩ := h
    unfold M_is_marks at hM
    refine ⟨_, (pss_one (ps_ret (pe_and (pe_callB (call_isiK (K := K) rfl) (by rfl) T.z_isinstance (by decide +kernel) (pa_cons (pv 0) (pa_cons (pe_bltn (v := .ty "str") (by rfl) T.z_str (by decide +kernel) rfl) pa_nil))) (pe_one (pe_cmpR op_eq (pe_op op_add (pe_m1 PySem.F.slot_str_count PySem.F.type_str_count mt_count (pv 0) pe_str) (pe_m1 PySem.F.slot_str_count PySem.F.type_str_count mt_count (pv 0) pe_str)) (pe_callB call_len_str (by rfl) T.z_len PySem.boot_len (pa_cons (pv 0) pa_nil)) (nomark _)))))), ?_⟩
    refine ⟨_, rfl, ?_⟩
    refine ⟨_, _, _, _, true, rfl, .ty _, .base (.str _), kit_ty (by decide +kernel), ?_⟩
    refine ⟨_, rfl, ?_⟩
    refine iteT ?_
    refine ⟨_, rfl, ?_⟩
    refine ⟨⟨_, rfl⟩, ?_⟩
    refine ⟨_, _, rfl, rfl, ?_⟩
    refine ⟨_, rfl, ?_⟩
    refine ⟨⟨_, rfl⟩, ?_⟩
    refine ⟨_, _, rfl, rfl, ?_⟩
    refine ⟨_, _, rfl, rfl, ?_⟩
    refine ⟨_, rfl, ?_⟩
    obtain ⟨g1, hM⟩ := hM
    refine ⟨_, rfl, g1, ?_⟩
    refine ⟨rfl, ?_⟩
    exact hQ (decide (V.int ((Txt.count x_value ("h" : Str) : Int) + (Txt.count x_value ("a" : Str) : Int)) = V.int (x_value.length : Int))) _ _ hM hW.out rep_v
def M_check_part (x_marks : Str) (KM : Unit → Prop) : Prop :=
  (M_is_marks x_marks fun r1 => (if (!r1) = true then False else (x_marks.length ≤ sizeLine ∧ (if (decide ((4 : Int) < (x_marks.length : Int))) = true then False else (KM ())))))
def sp_check_part (A : Ad) : Sp := fun vs H Q _ => ∃ (ms : List Addr) (x_marks : Str) (KM : Unit → Prop), vs = [V.str x_marks] ∧ Wd ms [] [] H H ∧ M_check_part x_marks KM ∧ ∀ (r : Unit) (u : V) (H1 : Hp), KM r → Ret [] H H1 → rep ms H1 (D.v V.non) u → Q u H1
set_option maxHeartbeats 16000000 in
theorem ok_check_part {P : Program} {w : World} {K : PySem.W.Frag} {mg : Str → Option Value} {base : Heap} {A : Ad} (T : Txt w K mg A) : FnOk P w K mg base CX0 2 A.a_check_part A.d_check_part ["marks"] (sp_check_part A) := by
  refine T.F_check_part.ok sc_check_part (fun vs H Q E h => ?_) (fun cdv A_ outer s_ H_0 vs Q E hr h => ?_)
  · obtain ⟨ms, x_marks, KM, rfl, _⟩ := h
    rfl
  · obtain ⟨ms, x_marks, KM, rfl, hW, hM, hQ⟩ := h
    unfold M_check_part at hM
    refine ⟨_, (pss_one (ps_if (PW.pt (pw_or (pt_not (pt_val (pe_call (ok_is_marks T) (hr.mono (by decide)) (by rfl) T.g_is_marks T.F_is_marks.kp T.b_is_marks .nil pass0 (pa_cons (pv 0) pa_nil)))) (pw_or1 (pt_cmpR op_gt (pe_callB call_len_str (by rfl) T.z_len PySem.boot_len (pa_cons (pv 0) pa_nil)) (C8.pe_gc (by rfl) T.c_MOST_MARKS) (nomark _))))) (pss_one ps_never) pss_nil)), ?_⟩
    refine ⟨_, rfl, ?_⟩
    refine ⟨ms, x_marks, _, rfl, hW.enter0, hM, fun r1 u4 H5 hM e3 h2 => ?_⟩
    replace hW := hW.ret0 e3
    obtain rfl := of_v h2
    refine ⟨_, rfl, ?_⟩
    refine ite3 hM (fun hM => ?_) (fun hM => ?_)
    · skip
      refine iteT ?_
      exact hM
    · skip
      refine ⟨_, rfl, ?_⟩
      obtain ⟨g6, hM⟩ := hM
      refine ⟨_, rfl, g6, ?_⟩
      refine ⟨_, _, rfl, rfl, ?_⟩
      refine ⟨_, rfl, ?_⟩
      refine ite3 hM (fun hM => ?_) (fun hM => ?_)
      · skip
        exact hM
      · skip
        exact hQ () _ _ hM hW.out rep_v
/-! ### a word is made -/
def M_Word_init (h m t : Str) : Prop := M_check_part h fun _ => M_check_part m fun _ => if decide (V.str m = V.str ("" : Str)) = true then False else M_check_part t fun _ => True
def sp_Word_init (A : Ad) : Sp := fun vs H Q _ => ∃ (p dx : Addr) (h m t : Str), vs = [.ref p, .str h, .str m, .str t] ∧ H p = some (.ins A.c_Word dx []) ∧ M_Word_init h m t ∧
  ∀ H1 : Hp, (∀ a o, a ≠ p → H a = some o → H1 a = some o) → H1 p = some (.ins A.c_Word dx (ns_Word.zip [.str h, .str m, .str t])) → (∀ a, H a ≠ none → H1 a ≠ none) → Q .non H1
theorem put3 {a b c : Str} {x y z : V} (h1 : ¬ a = b) (h2 : ¬ a = c) (h3 : ¬ b = c) : putF c z (putF b y (putF a x [])) = [(a, x), (b, y), (c, z)] := by
  simp [putF, h1, h2, h3]
theorem ok_Word_init {P : Program} {w : World} {K : PySem.W.Frag} {mg : Str → Option Value} {base : Heap} {A : Ad} (T : Txt w K mg A) : FnOk P w K mg base CX0 3 A.a_Word_init A.d_Word_init ["self", "head", "middle", "tail"] (sp_Word_init A) := by
  refine T.F_Word_init.ok sc_Word_init (fun vs H Q E h => ?_) (fun cdv A_ outer s_ H_0 vs Q E hr h => ?_)
  · obtain ⟨p, dx, hd, md, tl, rfl, _⟩ := h
    rfl
  · obtain ⟨p, dx, hd, md, tl, rfl, hp, hM, hQ⟩ := h
    have wd : ∀ H : Hp, Wd [] [] [] H H := fun H => ⟨fun _ _ _ h => h, fun _ h => h, fun _ h => absurd h List.not_mem_nil, fun _ h => absurd h List.not_mem_nil, fun _ h => absurd h List.not_mem_nil, fun _ h => absurd h List.not_mem_nil⟩
    refine ⟨_, pss_cons (ps_expr (pe_call (ok_check_part T) (hr.mono (by decide)) (by rfl) T.g_check_part T.F_check_part.kp T.b_check_part .nil pass0 (pa_cons (pv 1) pa_nil)))
      (pss_cons (ps_expr (pe_call (ok_check_part T) (hr.mono (by decide)) (by rfl) T.g_check_part T.F_check_part.kp T.b_check_part .nil pass0 (pa_cons (pv 2) pa_nil)))
      (pss_cons (ps_if (pt_cmpR op_eq (pv 2) pe_str (nomark _)) (pss_one ps_never) pss_nil)
      (pss_cons (ps_expr (pe_call (ok_check_part T) (hr.mono (by decide)) (by rfl) T.g_check_part T.F_check_part.kp T.b_check_part .nil pass0 (pa_cons (pv 3) pa_nil)))
      (pss_cons (ps_fld (pv 0) (pv 1) rfl) (pss_cons (ps_fld (pv 0) (pv 2) rfl) (pss_one (ps_fld (pv 0) (pv 3) rfl))))))), ?_⟩
    refine ⟨_, rfl, [], hd, _, rfl, wd _, hM, fun r1 u1 H1 hM e1 _ => ?_⟩
    refine ⟨_, rfl, [], md, _, rfl, wd _, hM, fun r2 u2 H2 hM e2 _ => ?_⟩
    refine ⟨_, rfl, rfl, _, rfl, ?_⟩
    refine ite3 hM (fun hM => hM) (fun hM => ?_)
    refine ⟨_, rfl, [], tl, _, rfl, wd _, hM, fun r3 u3 H3 hM e3 _ => ?_⟩
    have hp3 : H3 p = some (.ins A.c_Word dx []) := e3.keep (e2.keep (e1.keep hp))
    refine ⟨_, rfl, _, rfl, p, A.c_Word, dx, _, rfl, hp3, T.cl_Word, T.na_Word__head, (by decide), ?_⟩
    refine ⟨_, rfl, _, rfl, p, A.c_Word, dx, _, rfl, upd_same, T.cl_Word, T.na_Word__middle, (by show 1 < 1000; decide), ?_⟩
    refine ⟨_, rfl, _, rfl, p, A.c_Word, dx, _, rfl, upd_same, T.cl_Word, T.na_Word__tail, ?_, ?_⟩
    · show (putF "_middle" _ (putF "_head" _ [])).length < 1000
      exact Nat.lt_of_le_of_lt (length_putF _ _ _) (Nat.lt_of_le_of_lt (Nat.add_le_add_right (length_putF _ _ _) 1) (by decide))
    · refine hQ _ (fun a o n h => ?_) ?_ (fun a h => ?_)
      · rw [upd_ne n, upd_ne n, upd_ne n]
        exact e3.keep (e2.keep (e1.keep h))
      · rw [upd_same]
        exact congrArg (fun l => some (HO.ins A.c_Word dx l)) (put3 (by decide +kernel) (by decide +kernel) (by decide +kernel))
      · by_cases e : a = p
        · rw [e, upd_same]
          exact fun z => nomatch z
        · rw [upd_ne e, upd_ne e, upd_ne e]
          exact e3.grow a (e2.grow a (e1.grow a h))
theorem make_Word {ms ps : List Addr} {cs : List (Addr × List V)} {H0 H : Hp} {A : Ad} {h m t : Str} {R : Prop} {Q : Addr → Hp → Prop} {E : XK} (hW : Wd ms ps cs H0 H) (hM : M_Word_init h m t ∧ R)
    (k : ∀ (x : Addr) (H1 : Hp), R → Rx.Ext H H1 → rep ms H1 (eWord A (h, m, t)) (.ref x) → Q x H1) :
    ∀ x dx, H x = none → H dx = none → dx ≠ x → sp_Word_init A (.ref x :: ([.str h, .str m, .str t] ++ [])) (upd (upd H dx (.own x)) x (.ins A.c_Word dx [])) (fun v H2 => v = .non ∧ Q x H2) E := by
  intro x dx nx ndx ne
  refine ⟨x, dx, h, m, t, rfl, upd_same, hM.1, fun H1 h1 h2 h3 => ⟨rfl, k x H1 hM.2 ⟨fun a o _ ha => ?_, fun _ z => absurd z List.not_mem_nil, fun a ha => ?_⟩ ?_⟩⟩
  · have n1 : a ≠ x := ne_of_none ha nx
    exact h1 a o n1 (by rw [upd_ne n1, upd_ne (ne_of_none ha ndx)]; exact ha)
  · refine h3 a ?_
    by_cases e : a = x
    · rw [e, upd_same]
      exact fun z => nomatch z
    · rw [upd_ne e]
      by_cases e2 : a = dx
      · rw [e2, upd_same]
        exact fun z => nomatch z
      · rw [upd_ne e2]
        exact ha
  · simp only [rep]
    exact ⟨x, dx, _, rfl, fun z => hW.tr x z nx, h2, rfl, repL_cons rep_v (repL_cons rep_v (repL_cons rep_v repL_nil))⟩

/-! ### draws: any number below the size -/
def M_draw (x_size : Int) (KM : Int → Prop) : Prop := (0 < x_size ∧ x_size < 1073741824) ∧ ∀ d : Int, 0 ≤ d → d < x_size → KM d
def sp_draw (A : Ad) : Sp := fun vs H Q _ => ∃ (ms : List Addr) (ap : Addr) (x_size : Int) (KM : Int → Prop), vs = [.ref ap, V.int x_size] ∧ Wd ms [ap] [] H H ∧ M_draw x_size KM ∧ ∀ (r : Int) (u : V) (H1 : Hp), KM r → Ret [ap] H H1 → rep ms H1 (D.v (V.int r)) u → Q u H1
theorem ret_pot1 {H : Hp} {ap : Addr} {o : HO} {i j : Int} (ha : H ap = some o) (hj : j.natAbs < 4294967296) : Ret [ap] H (upd H ap (.lst [.int i, .int j])) := by
  refine ⟨fun a u n h => ?_, fun a h => ?_, fun a h => ?_⟩
  · rw [upd_ne (fun z => n (by rw [z]; exact List.mem_singleton.mpr rfl))]
    exact h
  · rw [List.mem_singleton.mp h]
    exact ⟨i, j, upd_same, hj⟩
  · by_cases e : a = ap
    · rw [e, upd_same]
      exact fun z => nomatch z
    · rw [upd_ne e]
      exact h
theorem ret_pot2 {H : Hp} {ap p : Addr} {o u : HO} {i j : Int} (ha : H ap = some o) (np : H p = none) (hj : j.natAbs < 4294967296) : Ret [ap] H (upd (upd H p u) ap (.lst [.int i, .int j])) := by
  have e := Rx.Ext.new (o := u) np
  have h2 := ret_pot1 (i := i) (j := j) (e.keep ha) hj
  exact ⟨fun a w n h => h2.kp a w n (e.keep h), h2.pot, fun a h => h2.grow a (e.grow a h)⟩
theorem ok_draw {P : Program} {w : World} {K : PySem.W.Frag} {mg : Str → Option Value} {base : Heap} {A : Ad} (T : Txt w K mg A) : FnOk P w K mg base CX0 1 A.a_draw A.d_draw ["_law_pot_here", "_law_size"] (sp_draw A) := by
  refine T.F_draw.ok sc_draw (fun vs H Q E h => ?_) (fun cdv A_ outer s_ H_0 vs Q E hr h => ?_)
  · obtain ⟨ms, ap, x_size, KM, rfl, _⟩ := h
    rfl
  · obtain ⟨ms, ap, n, KM, rfl, hW, ⟨⟨n0, n1⟩, hM⟩, hQ⟩ := h
    obtain ⟨i, j, hp, hj⟩ := hW.pot ap (List.mem_singleton.mpr rfl)
    refine ⟨_, pss_cons (ps_if (pt_cmpR op_gt (pe_ix ix_list (pv 0) pe_int (fun _ _ => rfl)) pe_int (nomark _))
        (pss_cons (ps_asg (pe_callB call_divmod (by rfl) T.z_divmod (by decide +kernel) (pa_cons (pe_ix ix_list (pv 0) pe_int (fun _ _ => rfl)) (pa_cons (pv 1) pa_nil)))
            (pg_tup rfl (pgs_cons (pg_sub (pv 0) pe_int set_list) (pgs_cons (pg_name (i := 2) sc_draw.nd rfl (.inl rfl)) pgs_nil)))) (pss_one (ps_ret (pv 2)))) pss_nil)
      (pss_cons (ps_asg (pe_op op_mod (pe_callTy call_int1 (by rfl) T.z_int (by decide +kernel) (pa_cons (pe_op op_add (pe_op op_mul (pe_ix ix_list (pv 0) pe_int (fun _ _ => rfl)) pe_int) pe_int) pa_nil)) pe_int) (pg_sub (pv 0) pe_int set_list))
      (pss_one (ps_ret (pe_op op_mod (pe_callTy call_int1 (by rfl) T.z_int (by decide +kernel) (pa_cons (pe_op op_fdiv (pe_op op_mod (pe_callTy call_int1 (by rfl) T.z_int (by decide +kernel)
          (pa_cons (pe_op op_mul (pe_ix ix_list (pv 0) pe_int (fun _ _ => rfl)) (pe_ix ix_list (pv 0) pe_int (fun _ _ => rfl))) pa_nil)) pe_int) pe_int) pa_nil)) (pv 1))))), ?_⟩
    refine ⟨_, rfl, ap, _, 0, .int i, rfl, rfl, .inl (.inl hp), rfl, _, _, rfl, rfl, _, rfl, ?_⟩
    refine ite2 (fun c => ?_) (fun c => ?_)
    · refine ⟨_, rfl, ap, _, 0, .int i, rfl, rfl, .inl (.inl hp), rfl, _, rfl, _, _, rfl, ⟨n0, n1⟩, fun p np => ?_⟩
      have npa : ap ≠ p := ne_of_none hp np
      refine ⟨p, _, rfl, .inl (.inl upd_same), rfl, _, _, rfl, _, rfl, ap, _, 0, 0, rfl, rfl, (by rw [upd_ne npa]; exact hp), rfl, _, _, rfl, rfl, _, rfl, ?_⟩
      exact hQ (i % n) _ _ (hM _ (Int.emod_nonneg _ (by omega)) (Int.emod_lt_of_pos _ n0)) (ret_pot2 hp np hj) rep_v
    · refine ⟨_, rfl, ap, _, 1, .int j, rfl, rfl, .inl (.inl hp), rfl, _, _, rfl, rfl, .inr ⟨by decide, by decide⟩, _, _, rfl, rfl, .inl ⟨_, rfl, _, _, rfl, rfl, (by show (0 : Int) < 2147483587; decide), ?_⟩⟩
      refine ⟨_, rfl, ap, _, 1, 1, rfl, rfl, hp, rfl, ?_⟩
      refine ⟨_, rfl, ap, _, 1, _, rfl, rfl, .inl (.inl upd_same), rfl, _, rfl, ap, _, 1, _, rfl, rfl, .inl (.inl upd_same), rfl, _, _, rfl, rfl, .inl ⟨?_, ?_⟩, .inl ⟨_, rfl, _, _, rfl, rfl, (by show (0 : Int) < 2147483549; decide), _, _, rfl, rfl, ⟨by decide, by decide⟩, .inl ⟨_, rfl, _, rfl, _, _, rfl, rfl, n0, ?_⟩⟩⟩
      · omega
      · omega
      · refine hQ _ _ _ (hM _ (Int.emod_nonneg _ (by omega)) (Int.emod_lt_of_pos _ n0)) (ret_pot1 (i := i) hp ?_) rep_v
        omega

def M_pick (x_some : (List (Str × Str))) (KM : (Str × Str) → Prop) : Prop :=
  (M_draw (x_some.length : Int) fun r1 => (0 ≤ r1 ∧ ∃ g7 : Int.toNat r1 < x_some.length, ∀ x9, x9 = x_some[Int.toNat r1]'g7 → (KM x9)))
def sp_pick (A : Ad) : Sp := fun vs H Q _ => ∃ (ms : List Addr) (ap : Addr) (v_some : V) (x_some : (List (Str × Str))) (KM : (Str × Str) → Prop), vs = [.ref ap, v_some] ∧ Wd ms [ap] [] H H ∧ rep ms H (D.lst (x_some.map (fun y_ : (Str × Str) => (D.tup [(D.v (V.str y_.1)), (D.v (V.str y_.2))])))) v_some ∧ M_pick x_some KM ∧ ∀ (r : (Str × Str)) (u : V) (H1 : Hp), KM r → Ret [ap] H H1 → rep ms H1 (D.tup [(D.v (V.str r.1)), (D.v (V.str r.2))]) u → Q u H1
set_option maxHeartbeats 16000000 in
theorem ok_pick {P : Program} {w : World} {K : PySem.W.Frag} {mg : Str → Option Value} {base : Heap} {A : Ad} (T : Txt w K mg A) : FnOk P w K mg base CX0 2 A.a_pick A.d_pick ["_law_pot_here", "_law_some"] (sp_pick A) := by
  refine T.F_pick.ok sc_pick (fun vs H Q E h => ?_) (fun cdv A_ outer s_ H_0 vs Q E hr h => ?_)
  · obtain ⟨ms, ap, v_some, x_some, KM, rfl, _⟩ := h
    rfl
  · obtain ⟨ms, ap, v_some, x_some, KM, rfl, hW, h_some, hM, hQ⟩ := h
    unfold M_pick at hM
    refine ⟨_, (pss_one (ps_ret (pe_ix (ix_listK (K := K) rfl) (pv 1) (pe_call (ok_draw T) (hr.mono (by decide)) (by rfl) T.g_draw T.F_draw.kp T.b_draw .nil pass0 (pa_cons (pv 0) (pa_cons (pe_callB (call_lenK (K := K) rfl) (by rfl) T.z_len PySem.boot_len (pa_cons (pv 1) pa_nil)) pa_nil))) (fun _ _ => rfl)))), ?_⟩
    refine ⟨_, rfl, ?_⟩
    refine ⟨_, rfl, ?_⟩
    refine ⟨_, rfl, ?_⟩
    apply rep_lenL (e := (fun y_ : (Str × Str) => (D.tup [(D.v (V.str y_.1)), (D.v (V.str y_.2))]))) (xs := x_some) h_some
    refine ⟨ms, ap, (x_some.length : Int), _, rfl, hW.enterP, hM, fun r1 u4 H5 hM e3 h2 => ?_⟩
    replace h_some := rep_ret hW e3 h_some
    replace hW := hW.retP e3
    obtain rfl := of_v h2
    obtain ⟨g6, g7, hM⟩ := hM
    apply rep_ixL (e := (fun y_ : (Str × Str) => (D.tup [(D.v (V.str y_.1)), (D.v (V.str y_.2))]))) (xs := x_some) h_some g6 g7
    intro u10 h8
    obtain ⟨x9, x9e⟩ : ∃ x_, x_ = x_some[Int.toNat r1]'g7 := ⟨_, rfl⟩
    rw [← x9e] at h8
    replace hM := hM x9 x9e
    exact hQ x9 _ _ hM hW.out h8
def M_turned (x_signs_here : Str) (KM : Str → Prop) : Prop :=
  ((Rx.signs x_signs_here).length < 100000 ∧ mapC (fun (x12 : Str) (k5 : Str → Prop) => (∃ KB18 : Str → Prop, (if (decide (V.str x12 = V.str ("h" : Str))) = true then (KB18 ("a" : Str)) else (KB18 ("h" : Str))) ∧ ∀ r21 : Str, KB18 r21 → (k5 r21))) (Rx.signs x_signs_here) [] fun ys30 => ((ys30.map (·.length)).sum + ys30.length * ("" : Str).length ≤ 16777216 ∧ (KM (Txt.join ("" : Str) ys30))))
def sp_turned (A : Ad) : Sp := fun vs H Q _ => ∃ (ms : List Addr) (x_signs_here : Str) (KM : Str → Prop), vs = [V.str x_signs_here] ∧ Wd ms [] [] H H ∧ M_turned x_signs_here KM ∧ ∀ (r : Str) (u : V) (H1 : Hp), KM r → Ret [] H H1 → rep ms H1 (D.v (V.str r)) u → Q u H1
set_option maxHeartbeats 16000000 in
theorem ok_turned {P : Program} {w : World} {K : PySem.W.Frag} {mg : Str → Option Value} {base : Heap} {A : Ad} (T : Txt w K mg A) : FnOk P w K mg base CX0 1 A.a_turned A.d_turned ["_law_signs_here"] (sp_turned A) := by
  refine T.F_turned.ok sc_turned (fun vs H Q E h => ?_) (fun cdv A_ outer s_ H_0 vs Q E hr h => ?_)
  · obtain ⟨ms, x_signs_here, KM, rfl, _⟩ := h
    rfl
  · obtain ⟨ms, x_signs_here, KM, rfl, hW, hM, hQ⟩ := h
    unfold M_turned at hM
    refine ⟨_, (pss_one (ps_ret (pe_join pe_str (pe_lc (own := [("_law_sign", 1)]) (g := gName 1) rfl sc_turned.nd (pi_str (pv 0)) (blkOk_by (N := ["_law_signs_here", "_law_sign"]) (sc := defScope s_turned) (by decide +kernel)) (fun _ _ _ _ _ => pg_name (i := 1) sc_turned.nd rfl (by first | exact Or.inl rfl | exact Or.inr rfl)) (fun _ _ _ _ _ => pts_nil) (fun _ _ _ _ _ => (pe_up (pe_ifExp (pt_cmpR op_eq (pv 1) pe_str (nomark _)) pe_str pe_str))))))), ?_⟩
    refine ⟨⟨_, rfl⟩, ?_⟩
    refine ⟨_, rfl, ?_⟩
    refine ⟨_, rfl, ?_⟩
    refine fun L1 nl2 => ?_
    have nm16 := nm_new hW nl2
    refine lc_strG (L := L1) (fun n_ ys_ h_ => Wd (L1 :: ms) [] [] H_0 h_ ∧ Keep (L1 :: ms) H_0 h_ ∧ MutO (L1 :: ms) [] H_0 h_ L1 (D.lst (ys_.map (fun y_ : Str => (D.v (V.str y_))))) ∧ ys_.length ≤ n_) hM ⟨wd_cell hW nl2, keep_cell nl2 Keep.refl, mo_newL (ds := []) hW nl2 repL_nil, Nat.le_refl _⟩ ?_ ?_
    · skip
      rintro x12  n3 ys4 k5 H17 hn ⟨hW, hk6, mu7, ln8⟩ hM Nx11 hN9
      refine ⟨rfl, ?_⟩
      refine tyes_of ?_
      obtain ⟨KB18, hM, hKKB18⟩ := hM
      refine ⟨fun v H1 => ∃ r : Str, KB18 r ∧ Wd (L1 :: ms) [] [] H_0 H1 ∧ Keep (L1 :: ms) H17 H1 ∧ rep (L1 :: ms) H1 (D.v (V.str r)) v ∧ MutO (L1 :: ms) [] H_0 H1 L1 (D.lst (ys4.map (fun y_ : Str => (D.v (V.str y_))))), ?_, ?_⟩
      · skip
        have hj20 := Keep.refl (ms := (L1 :: ms)) (H := H17)
        refine ⟨_, rfl, ?_⟩
        refine ⟨rfl, ?_⟩
        refine ⟨_, rfl, ?_⟩
        refine ite3 hM (fun hM => ?_) (fun hM => ?_)
        · skip
          exact ⟨("a" : Str), hM, hW, hj20, rep_v, mu7⟩
        · skip
          exact ⟨("h" : Str), hM, hW, hj20, rep_v, mu7⟩
      · skip
        clear mu7
        rintro u23 Hj19 ⟨r21, hr, hW, hj20, h22, mu24⟩
        replace hM := hKKB18 r21 hr
        replace hk6 := Keep.trans hk6 hj20
        obtain rfl := of_v h22
        refine mo_end mu24 hn (by rw [List.length_map]; exact ln8) fun vs25 hr26 => ?_
        have mk28 := mo_setL mu24 (repL_snoc (e := (fun y_ : Str => (D.v (V.str y_)))) (xs := ys4) (y := r21) hr26 rep_v)
        replace hk6 := keep_put (o := .lst (vs25 ++ [V.str r21])) mu24.im hk6
        replace hW := wd_put (o := .lst (vs25 ++ [V.str r21])) hW mu24
        replace mu24 := mk28
        generalize upd Hj19 L1 (.lst (vs25 ++ [V.str r21])) = H29 at *
        replace mu24 : MutO (L1 :: ms) [] H_0 H29 L1 (D.lst ((ys4 ++ [r21]).map (fun y_ : Str => (D.v (V.str y_))))) := mu24
        clear mk28
        exact hN9 r21 _ hM ⟨hW, hk6, mu24, by rw [List.length_append]; exact Nat.add_le_add_right ln8 1⟩
    · skip
      rintro n3 ys30 H31 hM ⟨hW, hk6, mu7, ln8⟩
      clear hk6 ln8
      have h32 := mo_rep_dr dr_here nm16 mu7
      replace hW := wd_dr dr_here mu7.hp hW
      clear mu7
      obtain ⟨g33, hM⟩ := hM
      apply rep_join (a := ("" : Str)) (ys := ys30) h32 g33
      exact hQ (Txt.join ("" : Str) ys30) _ _ hM hW.out rep_v
def M_signs (x_few : Int) (x_many : Int) (KM : Str → Prop) : Prop :=
  (M_draw ((x_many - x_few) + (1 : Int)) fun r1 => ((rangeI (0 : Int) (x_few + r1)).length < 100000 ∧ mapC (fun (x17 : Int) (k10 : Str → Prop) => (M_draw (2 : Int) fun r23 => (("ha" : Str).length ≤ sizeLine ∧ ∃ c29, atI ("ha" : Str).cps.toList r23 = some c29 ∧ (k10 (Str.mk #[c29]))))) (rangeI (0 : Int) (x_few + r1)) [] fun ys35 => ((ys35.map (·.length)).sum + ys35.length * ("" : Str).length ≤ 16777216 ∧ (KM (Txt.join ("" : Str) ys35)))))
def sp_signs (A : Ad) : Sp := fun vs H Q _ => ∃ (ms : List Addr) (ap : Addr) (x_few : Int) (x_many : Int) (KM : Str → Prop), vs = [.ref ap, V.int x_few, V.int x_many] ∧ Wd ms [ap] [] H H ∧ M_signs x_few x_many KM ∧ ∀ (r : Str) (u : V) (H1 : Hp), KM r → Ret [ap] H H1 → rep ms H1 (D.v (V.str r)) u → Q u H1
set_option maxHeartbeats 16000000 in
theorem ok_signs {P : Program} {w : World} {K : PySem.W.Frag} {mg : Str → Option Value} {base : Heap} {A : Ad} (T : Txt w K mg A) : FnOk P w K mg base CX0 2 A.a_signs A.d_signs ["_law_pot_here", "_law_few", "_law_many"] (sp_signs A) := by
  refine T.F_signs.ok sc_signs (fun vs H Q E h => ?_) (fun cdv A_ outer s_ H_0 vs Q E hr h => ?_)
  · obtain ⟨ms, ap, x_few, x_many, KM, rfl, _⟩ := h
    rfl
  · obtain ⟨ms, ap, x_few, x_many, KM, rfl, hW, hM, hQ⟩ := h
    unfold M_signs at hM
    refine ⟨_, (pss_one (ps_ret (pe_join pe_str (pe_lc (own := [("_law_turn", 3)]) (g := gName 3) rfl sc_signs.nd (pi_rangeW1 (by rfl) T.z_range (pa_cons (pe_op op_add (pv 1) (pe_call (ok_draw T) (hr.mono (by decide)) (by rfl) T.g_draw T.F_draw.kp T.b_draw .nil pass0 (pa_cons (pv 0) (pa_cons (pe_op op_add (pe_op op_sub (pv 2) (pv 1)) pe_int) pa_nil)))) pa_nil)) (blkOk_by (N := ["_law_pot_here", "_law_few", "_law_many", "_law_turn"]) (sc := defScope s_signs) (by decide +kernel)) (fun _ _ _ _ _ => pg_name (i := 3) sc_signs.nd rfl (by first | exact Or.inl rfl | exact Or.inr rfl)) (fun _ _ _ _ _ => pts_nil) (fun _ _ _ _ _ => (pe_ix ix_str pe_str (pe_call (ok_draw T) (hr.mono (by decide)) (by rfl) T.g_draw T.F_draw.kp T.b_draw .nil pass0 (pa_cons (pv 0) (pa_cons pe_int pa_nil))) (fun _ _ => rfl))))))), ?_⟩
    refine ⟨⟨_, rfl⟩, ?_⟩
    refine ⟨_, rfl, ?_⟩
    refine ⟨_, rfl, ?_⟩
    refine ⟨_, rfl, ?_⟩
    refine ⟨_, rfl, ?_⟩
    refine ⟨_, _, rfl, rfl, ?_⟩
    refine ⟨_, _, rfl, rfl, ?_⟩
    refine ⟨ms, ap, ((x_many - x_few) + (1 : Int)), _, rfl, hW.enterP, hM, fun r1 u4 H5 hM e3 h2 => ?_⟩
    replace hW := hW.retP e3
    obtain rfl := of_v h2
    refine ⟨_, _, rfl, rfl, ?_⟩
    refine ⟨_, rfl, ?_⟩
    refine fun L6 nl7 => ?_
    have nm21 := nm_new hW nl7
    refine lc_rangeG (L := L6) (fun n_ ys_ h_ => Wd (L6 :: ms) [ap] [] H_0 h_ ∧ Keep (L6 :: ms) H5 h_ ∧ MutO (L6 :: ms) [ap] H_0 h_ L6 (D.lst (ys_.map (fun y_ : Str => (D.v (V.str y_))))) ∧ ys_.length ≤ n_) (lo := (0 : Int)) (hi := (x_few + r1)) (N := Int.toNat (x_few + r1)) (by simp) hM ⟨wd_cell hW nl7, keep_cell nl7 Keep.refl, mo_newL (ds := []) hW nl7 repL_nil, Nat.le_refl _⟩ ?_ ?_
    · skip
      rintro x17  n8 ys9 k10 H22 hn ⟨hW, hk11, mu12, ln13⟩ hM Nx16 hN14
      refine ⟨rfl, ?_⟩
      refine tyes_of ?_
      refine ⟨_, rfl, ?_⟩
      refine ⟨(L6 :: ms), ap, (2 : Int), _, rfl, hW.enterP, hM, fun r23 u26 H27 hM e25 h24 => ?_⟩
      replace hk11 := keep_ret hW e25 hk11
      replace mu12 := mo_ret hW e25 mu12
      replace hW := hW.retP e25
      obtain rfl := of_v h24
      obtain ⟨g28, hM⟩ := hM
      obtain ⟨c29, c29h, hM⟩ := hM
      refine ⟨_, _, _, rfl, rfl, g28, c29h, ?_⟩
      refine mo_end mu12 hn (by rw [List.length_map]; exact ln13) fun vs30 hr31 => ?_
      have mk33 := mo_setL mu12 (repL_snoc (e := (fun y_ : Str => (D.v (V.str y_)))) (xs := ys9) (y := (Str.mk #[c29])) hr31 rep_v)
      replace hk11 := keep_put (o := .lst (vs30 ++ [V.str (Str.mk #[c29])])) mu12.im hk11
      replace hW := wd_put (o := .lst (vs30 ++ [V.str (Str.mk #[c29])])) hW mu12
      replace mu12 := mk33
      generalize upd H27 L6 (.lst (vs30 ++ [V.str (Str.mk #[c29])])) = H34 at *
      replace mu12 : MutO (L6 :: ms) [ap] H_0 H34 L6 (D.lst ((ys9 ++ [(Str.mk #[c29])]).map (fun y_ : Str => (D.v (V.str y_))))) := mu12
      clear mk33
      exact hN14 (Str.mk #[c29]) _ hM ⟨hW, hk11, mu12, by rw [List.length_append]; exact Nat.add_le_add_right ln13 1⟩
    · skip
      rintro n8 ys35 H36 hM ⟨hW, hk11, mu12, ln13⟩
      clear hk11 ln13
      have h37 := mo_rep_dr dr_here nm21 mu12
      replace hW := wd_dr dr_here mu12.hp hW
      clear mu12
      obtain ⟨g38, hM⟩ := hM
      apply rep_join (a := ("" : Str)) (ys := ys35) h37 g38
      exact hQ (Txt.join ("" : Str) ys35) _ _ hM hW.out rep_v
def M_late (KM : (List (Str × Str × Str)) → Prop) : Prop :=
  (([(("hha" : Str), ("hhah" : Str)), (("hhah" : Str), ("hha" : Str)), (("hah" : Str), ("hahh" : Str)), (("ha" : Str), ("hah" : Str)), (("h" : Str), ("hhha" : Str)), (("hhha" : Str), ("h" : Str))] : List (Str × Str)).length + ([(("haa" : Str), ("haah" : Str)), (("hah" : Str), ("ha" : Str)), (("haha" : Str), ("hah" : Str)), (("hha" : Str), ("hh" : Str))] : List (Str × Str)).length ≤ sizeLine ∧ (M_pick (([(("hha" : Str), ("hhah" : Str)), (("hhah" : Str), ("hha" : Str)), (("hah" : Str), ("hahh" : Str)), (("ha" : Str), ("hah" : Str)), (("h" : Str), ("hhha" : Str)), (("hhha" : Str), ("h" : Str))] : List (Str × Str)) ++ ([(("haa" : Str), ("haah" : Str)), (("hah" : Str), ("ha" : Str)), (("haha" : Str), ("hah" : Str)), (("hha" : Str), ("hh" : Str))] : List (Str × Str))) fun r78 => (M_draw (2 : Int) fun r93 => (if (decide (V.int r93 = V.int (0 : Int))) = true then (M_turned r78.1 fun r98 => (M_turned r78.2 fun r103 => (M_draw (5 : Int) fun r108 => (MulOk r98 (4 : Int) ∧ ((Txt.mul r98 (4 : Int)).length ≤ sizeLine ∧ ((Txt.mul r98 (4 : Int)).length ≤ sizeLine ∧ (r98.length ≤ sizeLine ∧ (r98.length ≤ sizeLine ∧ (0 < (r98.length : Int) ∧ (M_signs (0 : Int) ((4 : Int) - r108) fun r119 => (M_signs (0 : Int) (4 : Int) fun r124 => (r98.length ≤ sizeLine ∧ (r98.length ≤ sizeLine ∧ (((cutS r98 (some ((r98.length : Int) - (r108 % (r98.length : Int)))) none).length + (cutS r98 none (some ((r98.length : Int) - (r108 % (r98.length : Int))))).length ≤ sizeLine) ∧ ((r119.length + (cutS (Txt.mul r98 (4 : Int)) (some (((Txt.mul r98 (4 : Int)).length : Int) - r108)) none).length ≤ sizeLine) ∧ (KM ([(r119, ((cutS r98 (some ((r98.length : Int) - (r108 % (r98.length : Int)))) none) ++ (cutS r98 none (some ((r98.length : Int) - (r108 % (r98.length : Int)))))), r124), ((r119 ++ (cutS (Txt.mul r98 (4 : Int)) (some (((Txt.mul r98 (4 : Int)).length : Int) - r108)) none)), r103, r124)] : List (Str × Str × Str)))))))))))))))))) else (M_draw (5 : Int) fun r151 => (MulOk r78.1 (4 : Int) ∧ ((Txt.mul r78.1 (4 : Int)).length ≤ sizeLine ∧ ((Txt.mul r78.1 (4 : Int)).length ≤ sizeLine ∧ (r78.1.length ≤ sizeLine ∧ (r78.1.length ≤ sizeLine ∧ (0 < (r78.1.length : Int) ∧ (M_signs (0 : Int) ((4 : Int) - r151) fun r162 => (M_signs (0 : Int) (4 : Int) fun r167 => (r78.1.length ≤ sizeLine ∧ (r78.1.length ≤ sizeLine ∧ (((cutS r78.1 (some ((r78.1.length : Int) - (r151 % (r78.1.length : Int)))) none).length + (cutS r78.1 none (some ((r78.1.length : Int) - (r151 % (r78.1.length : Int))))).length ≤ sizeLine) ∧ ((r162.length + (cutS (Txt.mul r78.1 (4 : Int)) (some (((Txt.mul r78.1 (4 : Int)).length : Int) - r151)) none).length ≤ sizeLine) ∧ (KM ([(r162, ((cutS r78.1 (some ((r78.1.length : Int) - (r151 % (r78.1.length : Int)))) none) ++ (cutS r78.1 none (some ((r78.1.length : Int) - (r151 % (r78.1.length : Int)))))), r167), ((r162 ++ (cutS (Txt.mul r78.1 (4 : Int)) (some (((Txt.mul r78.1 (4 : Int)).length : Int) - r151)) none)), r78.2, r167)] : List (Str × Str × Str))))))))))))))))))))
def sp_late (A : Ad) : Sp := fun vs H Q _ => ∃ (ms : List Addr) (ap : Addr) (KM : (List (Str × Str × Str)) → Prop), vs = [.ref ap] ∧ Wd ms [ap] [] H H ∧ M_late  KM ∧ ∀ (r : (List (Str × Str × Str))) (u : V) (H1 : Hp), KM r → Ret [ap] H H1 → rep ms H1 (D.lst (r.map (fun y_ : (Str × Str × Str) => (D.tup [(D.v (V.str y_.1)), (D.v (V.str y_.2.1)), (D.v (V.str y_.2.2))])))) u → Q u H1
set_option maxHeartbeats 16000000 in
theorem ok_late {P : Program} {w : World} {K : PySem.W.Frag} {mg : Str → Option Value} {base : Heap} {A : Ad} (T : Txt w K mg A) : FnOk P w K mg base CX0 3 A.a_late A.d_late ["_law_pot_here"] (sp_late A) := by
  refine T.F_late.ok sc_late (fun vs H Q E h => ?_) (fun cdv A_ outer s_ H_0 vs Q E hr h => ?_)
  · obtain ⟨ms, ap, KM, rfl, _⟩ := h
    rfl
  · obtain ⟨ms, ap, KM, rfl, hW, hM, hQ⟩ := h
    unfold M_late at hM
    refine ⟨_, (pss_cons (ps_set (i := 1) sc_late.nd rfl (by first | exact Or.inl rfl | exact Or.inr rfl) (pe_lst (pa_cons (pe_tup (pa_cons pe_str (pa_cons pe_str pa_nil))) (pa_cons (pe_tup (pa_cons pe_str (pa_cons pe_str pa_nil))) (pa_cons (pe_tup (pa_cons pe_str (pa_cons pe_str pa_nil))) (pa_cons (pe_tup (pa_cons pe_str (pa_cons pe_str pa_nil))) (pa_cons (pe_tup (pa_cons pe_str (pa_cons pe_str pa_nil))) (pa_cons (pe_tup (pa_cons pe_str (pa_cons pe_str pa_nil))) pa_nil)))))))) (pss_cons (ps_asg (pe_call (ok_pick T) (hr.mono (by decide)) (by rfl) T.g_pick T.F_pick.kp T.b_pick .nil pass0 (pa_cons (pv 0) (pa_cons (pe_op op_cat (pv 1) (pe_lst (pa_cons (pe_tup (pa_cons pe_str (pa_cons pe_str pa_nil))) (pa_cons (pe_tup (pa_cons pe_str (pa_cons pe_str pa_nil))) (pa_cons (pe_tup (pa_cons pe_str (pa_cons pe_str pa_nil))) (pa_cons (pe_tup (pa_cons pe_str (pa_cons pe_str pa_nil))) pa_nil)))))) pa_nil))) (pg_tup rfl (pgs_cons (pg_name (i := 2) sc_late.nd rfl (by first | exact Or.inl rfl | exact Or.inr rfl)) (pgs_cons (pg_name (i := 3) sc_late.nd rfl (by first | exact Or.inl rfl | exact Or.inr rfl)) pgs_nil)))) (pss_cons (ps_if (pt_cmpR op_eq (pe_call (ok_draw T) (hr.mono (by decide)) (by rfl) T.g_draw T.F_draw.kp T.b_draw .nil pass0 (pa_cons (pv 0) (pa_cons pe_int pa_nil))) pe_int (nomark _)) (pss_one (ps_par (i := 2) (j := 3) (by rfl) sc_late.nd rfl rfl (by decide) rfl rfl (pa_cons (pe_call (ok_turned T) (hr.mono (by decide)) (by rfl) T.g_turned T.F_turned.kp T.b_turned .nil pass0 (pa_cons (pv 2) pa_nil)) (pa_cons (pe_call (ok_turned T) (hr.mono (by decide)) (by rfl) T.g_turned T.F_turned.kp T.b_turned .nil pass0 (pa_cons (pv 3) pa_nil)) pa_nil)) (by rfl))) pss_nil) (pss_cons (ps_par (i := 4) (j := 5) (by rfl) sc_late.nd rfl rfl (by decide) rfl rfl (pa_cons (pe_call (ok_draw T) (hr.mono (by decide)) (by rfl) T.g_draw T.F_draw.kp T.b_draw .nil pass0 (pa_cons (pv 0) (pa_cons pe_int pa_nil))) (pa_cons (pe_op op_mulS (pv 2) pe_int) pa_nil)) (by rfl)) (pss_cons (ps_par (i := 6) (j := 7) (by rfl) sc_late.nd rfl rfl (by decide) rfl rfl (pa_cons (pe_slice sl_str (pv 5) (po_some (pe_op op_sub (pe_callB call_len_str (by rfl) T.z_len PySem.boot_len (pa_cons (pv 5) pa_nil)) (pv 4))) po_none) (pa_cons (pe_op op_sub (pe_callB call_len_str (by rfl) T.z_len PySem.boot_len (pa_cons (pv 2) pa_nil)) (pe_op op_mod (pe_callTy call_int1 (by rfl) T.z_int (by decide +kernel) (pa_cons (pv 4) pa_nil)) (pe_callB call_len_str (by rfl) T.z_len PySem.boot_len (pa_cons (pv 2) pa_nil)))) pa_nil)) (by rfl)) (pss_cons (ps_par (i := 8) (j := 9) (by rfl) sc_late.nd rfl rfl (by decide) rfl rfl (pa_cons (pe_call (ok_signs T) (hr.mono (by decide)) (by rfl) T.g_signs T.F_signs.kp T.b_signs .nil pass0 (pa_cons (pv 0) (pa_cons pe_int (pa_cons (pe_op op_sub pe_int (pv 4)) pa_nil)))) (pa_cons (pe_call (ok_signs T) (hr.mono (by decide)) (by rfl) T.g_signs T.F_signs.kp T.b_signs .nil pass0 (pa_cons (pv 0) (pa_cons pe_int (pa_cons pe_int pa_nil)))) pa_nil)) (by rfl)) (pss_one (ps_ret (pe_lst (pa_cons (pe_tup (pa_cons (pv 8) (pa_cons (pe_op op_add_str (pe_slice sl_str (pv 2) (po_some (pv 7)) po_none) (pe_slice sl_str (pv 2) po_none (po_some (pv 7)))) (pa_cons (pv 9) pa_nil)))) (pa_cons (pe_tup (pa_cons (pe_op op_add_str (pv 8) (pv 6)) (pa_cons (pv 3) (pa_cons (pv 9) pa_nil)))) pa_nil))))))))))), ?_⟩
    refine ⟨(by show 2 ≤ sizeLine; decide), ?_⟩
    intro p1 n5
    have e2 := Rx.Ext.new (H := H_0) (o := (HO.tup [V.str ("hha" : Str), V.str ("hhah" : Str)])) n5
    have hp3 : upd H_0 p1 (HO.tup [V.str ("hha" : Str), V.str ("hhah" : Str)]) p1 = some (HO.tup [V.str ("hha" : Str), V.str ("hhah" : Str)]) := upd_same
    generalize upd H_0 p1 (HO.tup [V.str ("hha" : Str), V.str ("hhah" : Str)]) = H6 at e2 hp3 ⊢
    have h4 : rep ms H6 (D.tup [(D.v (V.str ("hha" : Str))), (D.v (V.str ("hhah" : Str)))]) (.ref p1) := rep_tup_mk hW n5 e2 hp3 (repL_cons rep_v (repL_cons rep_v repL_nil))
    replace hW := hW.ret0 e2
    refine ⟨(by show 2 ≤ sizeLine; decide), ?_⟩
    intro p7 n11
    have e8 := Rx.Ext.new (H := H6) (o := (HO.tup [V.str ("hhah" : Str), V.str ("hha" : Str)])) n11
    have hp9 : upd H6 p7 (HO.tup [V.str ("hhah" : Str), V.str ("hha" : Str)]) p7 = some (HO.tup [V.str ("hhah" : Str), V.str ("hha" : Str)]) := upd_same
    generalize upd H6 p7 (HO.tup [V.str ("hhah" : Str), V.str ("hha" : Str)]) = H12 at e8 hp9 ⊢
    have h10 : rep ms H12 (D.tup [(D.v (V.str ("hhah" : Str))), (D.v (V.str ("hha" : Str)))]) (.ref p7) := rep_tup_mk hW n11 e8 hp9 (repL_cons rep_v (repL_cons rep_v repL_nil))
    replace h4 := rep_ext e8 h4
    replace hW := hW.ret0 e8
    refine ⟨(by show 2 ≤ sizeLine; decide), ?_⟩
    intro p13 n17
    have e14 := Rx.Ext.new (H := H12) (o := (HO.tup [V.str ("hah" : Str), V.str ("hahh" : Str)])) n17
    have hp15 : upd H12 p13 (HO.tup [V.str ("hah" : Str), V.str ("hahh" : Str)]) p13 = some (HO.tup [V.str ("hah" : Str), V.str ("hahh" : Str)]) := upd_same
    generalize upd H12 p13 (HO.tup [V.str ("hah" : Str), V.str ("hahh" : Str)]) = H18 at e14 hp15 ⊢
    have h16 : rep ms H18 (D.tup [(D.v (V.str ("hah" : Str))), (D.v (V.str ("hahh" : Str)))]) (.ref p13) := rep_tup_mk hW n17 e14 hp15 (repL_cons rep_v (repL_cons rep_v repL_nil))
    replace h4 := rep_ext e14 h4
    replace h10 := rep_ext e14 h10
    replace hW := hW.ret0 e14
    refine ⟨(by show 2 ≤ sizeLine; decide), ?_⟩
    intro p19 n23
    have e20 := Rx.Ext.new (H := H18) (o := (HO.tup [V.str ("ha" : Str), V.str ("hah" : Str)])) n23
    have hp21 : upd H18 p19 (HO.tup [V.str ("ha" : Str), V.str ("hah" : Str)]) p19 = some (HO.tup [V.str ("ha" : Str), V.str ("hah" : Str)]) := upd_same
    generalize upd H18 p19 (HO.tup [V.str ("ha" : Str), V.str ("hah" : Str)]) = H24 at e20 hp21 ⊢
    have h22 : rep ms H24 (D.tup [(D.v (V.str ("ha" : Str))), (D.v (V.str ("hah" : Str)))]) (.ref p19) := rep_tup_mk hW n23 e20 hp21 (repL_cons rep_v (repL_cons rep_v repL_nil))
    replace h4 := rep_ext e20 h4
    replace h10 := rep_ext e20 h10
    replace h16 := rep_ext e20 h16
    replace hW := hW.ret0 e20
    refine ⟨(by show 2 ≤ sizeLine; decide), ?_⟩
    intro p25 n29
    have e26 := Rx.Ext.new (H := H24) (o := (HO.tup [V.str ("h" : Str), V.str ("hhha" : Str)])) n29
    have hp27 : upd H24 p25 (HO.tup [V.str ("h" : Str), V.str ("hhha" : Str)]) p25 = some (HO.tup [V.str ("h" : Str), V.str ("hhha" : Str)]) := upd_same
    generalize upd H24 p25 (HO.tup [V.str ("h" : Str), V.str ("hhha" : Str)]) = H30 at e26 hp27 ⊢
    have h28 : rep ms H30 (D.tup [(D.v (V.str ("h" : Str))), (D.v (V.str ("hhha" : Str)))]) (.ref p25) := rep_tup_mk hW n29 e26 hp27 (repL_cons rep_v (repL_cons rep_v repL_nil))
    replace h4 := rep_ext e26 h4
    replace h10 := rep_ext e26 h10
    replace h16 := rep_ext e26 h16
    replace h22 := rep_ext e26 h22
    replace hW := hW.ret0 e26
    refine ⟨(by show 2 ≤ sizeLine; decide), ?_⟩
    intro p31 n35
    have e32 := Rx.Ext.new (H := H30) (o := (HO.tup [V.str ("hhha" : Str), V.str ("h" : Str)])) n35
    have hp33 : upd H30 p31 (HO.tup [V.str ("hhha" : Str), V.str ("h" : Str)]) p31 = some (HO.tup [V.str ("hhha" : Str), V.str ("h" : Str)]) := upd_same
    generalize upd H30 p31 (HO.tup [V.str ("hhha" : Str), V.str ("h" : Str)]) = H36 at e32 hp33 ⊢
    have h34 : rep ms H36 (D.tup [(D.v (V.str ("hhha" : Str))), (D.v (V.str ("h" : Str)))]) (.ref p31) := rep_tup_mk hW n35 e32 hp33 (repL_cons rep_v (repL_cons rep_v repL_nil))
    replace h4 := rep_ext e32 h4
    replace h10 := rep_ext e32 h10
    replace h16 := rep_ext e32 h16
    replace h22 := rep_ext e32 h22
    replace h28 := rep_ext e32 h28
    replace hW := hW.ret0 e32
    refine ⟨(by show 6 ≤ sizeLine; decide), ?_⟩
    intro p37 n41
    have e38 := Rx.Ext.new (H := H36) (o := (HO.lst [(V.ref p1), (V.ref p7), (V.ref p13), (V.ref p19), (V.ref p25), (V.ref p31)])) n41
    have hp39 : upd H36 p37 (HO.lst [(V.ref p1), (V.ref p7), (V.ref p13), (V.ref p19), (V.ref p25), (V.ref p31)]) p37 = some (HO.lst [(V.ref p1), (V.ref p7), (V.ref p13), (V.ref p19), (V.ref p25), (V.ref p31)]) := upd_same
    generalize upd H36 p37 (HO.lst [(V.ref p1), (V.ref p7), (V.ref p13), (V.ref p19), (V.ref p25), (V.ref p31)]) = H42 at e38 hp39 ⊢
    have h40 : rep ms H42 (D.lst (([(("hha" : Str), ("hhah" : Str)), (("hhah" : Str), ("hha" : Str)), (("hah" : Str), ("hahh" : Str)), (("ha" : Str), ("hah" : Str)), (("h" : Str), ("hhha" : Str)), (("hhha" : Str), ("h" : Str))] : List (Str × Str)).map (fun y_ : (Str × Str) => (D.tup [(D.v (V.str y_.1)), (D.v (V.str y_.2))])))) (.ref p37) := rep_lst_mk hW n41 e38 hp39 (repL_cons h4 (repL_cons h10 (repL_cons h16 (repL_cons h22 (repL_cons h28 (repL_cons h34 repL_nil))))))
    replace h4 := rep_ext e38 h4
    replace h10 := rep_ext e38 h10
    replace h16 := rep_ext e38 h16
    replace h22 := rep_ext e38 h22
    replace h28 := rep_ext e38 h28
    replace h34 := rep_ext e38 h34
    replace hW := hW.ret0 e38
    refine ⟨_, rfl, ?_⟩
    refine ⟨_, rfl, ?_⟩
    refine ⟨(by show 2 ≤ sizeLine; decide), ?_⟩
    intro p43 n47
    have e44 := Rx.Ext.new (H := H42) (o := (HO.tup [V.str ("haa" : Str), V.str ("haah" : Str)])) n47
    have hp45 : upd H42 p43 (HO.tup [V.str ("haa" : Str), V.str ("haah" : Str)]) p43 = some (HO.tup [V.str ("haa" : Str), V.str ("haah" : Str)]) := upd_same
    generalize upd H42 p43 (HO.tup [V.str ("haa" : Str), V.str ("haah" : Str)]) = H48 at e44 hp45 ⊢
    have h46 : rep ms H48 (D.tup [(D.v (V.str ("haa" : Str))), (D.v (V.str ("haah" : Str)))]) (.ref p43) := rep_tup_mk hW n47 e44 hp45 (repL_cons rep_v (repL_cons rep_v repL_nil))
    replace h4 := rep_ext e44 h4
    replace h10 := rep_ext e44 h10
    replace h16 := rep_ext e44 h16
    replace h22 := rep_ext e44 h22
    replace h28 := rep_ext e44 h28
    replace h34 := rep_ext e44 h34
    replace h40 := rep_ext e44 h40
    replace hW := hW.ret0 e44
    refine ⟨(by show 2 ≤ sizeLine; decide), ?_⟩
    intro p49 n53
    have e50 := Rx.Ext.new (H := H48) (o := (HO.tup [V.str ("hah" : Str), V.str ("ha" : Str)])) n53
    have hp51 : upd H48 p49 (HO.tup [V.str ("hah" : Str), V.str ("ha" : Str)]) p49 = some (HO.tup [V.str ("hah" : Str), V.str ("ha" : Str)]) := upd_same
    generalize upd H48 p49 (HO.tup [V.str ("hah" : Str), V.str ("ha" : Str)]) = H54 at e50 hp51 ⊢
    have h52 : rep ms H54 (D.tup [(D.v (V.str ("hah" : Str))), (D.v (V.str ("ha" : Str)))]) (.ref p49) := rep_tup_mk hW n53 e50 hp51 (repL_cons rep_v (repL_cons rep_v repL_nil))
    replace h4 := rep_ext e50 h4
    replace h10 := rep_ext e50 h10
    replace h16 := rep_ext e50 h16
    replace h22 := rep_ext e50 h22
    replace h28 := rep_ext e50 h28
    replace h34 := rep_ext e50 h34
    replace h40 := rep_ext e50 h40
    replace h46 := rep_ext e50 h46
    replace hW := hW.ret0 e50
    refine ⟨(by show 2 ≤ sizeLine; decide), ?_⟩
    intro p55 n59
    have e56 := Rx.Ext.new (H := H54) (o := (HO.tup [V.str ("haha" : Str), V.str ("hah" : Str)])) n59
    have hp57 : upd H54 p55 (HO.tup [V.str ("haha" : Str), V.str ("hah" : Str)]) p55 = some (HO.tup [V.str ("haha" : Str), V.str ("hah" : Str)]) := upd_same
    generalize upd H54 p55 (HO.tup [V.str ("haha" : Str), V.str ("hah" : Str)]) = H60 at e56 hp57 ⊢
    have h58 : rep ms H60 (D.tup [(D.v (V.str ("haha" : Str))), (D.v (V.str ("hah" : Str)))]) (.ref p55) := rep_tup_mk hW n59 e56 hp57 (repL_cons rep_v (repL_cons rep_v repL_nil))
    replace h4 := rep_ext e56 h4
    replace h10 := rep_ext e56 h10
    replace h16 := rep_ext e56 h16
    replace h22 := rep_ext e56 h22
    replace h28 := rep_ext e56 h28
    replace h34 := rep_ext e56 h34
    replace h40 := rep_ext e56 h40
    replace h46 := rep_ext e56 h46
    replace h52 := rep_ext e56 h52
    replace hW := hW.ret0 e56
    refine ⟨(by show 2 ≤ sizeLine; decide), ?_⟩
    intro p61 n65
    have e62 := Rx.Ext.new (H := H60) (o := (HO.tup [V.str ("hha" : Str), V.str ("hh" : Str)])) n65
    have hp63 : upd H60 p61 (HO.tup [V.str ("hha" : Str), V.str ("hh" : Str)]) p61 = some (HO.tup [V.str ("hha" : Str), V.str ("hh" : Str)]) := upd_same
    generalize upd H60 p61 (HO.tup [V.str ("hha" : Str), V.str ("hh" : Str)]) = H66 at e62 hp63 ⊢
    have h64 : rep ms H66 (D.tup [(D.v (V.str ("hha" : Str))), (D.v (V.str ("hh" : Str)))]) (.ref p61) := rep_tup_mk hW n65 e62 hp63 (repL_cons rep_v (repL_cons rep_v repL_nil))
    replace h4 := rep_ext e62 h4
    replace h10 := rep_ext e62 h10
    replace h16 := rep_ext e62 h16
    replace h22 := rep_ext e62 h22
    replace h28 := rep_ext e62 h28
    replace h34 := rep_ext e62 h34
    replace h40 := rep_ext e62 h40
    replace h46 := rep_ext e62 h46
    replace h52 := rep_ext e62 h52
    replace h58 := rep_ext e62 h58
    replace hW := hW.ret0 e62
    refine ⟨(by show 4 ≤ sizeLine; decide), ?_⟩
    intro p67 n71
    have e68 := Rx.Ext.new (H := H66) (o := (HO.lst [(V.ref p43), (V.ref p49), (V.ref p55), (V.ref p61)])) n71
    have hp69 : upd H66 p67 (HO.lst [(V.ref p43), (V.ref p49), (V.ref p55), (V.ref p61)]) p67 = some (HO.lst [(V.ref p43), (V.ref p49), (V.ref p55), (V.ref p61)]) := upd_same
    generalize upd H66 p67 (HO.lst [(V.ref p43), (V.ref p49), (V.ref p55), (V.ref p61)]) = H72 at e68 hp69 ⊢
    have h70 : rep ms H72 (D.lst (([(("haa" : Str), ("haah" : Str)), (("hah" : Str), ("ha" : Str)), (("haha" : Str), ("hah" : Str)), (("hha" : Str), ("hh" : Str))] : List (Str × Str)).map (fun y_ : (Str × Str) => (D.tup [(D.v (V.str y_.1)), (D.v (V.str y_.2))])))) (.ref p67) := rep_lst_mk hW n71 e68 hp69 (repL_cons h46 (repL_cons h52 (repL_cons h58 (repL_cons h64 repL_nil))))
    replace h4 := rep_ext e68 h4
    replace h10 := rep_ext e68 h10
    replace h16 := rep_ext e68 h16
    replace h22 := rep_ext e68 h22
    replace h28 := rep_ext e68 h28
    replace h34 := rep_ext e68 h34
    replace h40 := rep_ext e68 h40
    replace h46 := rep_ext e68 h46
    replace h52 := rep_ext e68 h52
    replace h58 := rep_ext e68 h58
    replace h64 := rep_ext e68 h64
    replace hW := hW.ret0 e68
    obtain ⟨g73, hM⟩ := hM
    apply rep_cat (xs := ([(("hha" : Str), ("hhah" : Str)), (("hhah" : Str), ("hha" : Str)), (("hah" : Str), ("hahh" : Str)), (("ha" : Str), ("hah" : Str)), (("h" : Str), ("hhha" : Str)), (("hhha" : Str), ("h" : Str))] : List (Str × Str))) (ys := ([(("haa" : Str), ("haah" : Str)), (("hah" : Str), ("ha" : Str)), (("haha" : Str), ("hah" : Str)), (("hha" : Str), ("hh" : Str))] : List (Str × Str))) (e := (fun y_ : (Str × Str) => (D.tup [(D.v (V.str y_.1)), (D.v (V.str y_.2))]))) hW h40 h70 g73
    intro p74 H77 e76 h75
    replace h4 := rep_ext e76 h4
    replace h10 := rep_ext e76 h10
    replace h16 := rep_ext e76 h16
    replace h22 := rep_ext e76 h22
    replace h28 := rep_ext e76 h28
    replace h34 := rep_ext e76 h34
    replace h40 := rep_ext e76 h40
    replace h46 := rep_ext e76 h46
    replace h52 := rep_ext e76 h52
    replace h58 := rep_ext e76 h58
    replace h64 := rep_ext e76 h64
    replace h70 := rep_ext e76 h70
    replace hW := hW.ret0 e76
    refine ⟨ms, ap, _, (([(("hha" : Str), ("hhah" : Str)), (("hhah" : Str), ("hha" : Str)), (("hah" : Str), ("hahh" : Str)), (("ha" : Str), ("hah" : Str)), (("h" : Str), ("hhha" : Str)), (("hhha" : Str), ("h" : Str))] : List (Str × Str)) ++ ([(("haa" : Str), ("haah" : Str)), (("hah" : Str), ("ha" : Str)), (("haha" : Str), ("hah" : Str)), (("hha" : Str), ("hh" : Str))] : List (Str × Str))), _, rfl, hW.enterP, h75, hM, fun r78 u81 H82 hM e80 h79 => ?_⟩
    replace h4 := rep_ret hW e80 h4
    replace h10 := rep_ret hW e80 h10
    replace h16 := rep_ret hW e80 h16
    replace h22 := rep_ret hW e80 h22
    replace h28 := rep_ret hW e80 h28
    replace h34 := rep_ret hW e80 h34
    replace h40 := rep_ret hW e80 h40
    replace h46 := rep_ret hW e80 h46
    replace h52 := rep_ret hW e80 h52
    replace h58 := rep_ret hW e80 h58
    replace h64 := rep_ret hW e80 h64
    replace h70 := rep_ret hW e80 h70
    replace h75 := rep_ret hW e80 h75
    replace hW := hW.retP e80
    apply rep_gtup h79 rfl
    intro vs83 hv84
    obtain ⟨u85, us86, rfl, h87, hv88⟩ := repL_uncons hv84
    obtain rfl := of_v h87
    obtain ⟨u89, us90, rfl, h91, hv92⟩ := repL_uncons hv88
    obtain rfl := of_v h91
    obtain rfl := repL_empty hv92
    refine ⟨_, _, rfl, ?_⟩
    refine ⟨_, _, rfl, ?_⟩
    refine ⟨rfl, ?_⟩
    refine ⟨_, rfl, ?_⟩
    refine ⟨ms, ap, (2 : Int), _, rfl, hW.enterP, hM, fun r93 u96 H97 hM e95 h94 => ?_⟩
    replace h4 := rep_ret hW e95 h4
    replace h10 := rep_ret hW e95 h10
    replace h16 := rep_ret hW e95 h16
    replace h22 := rep_ret hW e95 h22
    replace h28 := rep_ret hW e95 h28
    replace h34 := rep_ret hW e95 h34
    replace h40 := rep_ret hW e95 h40
    replace h46 := rep_ret hW e95 h46
    replace h52 := rep_ret hW e95 h52
    replace h58 := rep_ret hW e95 h58
    replace h64 := rep_ret hW e95 h64
    replace h70 := rep_ret hW e95 h70
    replace h75 := rep_ret hW e95 h75
    replace h79 := rep_ret hW e95 h79
    replace hW := hW.retP e95
    obtain rfl := of_v h94
    refine ⟨rfl, ?_⟩
    refine ⟨_, rfl, ?_⟩
    refine ite3 hM (fun hM => ?_) (fun hM => ?_)
    · skip
      refine ⟨_, rfl, ?_⟩
      refine ⟨ms, r78.1, _, rfl, hW.enter0, hM, fun r98 u101 H102 hM e100 h99 => ?_⟩
      replace h4 := rep_ext e100 h4
      replace h10 := rep_ext e100 h10
      replace h16 := rep_ext e100 h16
      replace h22 := rep_ext e100 h22
      replace h28 := rep_ext e100 h28
      replace h34 := rep_ext e100 h34
      replace h40 := rep_ext e100 h40
      replace h46 := rep_ext e100 h46
      replace h52 := rep_ext e100 h52
      replace h58 := rep_ext e100 h58
      replace h64 := rep_ext e100 h64
      replace h70 := rep_ext e100 h70
      replace h75 := rep_ext e100 h75
      replace h79 := rep_ext e100 h79
      replace hW := hW.ret0 e100
      obtain rfl := of_v h99
      refine ⟨_, rfl, ?_⟩
      refine ⟨ms, r78.2, _, rfl, hW.enter0, hM, fun r103 u106 H107 hM e105 h104 => ?_⟩
      replace h4 := rep_ext e105 h4
      replace h10 := rep_ext e105 h10
      replace h16 := rep_ext e105 h16
      replace h22 := rep_ext e105 h22
      replace h28 := rep_ext e105 h28
      replace h34 := rep_ext e105 h34
      replace h40 := rep_ext e105 h40
      replace h46 := rep_ext e105 h46
      replace h52 := rep_ext e105 h52
      replace h58 := rep_ext e105 h58
      replace h64 := rep_ext e105 h64
      replace h70 := rep_ext e105 h70
      replace h75 := rep_ext e105 h75
      replace h79 := rep_ext e105 h79
      replace hW := hW.ret0 e105
      obtain rfl := of_v h104
      refine ⟨_, _, rfl, ?_⟩
      refine ⟨_, rfl, ?_⟩
      refine ⟨ms, ap, (5 : Int), _, rfl, hW.enterP, hM, fun r108 u111 H112 hM e110 h109 => ?_⟩
      replace h4 := rep_ret hW e110 h4
      replace h10 := rep_ret hW e110 h10
      replace h16 := rep_ret hW e110 h16
      replace h22 := rep_ret hW e110 h22
      replace h28 := rep_ret hW e110 h28
      replace h34 := rep_ret hW e110 h34
      replace h40 := rep_ret hW e110 h40
      replace h46 := rep_ret hW e110 h46
      replace h52 := rep_ret hW e110 h52
      replace h58 := rep_ret hW e110 h58
      replace h64 := rep_ret hW e110 h64
      replace h70 := rep_ret hW e110 h70
      replace h75 := rep_ret hW e110 h75
      replace h79 := rep_ret hW e110 h79
      replace hW := hW.retP e110
      obtain rfl := of_v h109
      refine ⟨_, rfl, ?_⟩
      obtain ⟨g113, hM⟩ := hM
      refine ⟨_, _, rfl, rfl, g113, ?_⟩
      refine ⟨_, _, rfl, ?_⟩
      refine ⟨_, rfl, ?_⟩
      refine ⟨_, rfl, ?_⟩
      obtain ⟨g114, hM⟩ := hM
      refine ⟨_, rfl, g114, ?_⟩
      refine ⟨_, rfl, ?_⟩
      refine ⟨_, _, rfl, rfl, ?_⟩
      refine ⟨_, rfl, ?_⟩
      obtain ⟨g115, hM⟩ := hM
      refine ⟨_, rfl, g115, ?_⟩
      refine ⟨_, rfl, ?_⟩
      obtain ⟨g116, hM⟩ := hM
      refine ⟨_, rfl, g116, ?_⟩
      refine ⟨_, rfl, ?_⟩
      refine .inl ⟨_, rfl, ?_⟩
      refine ⟨_, rfl, ?_⟩
      obtain ⟨g117, hM⟩ := hM
      refine ⟨_, rfl, g117, ?_⟩
      obtain ⟨g118, hM⟩ := hM
      refine ⟨_, _, rfl, rfl, g118, ?_⟩
      refine ⟨_, _, rfl, rfl, ?_⟩
      refine ⟨_, _, rfl, ?_⟩
      refine ⟨_, rfl, ?_⟩
      refine ⟨_, rfl, ?_⟩
      refine ⟨_, _, rfl, rfl, ?_⟩
      refine ⟨ms, ap, (0 : Int), ((4 : Int) - r108), _, rfl, hW.enterP, hM, fun r119 u122 H123 hM e121 h120 => ?_⟩
      replace h4 := rep_ret hW e121 h4
      replace h10 := rep_ret hW e121 h10
      replace h16 := rep_ret hW e121 h16
      replace h22 := rep_ret hW e121 h22
      replace h28 := rep_ret hW e121 h28
      replace h34 := rep_ret hW e121 h34
      replace h40 := rep_ret hW e121 h40
      replace h46 := rep_ret hW e121 h46
      replace h52 := rep_ret hW e121 h52
      replace h58 := rep_ret hW e121 h58
      replace h64 := rep_ret hW e121 h64
      replace h70 := rep_ret hW e121 h70
      replace h75 := rep_ret hW e121 h75
      replace h79 := rep_ret hW e121 h79
      replace hW := hW.retP e121
      obtain rfl := of_v h120
      refine ⟨_, rfl, ?_⟩
      refine ⟨ms, ap, (0 : Int), (4 : Int), _, rfl, hW.enterP, hM, fun r124 u127 H128 hM e126 h125 => ?_⟩
      replace h4 := rep_ret hW e126 h4
      replace h10 := rep_ret hW e126 h10
      replace h16 := rep_ret hW e126 h16
      replace h22 := rep_ret hW e126 h22
      replace h28 := rep_ret hW e126 h28
      replace h34 := rep_ret hW e126 h34
      replace h40 := rep_ret hW e126 h40
      replace h46 := rep_ret hW e126 h46
      replace h52 := rep_ret hW e126 h52
      replace h58 := rep_ret hW e126 h58
      replace h64 := rep_ret hW e126 h64
      replace h70 := rep_ret hW e126 h70
      replace h75 := rep_ret hW e126 h75
      replace h79 := rep_ret hW e126 h79
      replace hW := hW.retP e126
      obtain rfl := of_v h125
      refine ⟨_, _, rfl, ?_⟩
      refine ⟨_, rfl, ?_⟩
      refine ⟨_, rfl, ?_⟩
      refine ⟨_, rfl, ?_⟩
      refine ⟨_, rfl, ?_⟩
      obtain ⟨g129, hM⟩ := hM
      refine ⟨_, rfl, g129, ?_⟩
      refine ⟨_, rfl, ?_⟩
      refine ⟨_, rfl, ?_⟩
      refine ⟨_, rfl, ?_⟩
      obtain ⟨g130, hM⟩ := hM
      refine ⟨_, rfl, g130, ?_⟩
      obtain ⟨g131, hM⟩ := hM
      refine ⟨_, _, rfl, rfl, g131, ?_⟩
      refine ⟨_, rfl, ?_⟩
      refine ⟨(by show 3 ≤ sizeLine; decide), ?_⟩
      intro p132 n136
      have e133 := Rx.Ext.new (H := H128) (o := (HO.tup [V.str r119, V.str ((cutS r98 (some ((r98.length : Int) - (r108 % (r98.length : Int)))) none) ++ (cutS r98 none (some ((r98.length : Int) - (r108 % (r98.length : Int)))))), V.str r124])) n136
      have hp134 : upd H128 p132 (HO.tup [V.str r119, V.str ((cutS r98 (some ((r98.length : Int) - (r108 % (r98.length : Int)))) none) ++ (cutS r98 none (some ((r98.length : Int) - (r108 % (r98.length : Int)))))), V.str r124]) p132 = some (HO.tup [V.str r119, V.str ((cutS r98 (some ((r98.length : Int) - (r108 % (r98.length : Int)))) none) ++ (cutS r98 none (some ((r98.length : Int) - (r108 % (r98.length : Int)))))), V.str r124]) := upd_same
      generalize upd H128 p132 (HO.tup [V.str r119, V.str ((cutS r98 (some ((r98.length : Int) - (r108 % (r98.length : Int)))) none) ++ (cutS r98 none (some ((r98.length : Int) - (r108 % (r98.length : Int)))))), V.str r124]) = H137 at e133 hp134 ⊢
      have h135 : rep ms H137 (D.tup [(D.v (V.str r119)), (D.v (V.str ((cutS r98 (some ((r98.length : Int) - (r108 % (r98.length : Int)))) none) ++ (cutS r98 none (some ((r98.length : Int) - (r108 % (r98.length : Int)))))))), (D.v (V.str r124))]) (.ref p132) := rep_tup_mk hW n136 e133 hp134 (repL_cons rep_v (repL_cons rep_v (repL_cons rep_v repL_nil)))
      replace h4 := rep_ext e133 h4
      replace h10 := rep_ext e133 h10
      replace h16 := rep_ext e133 h16
      replace h22 := rep_ext e133 h22
      replace h28 := rep_ext e133 h28
      replace h34 := rep_ext e133 h34
      replace h40 := rep_ext e133 h40
      replace h46 := rep_ext e133 h46
      replace h52 := rep_ext e133 h52
      replace h58 := rep_ext e133 h58
      replace h64 := rep_ext e133 h64
      replace h70 := rep_ext e133 h70
      replace h75 := rep_ext e133 h75
      replace h79 := rep_ext e133 h79
      replace hW := hW.ret0 e133
      refine ⟨_, rfl, ?_⟩
      refine ⟨_, rfl, ?_⟩
      obtain ⟨g138, hM⟩ := hM
      refine ⟨_, _, rfl, rfl, g138, ?_⟩
      refine ⟨_, rfl, ?_⟩
      refine ⟨_, rfl, ?_⟩
      refine ⟨(by show 3 ≤ sizeLine; decide), ?_⟩
      intro p139 n143
      have e140 := Rx.Ext.new (H := H137) (o := (HO.tup [V.str (r119 ++ (cutS (Txt.mul r98 (4 : Int)) (some (((Txt.mul r98 (4 : Int)).length : Int) - r108)) none)), V.str r103, V.str r124])) n143
      have hp141 : upd H137 p139 (HO.tup [V.str (r119 ++ (cutS (Txt.mul r98 (4 : Int)) (some (((Txt.mul r98 (4 : Int)).length : Int) - r108)) none)), V.str r103, V.str r124]) p139 = some (HO.tup [V.str (r119 ++ (cutS (Txt.mul r98 (4 : Int)) (some (((Txt.mul r98 (4 : Int)).length : Int) - r108)) none)), V.str r103, V.str r124]) := upd_same
      generalize upd H137 p139 (HO.tup [V.str (r119 ++ (cutS (Txt.mul r98 (4 : Int)) (some (((Txt.mul r98 (4 : Int)).length : Int) - r108)) none)), V.str r103, V.str r124]) = H144 at e140 hp141 ⊢
      have h142 : rep ms H144 (D.tup [(D.v (V.str (r119 ++ (cutS (Txt.mul r98 (4 : Int)) (some (((Txt.mul r98 (4 : Int)).length : Int) - r108)) none)))), (D.v (V.str r103)), (D.v (V.str r124))]) (.ref p139) := rep_tup_mk hW n143 e140 hp141 (repL_cons rep_v (repL_cons rep_v (repL_cons rep_v repL_nil)))
      replace h4 := rep_ext e140 h4
      replace h10 := rep_ext e140 h10
      replace h16 := rep_ext e140 h16
      replace h22 := rep_ext e140 h22
      replace h28 := rep_ext e140 h28
      replace h34 := rep_ext e140 h34
      replace h40 := rep_ext e140 h40
      replace h46 := rep_ext e140 h46
      replace h52 := rep_ext e140 h52
      replace h58 := rep_ext e140 h58
      replace h64 := rep_ext e140 h64
      replace h70 := rep_ext e140 h70
      replace h75 := rep_ext e140 h75
      replace h79 := rep_ext e140 h79
      replace h135 := rep_ext e140 h135
      replace hW := hW.ret0 e140
      refine ⟨(by show 2 ≤ sizeLine; decide), ?_⟩
      intro p145 n149
      have e146 := Rx.Ext.new (H := H144) (o := (HO.lst [(V.ref p132), (V.ref p139)])) n149
      have hp147 : upd H144 p145 (HO.lst [(V.ref p132), (V.ref p139)]) p145 = some (HO.lst [(V.ref p132), (V.ref p139)]) := upd_same
      generalize upd H144 p145 (HO.lst [(V.ref p132), (V.ref p139)]) = H150 at e146 hp147 ⊢
      have h148 : rep ms H150 (D.lst (([(r119, ((cutS r98 (some ((r98.length : Int) - (r108 % (r98.length : Int)))) none) ++ (cutS r98 none (some ((r98.length : Int) - (r108 % (r98.length : Int)))))), r124), ((r119 ++ (cutS (Txt.mul r98 (4 : Int)) (some (((Txt.mul r98 (4 : Int)).length : Int) - r108)) none)), r103, r124)] : List (Str × Str × Str)).map (fun y_ : (Str × Str × Str) => (D.tup [(D.v (V.str y_.1)), (D.v (V.str y_.2.1)), (D.v (V.str y_.2.2))])))) (.ref p145) := rep_lst_mk hW n149 e146 hp147 (repL_cons h135 (repL_cons h142 repL_nil))
      replace h4 := rep_ext e146 h4
      replace h10 := rep_ext e146 h10
      replace h16 := rep_ext e146 h16
      replace h22 := rep_ext e146 h22
      replace h28 := rep_ext e146 h28
      replace h34 := rep_ext e146 h34
      replace h40 := rep_ext e146 h40
      replace h46 := rep_ext e146 h46
      replace h52 := rep_ext e146 h52
      replace h58 := rep_ext e146 h58
      replace h64 := rep_ext e146 h64
      replace h70 := rep_ext e146 h70
      replace h75 := rep_ext e146 h75
      replace h79 := rep_ext e146 h79
      replace h135 := rep_ext e146 h135
      replace h142 := rep_ext e146 h142
      replace hW := hW.ret0 e146
      exact hQ ([(r119, ((cutS r98 (some ((r98.length : Int) - (r108 % (r98.length : Int)))) none) ++ (cutS r98 none (some ((r98.length : Int) - (r108 % (r98.length : Int)))))), r124), ((r119 ++ (cutS (Txt.mul r98 (4 : Int)) (some (((Txt.mul r98 (4 : Int)).length : Int) - r108)) none)), r103, r124)] : List (Str × Str × Str)) _ _ hM hW.out h148
    · skip
      refine ⟨_, rfl, ?_⟩
      refine ⟨ms, ap, (5 : Int), _, rfl, hW.enterP, hM, fun r151 u154 H155 hM e153 h152 => ?_⟩
      replace h4 := rep_ret hW e153 h4
      replace h10 := rep_ret hW e153 h10
      replace h16 := rep_ret hW e153 h16
      replace h22 := rep_ret hW e153 h22
      replace h28 := rep_ret hW e153 h28
      replace h34 := rep_ret hW e153 h34
      replace h40 := rep_ret hW e153 h40
      replace h46 := rep_ret hW e153 h46
      replace h52 := rep_ret hW e153 h52
      replace h58 := rep_ret hW e153 h58
      replace h64 := rep_ret hW e153 h64
      replace h70 := rep_ret hW e153 h70
      replace h75 := rep_ret hW e153 h75
      replace h79 := rep_ret hW e153 h79
      replace hW := hW.retP e153
      obtain rfl := of_v h152
      refine ⟨_, rfl, ?_⟩
      obtain ⟨g156, hM⟩ := hM
      refine ⟨_, _, rfl, rfl, g156, ?_⟩
      refine ⟨_, _, rfl, ?_⟩
      refine ⟨_, rfl, ?_⟩
      refine ⟨_, rfl, ?_⟩
      obtain ⟨g157, hM⟩ := hM
      refine ⟨_, rfl, g157, ?_⟩
      refine ⟨_, rfl, ?_⟩
      refine ⟨_, _, rfl, rfl, ?_⟩
      refine ⟨_, rfl, ?_⟩
      obtain ⟨g158, hM⟩ := hM
      refine ⟨_, rfl, g158, ?_⟩
      refine ⟨_, rfl, ?_⟩
      obtain ⟨g159, hM⟩ := hM
      refine ⟨_, rfl, g159, ?_⟩
      refine ⟨_, rfl, ?_⟩
      refine .inl ⟨_, rfl, ?_⟩
      refine ⟨_, rfl, ?_⟩
      obtain ⟨g160, hM⟩ := hM
      refine ⟨_, rfl, g160, ?_⟩
      obtain ⟨g161, hM⟩ := hM
      refine ⟨_, _, rfl, rfl, g161, ?_⟩
      refine ⟨_, _, rfl, rfl, ?_⟩
      refine ⟨_, _, rfl, ?_⟩
      refine ⟨_, rfl, ?_⟩
      refine ⟨_, rfl, ?_⟩
      refine ⟨_, _, rfl, rfl, ?_⟩
      refine ⟨ms, ap, (0 : Int), ((4 : Int) - r151), _, rfl, hW.enterP, hM, fun r162 u165 H166 hM e164 h163 => ?_⟩
      replace h4 := rep_ret hW e164 h4
      replace h10 := rep_ret hW e164 h10
      replace h16 := rep_ret hW e164 h16
      replace h22 := rep_ret hW e164 h22
      replace h28 := rep_ret hW e164 h28
      replace h34 := rep_ret hW e164 h34
      replace h40 := rep_ret hW e164 h40
      replace h46 := rep_ret hW e164 h46
      replace h52 := rep_ret hW e164 h52
      replace h58 := rep_ret hW e164 h58
      replace h64 := rep_ret hW e164 h64
      replace h70 := rep_ret hW e164 h70
      replace h75 := rep_ret hW e164 h75
      replace h79 := rep_ret hW e164 h79
      replace hW := hW.retP e164
      obtain rfl := of_v h163
      refine ⟨_, rfl, ?_⟩
      refine ⟨ms, ap, (0 : Int), (4 : Int), _, rfl, hW.enterP, hM, fun r167 u170 H171 hM e169 h168 => ?_⟩
      replace h4 := rep_ret hW e169 h4
      replace h10 := rep_ret hW e169 h10
      replace h16 := rep_ret hW e169 h16
      replace h22 := rep_ret hW e169 h22
      replace h28 := rep_ret hW e169 h28
      replace h34 := rep_ret hW e169 h34
      replace h40 := rep_ret hW e169 h40
      replace h46 := rep_ret hW e169 h46
      replace h52 := rep_ret hW e169 h52
      replace h58 := rep_ret hW e169 h58
      replace h64 := rep_ret hW e169 h64
      replace h70 := rep_ret hW e169 h70
      replace h75 := rep_ret hW e169 h75
      replace h79 := rep_ret hW e169 h79
      replace hW := hW.retP e169
      obtain rfl := of_v h168
      refine ⟨_, _, rfl, ?_⟩
      refine ⟨_, rfl, ?_⟩
      refine ⟨_, rfl, ?_⟩
      refine ⟨_, rfl, ?_⟩
      refine ⟨_, rfl, ?_⟩
      obtain ⟨g172, hM⟩ := hM
      refine ⟨_, rfl, g172, ?_⟩
      refine ⟨_, rfl, ?_⟩
      refine ⟨_, rfl, ?_⟩
      refine ⟨_, rfl, ?_⟩
      obtain ⟨g173, hM⟩ := hM
      refine ⟨_, rfl, g173, ?_⟩
      obtain ⟨g174, hM⟩ := hM
      refine ⟨_, _, rfl, rfl, g174, ?_⟩
      refine ⟨_, rfl, ?_⟩
      refine ⟨(by show 3 ≤ sizeLine; decide), ?_⟩
      intro p175 n179
      have e176 := Rx.Ext.new (H := H171) (o := (HO.tup [V.str r162, V.str ((cutS r78.1 (some ((r78.1.length : Int) - (r151 % (r78.1.length : Int)))) none) ++ (cutS r78.1 none (some ((r78.1.length : Int) - (r151 % (r78.1.length : Int)))))), V.str r167])) n179
      have hp177 : upd H171 p175 (HO.tup [V.str r162, V.str ((cutS r78.1 (some ((r78.1.length : Int) - (r151 % (r78.1.length : Int)))) none) ++ (cutS r78.1 none (some ((r78.1.length : Int) - (r151 % (r78.1.length : Int)))))), V.str r167]) p175 = some (HO.tup [V.str r162, V.str ((cutS r78.1 (some ((r78.1.length : Int) - (r151 % (r78.1.length : Int)))) none) ++ (cutS r78.1 none (some ((r78.1.length : Int) - (r151 % (r78.1.length : Int)))))), V.str r167]) := upd_same
      generalize upd H171 p175 (HO.tup [V.str r162, V.str ((cutS r78.1 (some ((r78.1.length : Int) - (r151 % (r78.1.length : Int)))) none) ++ (cutS r78.1 none (some ((r78.1.length : Int) - (r151 % (r78.1.length : Int)))))), V.str r167]) = H180 at e176 hp177 ⊢
      have h178 : rep ms H180 (D.tup [(D.v (V.str r162)), (D.v (V.str ((cutS r78.1 (some ((r78.1.length : Int) - (r151 % (r78.1.length : Int)))) none) ++ (cutS r78.1 none (some ((r78.1.length : Int) - (r151 % (r78.1.length : Int)))))))), (D.v (V.str r167))]) (.ref p175) := rep_tup_mk hW n179 e176 hp177 (repL_cons rep_v (repL_cons rep_v (repL_cons rep_v repL_nil)))
      replace h4 := rep_ext e176 h4
      replace h10 := rep_ext e176 h10
      replace h16 := rep_ext e176 h16
      replace h22 := rep_ext e176 h22
      replace h28 := rep_ext e176 h28
      replace h34 := rep_ext e176 h34
      replace h40 := rep_ext e176 h40
      replace h46 := rep_ext e176 h46
      replace h52 := rep_ext e176 h52
      replace h58 := rep_ext e176 h58
      replace h64 := rep_ext e176 h64
      replace h70 := rep_ext e176 h70
      replace h75 := rep_ext e176 h75
      replace h79 := rep_ext e176 h79
      replace hW := hW.ret0 e176
      refine ⟨_, rfl, ?_⟩
      refine ⟨_, rfl, ?_⟩
      obtain ⟨g181, hM⟩ := hM
      refine ⟨_, _, rfl, rfl, g181, ?_⟩
      refine ⟨_, rfl, ?_⟩
      refine ⟨_, rfl, ?_⟩
      refine ⟨(by show 3 ≤ sizeLine; decide), ?_⟩
      intro p182 n186
      have e183 := Rx.Ext.new (H := H180) (o := (HO.tup [V.str (r162 ++ (cutS (Txt.mul r78.1 (4 : Int)) (some (((Txt.mul r78.1 (4 : Int)).length : Int) - r151)) none)), V.str r78.2, V.str r167])) n186
      have hp184 : upd H180 p182 (HO.tup [V.str (r162 ++ (cutS (Txt.mul r78.1 (4 : Int)) (some (((Txt.mul r78.1 (4 : Int)).length : Int) - r151)) none)), V.str r78.2, V.str r167]) p182 = some (HO.tup [V.str (r162 ++ (cutS (Txt.mul r78.1 (4 : Int)) (some (((Txt.mul r78.1 (4 : Int)).length : Int) - r151)) none)), V.str r78.2, V.str r167]) := upd_same
      generalize upd H180 p182 (HO.tup [V.str (r162 ++ (cutS (Txt.mul r78.1 (4 : Int)) (some (((Txt.mul r78.1 (4 : Int)).length : Int) - r151)) none)), V.str r78.2, V.str r167]) = H187 at e183 hp184 ⊢
      have h185 : rep ms H187 (D.tup [(D.v (V.str (r162 ++ (cutS (Txt.mul r78.1 (4 : Int)) (some (((Txt.mul r78.1 (4 : Int)).length : Int) - r151)) none)))), (D.v (V.str r78.2)), (D.v (V.str r167))]) (.ref p182) := rep_tup_mk hW n186 e183 hp184 (repL_cons rep_v (repL_cons rep_v (repL_cons rep_v repL_nil)))
      replace h4 := rep_ext e183 h4
      replace h10 := rep_ext e183 h10
      replace h16 := rep_ext e183 h16
      replace h22 := rep_ext e183 h22
      replace h28 := rep_ext e183 h28
      replace h34 := rep_ext e183 h34
      replace h40 := rep_ext e183 h40
      replace h46 := rep_ext e183 h46
      replace h52 := rep_ext e183 h52
      replace h58 := rep_ext e183 h58
      replace h64 := rep_ext e183 h64
      replace h70 := rep_ext e183 h70
      replace h75 := rep_ext e183 h75
      replace h79 := rep_ext e183 h79
      replace h178 := rep_ext e183 h178
      replace hW := hW.ret0 e183
      refine ⟨(by show 2 ≤ sizeLine; decide), ?_⟩
      intro p188 n192
      have e189 := Rx.Ext.new (H := H187) (o := (HO.lst [(V.ref p175), (V.ref p182)])) n192
      have hp190 : upd H187 p188 (HO.lst [(V.ref p175), (V.ref p182)]) p188 = some (HO.lst [(V.ref p175), (V.ref p182)]) := upd_same
      generalize upd H187 p188 (HO.lst [(V.ref p175), (V.ref p182)]) = H193 at e189 hp190 ⊢
      have h191 : rep ms H193 (D.lst (([(r162, ((cutS r78.1 (some ((r78.1.length : Int) - (r151 % (r78.1.length : Int)))) none) ++ (cutS r78.1 none (some ((r78.1.length : Int) - (r151 % (r78.1.length : Int)))))), r167), ((r162 ++ (cutS (Txt.mul r78.1 (4 : Int)) (some (((Txt.mul r78.1 (4 : Int)).length : Int) - r151)) none)), r78.2, r167)] : List (Str × Str × Str)).map (fun y_ : (Str × Str × Str) => (D.tup [(D.v (V.str y_.1)), (D.v (V.str y_.2.1)), (D.v (V.str y_.2.2))])))) (.ref p188) := rep_lst_mk hW n192 e189 hp190 (repL_cons h178 (repL_cons h185 repL_nil))
      replace h4 := rep_ext e189 h4
      replace h10 := rep_ext e189 h10
      replace h16 := rep_ext e189 h16
      replace h22 := rep_ext e189 h22
      replace h28 := rep_ext e189 h28
      replace h34 := rep_ext e189 h34
      replace h40 := rep_ext e189 h40
      replace h46 := rep_ext e189 h46
      replace h52 := rep_ext e189 h52
      replace h58 := rep_ext e189 h58
      replace h64 := rep_ext e189 h64
      replace h70 := rep_ext e189 h70
      replace h75 := rep_ext e189 h75
      replace h79 := rep_ext e189 h79
      replace h178 := rep_ext e189 h178
      replace h185 := rep_ext e189 h185
      replace hW := hW.ret0 e189
      exact hQ ([(r162, ((cutS r78.1 (some ((r78.1.length : Int) - (r151 % (r78.1.length : Int)))) none) ++ (cutS r78.1 none (some ((r78.1.length : Int) - (r151 % (r78.1.length : Int)))))), r167), ((r162 ++ (cutS (Txt.mul r78.1 (4 : Int)) (some (((Txt.mul r78.1 (4 : Int)).length : Int) - r151)) none)), r78.2, r167)] : List (Str × Str × Str)) _ _ hM hW.out h191
def M_alike (x_parts_here : (Str × Str × Str)) (KM : (Str × Str × Str) → Prop) : Prop :=
  (M_draw (4 : Int) fun r15 => (if (decide (V.int r15 = V.int (0 : Int))) = true then (x_parts_here.1.length ≤ sizeLine ∧ (if (decide ((x_parts_here.1.length : Int) < (4 : Int))) = true then (x_parts_here.2.1.length ≤ sizeLine ∧ ((x_parts_here.1.length + (cutS x_parts_here.2.1 none (some (1 : Int))).length ≤ sizeLine) ∧ (x_parts_here.2.1.length ≤ sizeLine ∧ (x_parts_here.2.1.length ≤ sizeLine ∧ (((cutS x_parts_here.2.1 (some (1 : Int)) none).length + (cutS x_parts_here.2.1 none (some (1 : Int))).length ≤ sizeLine) ∧ (KM ((x_parts_here.1 ++ (cutS x_parts_here.2.1 none (some (1 : Int)))), ((cutS x_parts_here.2.1 (some (1 : Int)) none) ++ (cutS x_parts_here.2.1 none (some (1 : Int)))), x_parts_here.2.2))))))) else (if (decide (V.int r15 = V.int (1 : Int))) = true then (x_parts_here.2.1.length ≤ sizeLine ∧ (if (decide ((x_parts_here.2.1.length : Int) < (3 : Int))) = true then ((x_parts_here.2.1.length + x_parts_here.2.1.length ≤ sizeLine) ∧ (KM (x_parts_here.1, (x_parts_here.2.1 ++ x_parts_here.2.1), x_parts_here.2.2))) else (if (decide (V.int r15 = V.int (2 : Int))) = true then (x_parts_here.2.1.length ≤ sizeLine ∧ (if (decide (V.int (x_parts_here.2.1.length : Int) = V.int (1 : Int))) = true then (x_parts_here.2.2.length ≤ sizeLine ∧ (if (decide ((x_parts_here.2.2.length : Int) < (4 : Int))) = true then ((x_parts_here.2.1.length + x_parts_here.2.2.length ≤ sizeLine) ∧ (KM (x_parts_here.1, x_parts_here.2.1, (x_parts_here.2.1 ++ x_parts_here.2.2)))) else (∃ KB49 : (Str × Str × Str) → Prop, (x_parts_here.1.length ≤ sizeLine ∧ (x_parts_here.2.1.length ≤ sizeLine ∧ (if (decide (V.str (cutS x_parts_here.1 (some (-(1 : Int))) none) = V.str (cutS x_parts_here.2.1 (some (-(1 : Int))) none))) = true then (x_parts_here.1.length ≤ sizeLine ∧ (x_parts_here.2.1.length ≤ sizeLine ∧ (x_parts_here.2.1.length ≤ sizeLine ∧ (((cutS x_parts_here.2.1 (some (-(1 : Int))) none).length + (cutS x_parts_here.2.1 none (some (-(1 : Int)))).length ≤ sizeLine) ∧ (KB49 ((cutS x_parts_here.1 none (some (-(1 : Int)))), ((cutS x_parts_here.2.1 (some (-(1 : Int))) none) ++ (cutS x_parts_here.2.1 none (some (-(1 : Int))))), x_parts_here.2.2)))))) else (KB49 x_parts_here)))) ∧ ∀ r64 : (Str × Str × Str), KB49 r64 → (KM r64)))) else (∃ KB67 : (Str × Str × Str) → Prop, (x_parts_here.1.length ≤ sizeLine ∧ (x_parts_here.2.1.length ≤ sizeLine ∧ (if (decide (V.str (cutS x_parts_here.1 (some (-(1 : Int))) none) = V.str (cutS x_parts_here.2.1 (some (-(1 : Int))) none))) = true then (x_parts_here.1.length ≤ sizeLine ∧ (x_parts_here.2.1.length ≤ sizeLine ∧ (x_parts_here.2.1.length ≤ sizeLine ∧ (((cutS x_parts_here.2.1 (some (-(1 : Int))) none).length + (cutS x_parts_here.2.1 none (some (-(1 : Int)))).length ≤ sizeLine) ∧ (KB67 ((cutS x_parts_here.1 none (some (-(1 : Int)))), ((cutS x_parts_here.2.1 (some (-(1 : Int))) none) ++ (cutS x_parts_here.2.1 none (some (-(1 : Int))))), x_parts_here.2.2)))))) else (KB67 x_parts_here)))) ∧ ∀ r82 : (Str × Str × Str), KB67 r82 → (KM r82)))) else (∃ KB85 : (Str × Str × Str) → Prop, (x_parts_here.1.length ≤ sizeLine ∧ (x_parts_here.2.1.length ≤ sizeLine ∧ (if (decide (V.str (cutS x_parts_here.1 (some (-(1 : Int))) none) = V.str (cutS x_parts_here.2.1 (some (-(1 : Int))) none))) = true then (x_parts_here.1.length ≤ sizeLine ∧ (x_parts_here.2.1.length ≤ sizeLine ∧ (x_parts_here.2.1.length ≤ sizeLine ∧ (((cutS x_parts_here.2.1 (some (-(1 : Int))) none).length + (cutS x_parts_here.2.1 none (some (-(1 : Int)))).length ≤ sizeLine) ∧ (KB85 ((cutS x_parts_here.1 none (some (-(1 : Int)))), ((cutS x_parts_here.2.1 (some (-(1 : Int))) none) ++ (cutS x_parts_here.2.1 none (some (-(1 : Int))))), x_parts_here.2.2)))))) else (KB85 x_parts_here)))) ∧ ∀ r100 : (Str × Str × Str), KB85 r100 → (KM r100))))) else (if (decide (V.int r15 = V.int (2 : Int))) = true then (x_parts_here.2.1.length ≤ sizeLine ∧ (if (decide (V.int (x_parts_here.2.1.length : Int) = V.int (1 : Int))) = true then (x_parts_here.2.2.length ≤ sizeLine ∧ (if (decide ((x_parts_here.2.2.length : Int) < (4 : Int))) = true then ((x_parts_here.2.1.length + x_parts_here.2.2.length ≤ sizeLine) ∧ (KM (x_parts_here.1, x_parts_here.2.1, (x_parts_here.2.1 ++ x_parts_here.2.2)))) else (∃ KB112 : (Str × Str × Str) → Prop, (x_parts_here.1.length ≤ sizeLine ∧ (x_parts_here.2.1.length ≤ sizeLine ∧ (if (decide (V.str (cutS x_parts_here.1 (some (-(1 : Int))) none) = V.str (cutS x_parts_here.2.1 (some (-(1 : Int))) none))) = true then (x_parts_here.1.length ≤ sizeLine ∧ (x_parts_here.2.1.length ≤ sizeLine ∧ (x_parts_here.2.1.length ≤ sizeLine ∧ (((cutS x_parts_here.2.1 (some (-(1 : Int))) none).length + (cutS x_parts_here.2.1 none (some (-(1 : Int)))).length ≤ sizeLine) ∧ (KB112 ((cutS x_parts_here.1 none (some (-(1 : Int)))), ((cutS x_parts_here.2.1 (some (-(1 : Int))) none) ++ (cutS x_parts_here.2.1 none (some (-(1 : Int))))), x_parts_here.2.2)))))) else (KB112 x_parts_here)))) ∧ ∀ r127 : (Str × Str × Str), KB112 r127 → (KM r127)))) else (∃ KB130 : (Str × Str × Str) → Prop, (x_parts_here.1.length ≤ sizeLine ∧ (x_parts_here.2.1.length ≤ sizeLine ∧ (if (decide (V.str (cutS x_parts_here.1 (some (-(1 : Int))) none) = V.str (cutS x_parts_here.2.1 (some (-(1 : Int))) none))) = true then (x_parts_here.1.length ≤ sizeLine ∧ (x_parts_here.2.1.length ≤ sizeLine ∧ (x_parts_here.2.1.length ≤ sizeLine ∧ (((cutS x_parts_here.2.1 (some (-(1 : Int))) none).length + (cutS x_parts_here.2.1 none (some (-(1 : Int)))).length ≤ sizeLine) ∧ (KB130 ((cutS x_parts_here.1 none (some (-(1 : Int)))), ((cutS x_parts_here.2.1 (some (-(1 : Int))) none) ++ (cutS x_parts_here.2.1 none (some (-(1 : Int))))), x_parts_here.2.2)))))) else (KB130 x_parts_here)))) ∧ ∀ r145 : (Str × Str × Str), KB130 r145 → (KM r145)))) else (∃ KB148 : (Str × Str × Str) → Prop, (x_parts_here.1.length ≤ sizeLine ∧ (x_parts_here.2.1.length ≤ sizeLine ∧ (if (decide (V.str (cutS x_parts_here.1 (some (-(1 : Int))) none) = V.str (cutS x_parts_here.2.1 (some (-(1 : Int))) none))) = true then (x_parts_here.1.length ≤ sizeLine ∧ (x_parts_here.2.1.length ≤ sizeLine ∧ (x_parts_here.2.1.length ≤ sizeLine ∧ (((cutS x_parts_here.2.1 (some (-(1 : Int))) none).length + (cutS x_parts_here.2.1 none (some (-(1 : Int)))).length ≤ sizeLine) ∧ (KB148 ((cutS x_parts_here.1 none (some (-(1 : Int)))), ((cutS x_parts_here.2.1 (some (-(1 : Int))) none) ++ (cutS x_parts_here.2.1 none (some (-(1 : Int))))), x_parts_here.2.2)))))) else (KB148 x_parts_here)))) ∧ ∀ r163 : (Str × Str × Str), KB148 r163 → (KM r163)))))) else (if (decide (V.int r15 = V.int (1 : Int))) = true then (x_parts_here.2.1.length ≤ sizeLine ∧ (if (decide ((x_parts_here.2.1.length : Int) < (3 : Int))) = true then ((x_parts_here.2.1.length + x_parts_here.2.1.length ≤ sizeLine) ∧ (KM (x_parts_here.1, (x_parts_here.2.1 ++ x_parts_here.2.1), x_parts_here.2.2))) else (if (decide (V.int r15 = V.int (2 : Int))) = true then (x_parts_here.2.1.length ≤ sizeLine ∧ (if (decide (V.int (x_parts_here.2.1.length : Int) = V.int (1 : Int))) = true then (x_parts_here.2.2.length ≤ sizeLine ∧ (if (decide ((x_parts_here.2.2.length : Int) < (4 : Int))) = true then ((x_parts_here.2.1.length + x_parts_here.2.2.length ≤ sizeLine) ∧ (KM (x_parts_here.1, x_parts_here.2.1, (x_parts_here.2.1 ++ x_parts_here.2.2)))) else (∃ KB183 : (Str × Str × Str) → Prop, (x_parts_here.1.length ≤ sizeLine ∧ (x_parts_here.2.1.length ≤ sizeLine ∧ (if (decide (V.str (cutS x_parts_here.1 (some (-(1 : Int))) none) = V.str (cutS x_parts_here.2.1 (some (-(1 : Int))) none))) = true then (x_parts_here.1.length ≤ sizeLine ∧ (x_parts_here.2.1.length ≤ sizeLine ∧ (x_parts_here.2.1.length ≤ sizeLine ∧ (((cutS x_parts_here.2.1 (some (-(1 : Int))) none).length + (cutS x_parts_here.2.1 none (some (-(1 : Int)))).length ≤ sizeLine) ∧ (KB183 ((cutS x_parts_here.1 none (some (-(1 : Int)))), ((cutS x_parts_here.2.1 (some (-(1 : Int))) none) ++ (cutS x_parts_here.2.1 none (some (-(1 : Int))))), x_parts_here.2.2)))))) else (KB183 x_parts_here)))) ∧ ∀ r198 : (Str × Str × Str), KB183 r198 → (KM r198)))) else (∃ KB201 : (Str × Str × Str) → Prop, (x_parts_here.1.length ≤ sizeLine ∧ (x_parts_here.2.1.length ≤ sizeLine ∧ (if (decide (V.str (cutS x_parts_here.1 (some (-(1 : Int))) none) = V.str (cutS x_parts_here.2.1 (some (-(1 : Int))) none))) = true then (x_parts_here.1.length ≤ sizeLine ∧ (x_parts_here.2.1.length ≤ sizeLine ∧ (x_parts_here.2.1.length ≤ sizeLine ∧ (((cutS x_parts_here.2.1 (some (-(1 : Int))) none).length + (cutS x_parts_here.2.1 none (some (-(1 : Int)))).length ≤ sizeLine) ∧ (KB201 ((cutS x_parts_here.1 none (some (-(1 : Int)))), ((cutS x_parts_here.2.1 (some (-(1 : Int))) none) ++ (cutS x_parts_here.2.1 none (some (-(1 : Int))))), x_parts_here.2.2)))))) else (KB201 x_parts_here)))) ∧ ∀ r216 : (Str × Str × Str), KB201 r216 → (KM r216)))) else (∃ KB219 : (Str × Str × Str) → Prop, (x_parts_here.1.length ≤ sizeLine ∧ (x_parts_here.2.1.length ≤ sizeLine ∧ (if (decide (V.str (cutS x_parts_here.1 (some (-(1 : Int))) none) = V.str (cutS x_parts_here.2.1 (some (-(1 : Int))) none))) = true then (x_parts_here.1.length ≤ sizeLine ∧ (x_parts_here.2.1.length ≤ sizeLine ∧ (x_parts_here.2.1.length ≤ sizeLine ∧ (((cutS x_parts_here.2.1 (some (-(1 : Int))) none).length + (cutS x_parts_here.2.1 none (some (-(1 : Int)))).length ≤ sizeLine) ∧ (KB219 ((cutS x_parts_here.1 none (some (-(1 : Int)))), ((cutS x_parts_here.2.1 (some (-(1 : Int))) none) ++ (cutS x_parts_here.2.1 none (some (-(1 : Int))))), x_parts_here.2.2)))))) else (KB219 x_parts_here)))) ∧ ∀ r234 : (Str × Str × Str), KB219 r234 → (KM r234))))) else (if (decide (V.int r15 = V.int (2 : Int))) = true then (x_parts_here.2.1.length ≤ sizeLine ∧ (if (decide (V.int (x_parts_here.2.1.length : Int) = V.int (1 : Int))) = true then (x_parts_here.2.2.length ≤ sizeLine ∧ (if (decide ((x_parts_here.2.2.length : Int) < (4 : Int))) = true then ((x_parts_here.2.1.length + x_parts_here.2.2.length ≤ sizeLine) ∧ (KM (x_parts_here.1, x_parts_here.2.1, (x_parts_here.2.1 ++ x_parts_here.2.2)))) else (∃ KB246 : (Str × Str × Str) → Prop, (x_parts_here.1.length ≤ sizeLine ∧ (x_parts_here.2.1.length ≤ sizeLine ∧ (if (decide (V.str (cutS x_parts_here.1 (some (-(1 : Int))) none) = V.str (cutS x_parts_here.2.1 (some (-(1 : Int))) none))) = true then (x_parts_here.1.length ≤ sizeLine ∧ (x_parts_here.2.1.length ≤ sizeLine ∧ (x_parts_here.2.1.length ≤ sizeLine ∧ (((cutS x_parts_here.2.1 (some (-(1 : Int))) none).length + (cutS x_parts_here.2.1 none (some (-(1 : Int)))).length ≤ sizeLine) ∧ (KB246 ((cutS x_parts_here.1 none (some (-(1 : Int)))), ((cutS x_parts_here.2.1 (some (-(1 : Int))) none) ++ (cutS x_parts_here.2.1 none (some (-(1 : Int))))), x_parts_here.2.2)))))) else (KB246 x_parts_here)))) ∧ ∀ r261 : (Str × Str × Str), KB246 r261 → (KM r261)))) else (∃ KB264 : (Str × Str × Str) → Prop, (x_parts_here.1.length ≤ sizeLine ∧ (x_parts_here.2.1.length ≤ sizeLine ∧ (if (decide (V.str (cutS x_parts_here.1 (some (-(1 : Int))) none) = V.str (cutS x_parts_here.2.1 (some (-(1 : Int))) none))) = true then (x_parts_here.1.length ≤ sizeLine ∧ (x_parts_here.2.1.length ≤ sizeLine ∧ (x_parts_here.2.1.length ≤ sizeLine ∧ (((cutS x_parts_here.2.1 (some (-(1 : Int))) none).length + (cutS x_parts_here.2.1 none (some (-(1 : Int)))).length ≤ sizeLine) ∧ (KB264 ((cutS x_parts_here.1 none (some (-(1 : Int)))), ((cutS x_parts_here.2.1 (some (-(1 : Int))) none) ++ (cutS x_parts_here.2.1 none (some (-(1 : Int))))), x_parts_here.2.2)))))) else (KB264 x_parts_here)))) ∧ ∀ r279 : (Str × Str × Str), KB264 r279 → (KM r279)))) else (∃ KB282 : (Str × Str × Str) → Prop, (x_parts_here.1.length ≤ sizeLine ∧ (x_parts_here.2.1.length ≤ sizeLine ∧ (if (decide (V.str (cutS x_parts_here.1 (some (-(1 : Int))) none) = V.str (cutS x_parts_here.2.1 (some (-(1 : Int))) none))) = true then (x_parts_here.1.length ≤ sizeLine ∧ (x_parts_here.2.1.length ≤ sizeLine ∧ (x_parts_here.2.1.length ≤ sizeLine ∧ (((cutS x_parts_here.2.1 (some (-(1 : Int))) none).length + (cutS x_parts_here.2.1 none (some (-(1 : Int)))).length ≤ sizeLine) ∧ (KB282 ((cutS x_parts_here.1 none (some (-(1 : Int)))), ((cutS x_parts_here.2.1 (some (-(1 : Int))) none) ++ (cutS x_parts_here.2.1 none (some (-(1 : Int))))), x_parts_here.2.2)))))) else (KB282 x_parts_here)))) ∧ ∀ r297 : (Str × Str × Str), KB282 r297 → (KM r297))))))
def sp_alike (A : Ad) : Sp := fun vs H Q _ => ∃ (ms : List Addr) (ap : Addr) (v_parts_here : V) (x_parts_here : (Str × Str × Str)) (KM : (Str × Str × Str) → Prop), vs = [.ref ap, v_parts_here] ∧ Wd ms [ap] [] H H ∧ rep ms H (D.tup [(D.v (V.str x_parts_here.1)), (D.v (V.str x_parts_here.2.1)), (D.v (V.str x_parts_here.2.2))]) v_parts_here ∧ M_alike x_parts_here KM ∧ ∀ (r : (Str × Str × Str)) (u : V) (H1 : Hp), KM r → Ret [ap] H H1 → rep ms H1 (D.tup [(D.v (V.str r.1)), (D.v (V.str r.2.1)), (D.v (V.str r.2.2))]) u → Q u H1
set_option maxHeartbeats 16000000 in
theorem ok_alike {P : Program} {w : World} {K : PySem.W.Frag} {mg : Str → Option Value} {base : Heap} {A : Ad} (T : Txt w K mg A) : FnOk P w K mg base CX0 2 A.a_alike A.d_alike ["_law_pot_here", "_law_parts_here"] (sp_alike A) := by
  refine T.F_alike.ok sc_alike (fun vs H Q E h => ?_) (fun cdv A_ outer s_ H_0 vs Q E hr h => ?_)
  · obtain ⟨ms, ap, v_parts_here, x_parts_here, KM, rfl, _⟩ := h
    rfl
  · obtain ⟨ms, ap, v_parts_here, x_parts_here, KM, rfl, hW, h_parts_here, hM, hQ⟩ := h
    unfold M_alike at hM
    refine ⟨_, (pss_cons (ps_asg (pv 1) (pg_tup rfl (pgs_cons (pg_name (i := 2) sc_alike.nd rfl (by first | exact Or.inl rfl | exact Or.inr rfl)) (pgs_cons (pg_name (i := 3) sc_alike.nd rfl (by first | exact Or.inl rfl | exact Or.inr rfl)) (pgs_cons (pg_name (i := 4) sc_alike.nd rfl (by first | exact Or.inl rfl | exact Or.inr rfl)) pgs_nil))))) (pss_cons (ps_set (i := 5) sc_alike.nd rfl (by first | exact Or.inl rfl | exact Or.inr rfl) (pe_call (ok_draw T) (hr.mono (by decide)) (by rfl) T.g_draw T.F_draw.kp T.b_draw .nil pass0 (pa_cons (pv 0) (pa_cons pe_int pa_nil)))) (pss_cons (ps_if (PW.pt (pw_and (pt_cmpR op_eq (pv 5) pe_int (nomark _)) (pw_and1 (pt_cmpR op_lt (pe_callB call_len_str (by rfl) T.z_len PySem.boot_len (pa_cons (pv 2) pa_nil)) pe_int (nomark _))))) (pss_one (ps_ret (pe_tup (pa_cons (pe_op op_add_str (pv 2) (pe_slice sl_str (pv 3) po_none (po_some pe_int))) (pa_cons (pe_op op_add_str (pe_slice sl_str (pv 3) (po_some pe_int) po_none) (pe_slice sl_str (pv 3) po_none (po_some pe_int))) (pa_cons (pv 4) pa_nil)))))) pss_nil) (pss_cons (ps_if (PW.pt (pw_and (pt_cmpR op_eq (pv 5) pe_int (nomark _)) (pw_and1 (pt_cmpR op_lt (pe_callB call_len_str (by rfl) T.z_len PySem.boot_len (pa_cons (pv 3) pa_nil)) pe_int (nomark _))))) (pss_one (ps_ret (pe_tup (pa_cons (pv 2) (pa_cons (pe_op op_add_str (pv 3) (pv 3)) (pa_cons (pv 4) pa_nil)))))) pss_nil) (pss_cons (ps_if (PW.pt (pw_and (pt_cmpR op_eq (pv 5) pe_int (nomark _)) (pw_and (pt_cmpR op_eq (pe_callB call_len_str (by rfl) T.z_len PySem.boot_len (pa_cons (pv 3) pa_nil)) pe_int (nomark _)) (pw_and1 (pt_cmpR op_lt (pe_callB call_len_str (by rfl) T.z_len PySem.boot_len (pa_cons (pv 4) pa_nil)) pe_int (nomark _)))))) (pss_one (ps_ret (pe_tup (pa_cons (pv 2) (pa_cons (pv 3) (pa_cons (pe_op op_add_str (pv 3) (pv 4)) pa_nil)))))) pss_nil) (pss_one (ps_ret (pe_up (pe_ifExp (pt_cmpR op_eq (pe_slice sl_str (pv 2) (po_some (pe_un un_neg pe_int)) po_none) (pe_slice sl_str (pv 3) (po_some (pe_un un_neg pe_int)) po_none) (nomark _)) (pe_tup (pa_cons (pe_slice sl_str (pv 2) po_none (po_some (pe_un un_neg pe_int))) (pa_cons (pe_op op_add_str (pe_slice sl_str (pv 3) (po_some (pe_un un_neg pe_int)) po_none) (pe_slice sl_str (pv 3) po_none (po_some (pe_un un_neg pe_int)))) (pa_cons (pv 4) pa_nil)))) (pv 1)))))))))), ?_⟩
    refine ⟨_, rfl, ?_⟩
    apply rep_gtup h_parts_here rfl
    intro vs1 hv2
    obtain ⟨u3, us4, rfl, h5, hv6⟩ := repL_uncons hv2
    obtain rfl := of_v h5
    obtain ⟨u7, us8, rfl, h9, hv10⟩ := repL_uncons hv6
    obtain rfl := of_v h9
    obtain ⟨u11, us12, rfl, h13, hv14⟩ := repL_uncons hv10
    obtain rfl := of_v h13
    obtain rfl := repL_empty hv14
    refine ⟨_, _, rfl, ?_⟩
    refine ⟨_, _, rfl, ?_⟩
    refine ⟨_, _, rfl, ?_⟩
    refine ⟨rfl, ?_⟩
    refine ⟨_, rfl, ?_⟩
    refine ⟨ms, ap, (4 : Int), _, rfl, hW.enterP, hM, fun r15 u18 H19 hM e17 h16 => ?_⟩
    replace h_parts_here := rep_ret hW e17 h_parts_here
    replace hW := hW.retP e17
    obtain rfl := of_v h16
    refine ⟨_, rfl, ?_⟩
    refine ⟨rfl, ?_⟩
    refine ⟨_, rfl, ?_⟩
    refine ite3 hM (fun hM => ?_) (fun hM => ?_)
    · skip
      refine ⟨_, rfl, ?_⟩
      obtain ⟨g20, hM⟩ := hM
      refine ⟨_, rfl, g20, ?_⟩
      refine ⟨_, _, rfl, rfl, ?_⟩
      refine ⟨_, rfl, ?_⟩
      refine ite3 hM (fun hM => ?_) (fun hM => ?_)
      · skip
        refine ⟨_, rfl, ?_⟩
        refine ⟨_, rfl, ?_⟩
        refine ⟨_, rfl, ?_⟩
        obtain ⟨g21, hM⟩ := hM
        refine ⟨_, rfl, g21, ?_⟩
        obtain ⟨g22, hM⟩ := hM
        refine ⟨_, _, rfl, rfl, g22, ?_⟩
        refine ⟨_, rfl, ?_⟩
        refine ⟨_, rfl, ?_⟩
        obtain ⟨g23, hM⟩ := hM
        refine ⟨_, rfl, g23, ?_⟩
        refine ⟨_, rfl, ?_⟩
        refine ⟨_, rfl, ?_⟩
        obtain ⟨g24, hM⟩ := hM
        refine ⟨_, rfl, g24, ?_⟩
        obtain ⟨g25, hM⟩ := hM
        refine ⟨_, _, rfl, rfl, g25, ?_⟩
        refine ⟨_, rfl, ?_⟩
        refine ⟨(by show 3 ≤ sizeLine; decide), ?_⟩
        intro p26 n30
        have e27 := Rx.Ext.new (H := H19) (o := (HO.tup [V.str (x_parts_here.1 ++ (cutS x_parts_here.2.1 none (some (1 : Int)))), V.str ((cutS x_parts_here.2.1 (some (1 : Int)) none) ++ (cutS x_parts_here.2.1 none (some (1 : Int)))), V.str x_parts_here.2.2])) n30
        have hp28 : upd H19 p26 (HO.tup [V.str (x_parts_here.1 ++ (cutS x_parts_here.2.1 none (some (1 : Int)))), V.str ((cutS x_parts_here.2.1 (some (1 : Int)) none) ++ (cutS x_parts_here.2.1 none (some (1 : Int)))), V.str x_parts_here.2.2]) p26 = some (HO.tup [V.str (x_parts_here.1 ++ (cutS x_parts_here.2.1 none (some (1 : Int)))), V.str ((cutS x_parts_here.2.1 (some (1 : Int)) none) ++ (cutS x_parts_here.2.1 none (some (1 : Int)))), V.str x_parts_here.2.2]) := upd_same
        generalize upd H19 p26 (HO.tup [V.str (x_parts_here.1 ++ (cutS x_parts_here.2.1 none (some (1 : Int)))), V.str ((cutS x_parts_here.2.1 (some (1 : Int)) none) ++ (cutS x_parts_here.2.1 none (some (1 : Int)))), V.str x_parts_here.2.2]) = H31 at e27 hp28 ⊢
        have h29 : rep ms H31 (D.tup [(D.v (V.str (x_parts_here.1 ++ (cutS x_parts_here.2.1 none (some (1 : Int)))))), (D.v (V.str ((cutS x_parts_here.2.1 (some (1 : Int)) none) ++ (cutS x_parts_here.2.1 none (some (1 : Int)))))), (D.v (V.str x_parts_here.2.2))]) (.ref p26) := rep_tup_mk hW n30 e27 hp28 (repL_cons rep_v (repL_cons rep_v (repL_cons rep_v repL_nil)))
        replace h_parts_here := rep_ext e27 h_parts_here
        replace hW := hW.ret0 e27
        exact hQ ((x_parts_here.1 ++ (cutS x_parts_here.2.1 none (some (1 : Int)))), ((cutS x_parts_here.2.1 (some (1 : Int)) none) ++ (cutS x_parts_here.2.1 none (some (1 : Int)))), x_parts_here.2.2) _ _ hM hW.out h29
      · skip
        refine ⟨_, rfl, ?_⟩
        refine ⟨rfl, ?_⟩
        refine ⟨_, rfl, ?_⟩
        refine ite3 hM (fun hM => ?_) (fun hM => ?_)
        · skip
          refine ⟨_, rfl, ?_⟩
          obtain ⟨g32, hM⟩ := hM
          refine ⟨_, rfl, g32, ?_⟩
          refine ⟨_, _, rfl, rfl, ?_⟩
          refine ⟨_, rfl, ?_⟩
          refine ite3 hM (fun hM => ?_) (fun hM => ?_)
          · skip
            refine ⟨_, rfl, ?_⟩
            refine ⟨_, rfl, ?_⟩
            refine ⟨_, rfl, ?_⟩
            obtain ⟨g33, hM⟩ := hM
            refine ⟨_, _, rfl, rfl, g33, ?_⟩
            refine ⟨_, rfl, ?_⟩
            refine ⟨(by show 3 ≤ sizeLine; decide), ?_⟩
            intro p34 n38
            have e35 := Rx.Ext.new (H := H19) (o := (HO.tup [V.str x_parts_here.1, V.str (x_parts_here.2.1 ++ x_parts_here.2.1), V.str x_parts_here.2.2])) n38
            have hp36 : upd H19 p34 (HO.tup [V.str x_parts_here.1, V.str (x_parts_here.2.1 ++ x_parts_here.2.1), V.str x_parts_here.2.2]) p34 = some (HO.tup [V.str x_parts_here.1, V.str (x_parts_here.2.1 ++ x_parts_here.2.1), V.str x_parts_here.2.2]) := upd_same
            generalize upd H19 p34 (HO.tup [V.str x_parts_here.1, V.str (x_parts_here.2.1 ++ x_parts_here.2.1), V.str x_parts_here.2.2]) = H39 at e35 hp36 ⊢
            have h37 : rep ms H39 (D.tup [(D.v (V.str x_parts_here.1)), (D.v (V.str (x_parts_here.2.1 ++ x_parts_here.2.1))), (D.v (V.str x_parts_here.2.2))]) (.ref p34) := rep_tup_mk hW n38 e35 hp36 (repL_cons rep_v (repL_cons rep_v (repL_cons rep_v repL_nil)))
            replace h_parts_here := rep_ext e35 h_parts_here
            replace hW := hW.ret0 e35
            exact hQ (x_parts_here.1, (x_parts_here.2.1 ++ x_parts_here.2.1), x_parts_here.2.2) _ _ hM hW.out h37
          · skip
            refine ⟨_, rfl, ?_⟩
            refine ⟨rfl, ?_⟩
            refine ⟨_, rfl, ?_⟩
            refine ite3 hM (fun hM => ?_) (fun hM => ?_)
            · skip
              refine ⟨_, rfl, ?_⟩
              obtain ⟨g40, hM⟩ := hM
              refine ⟨_, rfl, g40, ?_⟩
              refine ⟨rfl, ?_⟩
              refine ⟨_, rfl, ?_⟩
              refine ite3 hM (fun hM => ?_) (fun hM => ?_)
              · skip
                refine ⟨_, rfl, ?_⟩
                obtain ⟨g41, hM⟩ := hM
                refine ⟨_, rfl, g41, ?_⟩
                refine ⟨_, _, rfl, rfl, ?_⟩
                refine ⟨_, rfl, ?_⟩
                refine ite3 hM (fun hM => ?_) (fun hM => ?_)
                · skip
                  refine ⟨_, rfl, ?_⟩
                  refine ⟨_, rfl, ?_⟩
                  refine ⟨_, rfl, ?_⟩
                  refine ⟨_, rfl, ?_⟩
                  obtain ⟨g42, hM⟩ := hM
                  refine ⟨_, _, rfl, rfl, g42, ?_⟩
                  refine ⟨(by show 3 ≤ sizeLine; decide), ?_⟩
                  intro p43 n47
                  have e44 := Rx.Ext.new (H := H19) (o := (HO.tup [V.str x_parts_here.1, V.str x_parts_here.2.1, V.str (x_parts_here.2.1 ++ x_parts_here.2.2)])) n47
                  have hp45 : upd H19 p43 (HO.tup [V.str x_parts_here.1, V.str x_parts_here.2.1, V.str (x_parts_here.2.1 ++ x_parts_here.2.2)]) p43 = some (HO.tup [V.str x_parts_here.1, V.str x_parts_here.2.1, V.str (x_parts_here.2.1 ++ x_parts_here.2.2)]) := upd_same
                  generalize upd H19 p43 (HO.tup [V.str x_parts_here.1, V.str x_parts_here.2.1, V.str (x_parts_here.2.1 ++ x_parts_here.2.2)]) = H48 at e44 hp45 ⊢
                  have h46 : rep ms H48 (D.tup [(D.v (V.str x_parts_here.1)), (D.v (V.str x_parts_here.2.1)), (D.v (V.str (x_parts_here.2.1 ++ x_parts_here.2.2)))]) (.ref p43) := rep_tup_mk hW n47 e44 hp45 (repL_cons rep_v (repL_cons rep_v (repL_cons rep_v repL_nil)))
                  replace h_parts_here := rep_ext e44 h_parts_here
                  replace hW := hW.ret0 e44
                  exact hQ (x_parts_here.1, x_parts_here.2.1, (x_parts_here.2.1 ++ x_parts_here.2.2)) _ _ hM hW.out h46
                · skip
                  obtain ⟨KB49, hM, hKKB49⟩ := hM
                  refine ⟨fun v H1 => ∃ r : (Str × Str × Str), KB49 r ∧ Wd ms [ap] [] H_0 H1 ∧ Keep ms H19 H1 ∧ rep ms H1 (D.tup [(D.v (V.str r.1)), (D.v (V.str r.2.1)), (D.v (V.str r.2.2))]) v, ?_, ?_⟩
                  · skip
                    have hj51 := Keep.refl (ms := ms) (H := H19)
                    refine ⟨_, rfl, ?_⟩
                    refine ⟨_, rfl, ?_⟩
                    refine ⟨_, rfl, ?_⟩
                    obtain ⟨g52, hM⟩ := hM
                    refine ⟨_, rfl, g52, ?_⟩
                    refine ⟨_, rfl, ?_⟩
                    refine ⟨_, rfl, ?_⟩
                    refine ⟨_, rfl, ?_⟩
                    obtain ⟨g53, hM⟩ := hM
                    refine ⟨_, rfl, g53, ?_⟩
                    refine ⟨rfl, ?_⟩
                    refine ⟨_, rfl, ?_⟩
                    refine ite3 hM (fun hM => ?_) (fun hM => ?_)
                    · skip
                      refine ⟨_, rfl, ?_⟩
                      refine ⟨_, rfl, ?_⟩
                      refine ⟨_, rfl, ?_⟩
                      obtain ⟨g54, hM⟩ := hM
                      refine ⟨_, rfl, g54, ?_⟩
                      refine ⟨_, rfl, ?_⟩
                      refine ⟨_, rfl, ?_⟩
                      refine ⟨_, rfl, ?_⟩
                      obtain ⟨g55, hM⟩ := hM
                      refine ⟨_, rfl, g55, ?_⟩
                      refine ⟨_, rfl, ?_⟩
                      refine ⟨_, rfl, ?_⟩
                      refine ⟨_, rfl, ?_⟩
                      obtain ⟨g56, hM⟩ := hM
                      refine ⟨_, rfl, g56, ?_⟩
                      obtain ⟨g57, hM⟩ := hM
                      refine ⟨_, _, rfl, rfl, g57, ?_⟩
                      refine ⟨_, rfl, ?_⟩
                      refine ⟨(by show 3 ≤ sizeLine; decide), ?_⟩
                      intro p58 n62
                      have e59 := Rx.Ext.new (H := H19) (o := (HO.tup [V.str (cutS x_parts_here.1 none (some (-(1 : Int)))), V.str ((cutS x_parts_here.2.1 (some (-(1 : Int))) none) ++ (cutS x_parts_here.2.1 none (some (-(1 : Int))))), V.str x_parts_here.2.2])) n62
                      have hp60 : upd H19 p58 (HO.tup [V.str (cutS x_parts_here.1 none (some (-(1 : Int)))), V.str ((cutS x_parts_here.2.1 (some (-(1 : Int))) none) ++ (cutS x_parts_here.2.1 none (some (-(1 : Int))))), V.str x_parts_here.2.2]) p58 = some (HO.tup [V.str (cutS x_parts_here.1 none (some (-(1 : Int)))), V.str ((cutS x_parts_here.2.1 (some (-(1 : Int))) none) ++ (cutS x_parts_here.2.1 none (some (-(1 : Int))))), V.str x_parts_here.2.2]) := upd_same
                      generalize upd H19 p58 (HO.tup [V.str (cutS x_parts_here.1 none (some (-(1 : Int)))), V.str ((cutS x_parts_here.2.1 (some (-(1 : Int))) none) ++ (cutS x_parts_here.2.1 none (some (-(1 : Int))))), V.str x_parts_here.2.2]) = H63 at e59 hp60 ⊢
                      have h61 : rep ms H63 (D.tup [(D.v (V.str (cutS x_parts_here.1 none (some (-(1 : Int)))))), (D.v (V.str ((cutS x_parts_here.2.1 (some (-(1 : Int))) none) ++ (cutS x_parts_here.2.1 none (some (-(1 : Int))))))), (D.v (V.str x_parts_here.2.2))]) (.ref p58) := rep_tup_mk hW n62 e59 hp60 (repL_cons rep_v (repL_cons rep_v (repL_cons rep_v repL_nil)))
                      replace h_parts_here := rep_ext e59 h_parts_here
                      replace hj51 := keep_ext e59 hj51
                      replace hW := hW.ret0 e59
                      exact ⟨((cutS x_parts_here.1 none (some (-(1 : Int)))), ((cutS x_parts_here.2.1 (some (-(1 : Int))) none) ++ (cutS x_parts_here.2.1 none (some (-(1 : Int))))), x_parts_here.2.2), hM, hW, hj51, h61⟩
                    · skip
                      refine ⟨_, rfl, ?_⟩
                      exact ⟨x_parts_here, hM, hW, hj51, h_parts_here⟩
                  · skip
                    rintro u66 Hj50 ⟨r64, hr, hW, hj51, h65⟩
                    replace hM := hKKB49 r64 hr
                    replace h_parts_here := rep_keep hj51 h_parts_here
                    exact hQ r64 _ _ hM hW.out h65
              · skip
                refine iteF ?_
                obtain ⟨KB67, hM, hKKB67⟩ := hM
                refine ⟨fun v H1 => ∃ r : (Str × Str × Str), KB67 r ∧ Wd ms [ap] [] H_0 H1 ∧ Keep ms H19 H1 ∧ rep ms H1 (D.tup [(D.v (V.str r.1)), (D.v (V.str r.2.1)), (D.v (V.str r.2.2))]) v, ?_, ?_⟩
                · skip
                  have hj69 := Keep.refl (ms := ms) (H := H19)
                  refine ⟨_, rfl, ?_⟩
                  refine ⟨_, rfl, ?_⟩
                  refine ⟨_, rfl, ?_⟩
                  obtain ⟨g70, hM⟩ := hM
                  refine ⟨_, rfl, g70, ?_⟩
                  refine ⟨_, rfl, ?_⟩
                  refine ⟨_, rfl, ?_⟩
                  refine ⟨_, rfl, ?_⟩
                  obtain ⟨g71, hM⟩ := hM
                  refine ⟨_, rfl, g71, ?_⟩
                  refine ⟨rfl, ?_⟩
                  refine ⟨_, rfl, ?_⟩
                  refine ite3 hM (fun hM => ?_) (fun hM => ?_)
                  · skip
                    refine ⟨_, rfl, ?_⟩
                    refine ⟨_, rfl, ?_⟩
                    refine ⟨_, rfl, ?_⟩
                    obtain ⟨g72, hM⟩ := hM
                    refine ⟨_, rfl, g72, ?_⟩
                    refine ⟨_, rfl, ?_⟩
                    refine ⟨_, rfl, ?_⟩
                    refine ⟨_, rfl, ?_⟩
                    obtain ⟨g73, hM⟩ := hM
                    refine ⟨_, rfl, g73, ?_⟩
                    refine ⟨_, rfl, ?_⟩
                    refine ⟨_, rfl, ?_⟩
                    refine ⟨_, rfl, ?_⟩
                    obtain ⟨g74, hM⟩ := hM
                    refine ⟨_, rfl, g74, ?_⟩
                    obtain ⟨g75, hM⟩ := hM
                    refine ⟨_, _, rfl, rfl, g75, ?_⟩
                    refine ⟨_, rfl, ?_⟩
                    refine ⟨(by show 3 ≤ sizeLine; decide), ?_⟩
                    intro p76 n80
                    have e77 := Rx.Ext.new (H := H19) (o := (HO.tup [V.str (cutS x_parts_here.1 none (some (-(1 : Int)))), V.str ((cutS x_parts_here.2.1 (some (-(1 : Int))) none) ++ (cutS x_parts_here.2.1 none (some (-(1 : Int))))), V.str x_parts_here.2.2])) n80
                    have hp78 : upd H19 p76 (HO.tup [V.str (cutS x_parts_here.1 none (some (-(1 : Int)))), V.str ((cutS x_parts_here.2.1 (some (-(1 : Int))) none) ++ (cutS x_parts_here.2.1 none (some (-(1 : Int))))), V.str x_parts_here.2.2]) p76 = some (HO.tup [V.str (cutS x_parts_here.1 none (some (-(1 : Int)))), V.str ((cutS x_parts_here.2.1 (some (-(1 : Int))) none) ++ (cutS x_parts_here.2.1 none (some (-(1 : Int))))), V.str x_parts_here.2.2]) := upd_same
                    generalize upd H19 p76 (HO.tup [V.str (cutS x_parts_here.1 none (some (-(1 : Int)))), V.str ((cutS x_parts_here.2.1 (some (-(1 : Int))) none) ++ (cutS x_parts_here.2.1 none (some (-(1 : Int))))), V.str x_parts_here.2.2]) = H81 at e77 hp78 ⊢
                    have h79 : rep ms H81 (D.tup [(D.v (V.str (cutS x_parts_here.1 none (some (-(1 : Int)))))), (D.v (V.str ((cutS x_parts_here.2.1 (some (-(1 : Int))) none) ++ (cutS x_parts_here.2.1 none (some (-(1 : Int))))))), (D.v (V.str x_parts_here.2.2))]) (.ref p76) := rep_tup_mk hW n80 e77 hp78 (repL_cons rep_v (repL_cons rep_v (repL_cons rep_v repL_nil)))
                    replace h_parts_here := rep_ext e77 h_parts_here
                    replace hj69 := keep_ext e77 hj69
                    replace hW := hW.ret0 e77
                    exact ⟨((cutS x_parts_here.1 none (some (-(1 : Int)))), ((cutS x_parts_here.2.1 (some (-(1 : Int))) none) ++ (cutS x_parts_here.2.1 none (some (-(1 : Int))))), x_parts_here.2.2), hM, hW, hj69, h79⟩
                  · skip
                    refine ⟨_, rfl, ?_⟩
                    exact ⟨x_parts_here, hM, hW, hj69, h_parts_here⟩
                · skip
                  rintro u84 Hj68 ⟨r82, hr, hW, hj69, h83⟩
                  replace hM := hKKB67 r82 hr
                  replace h_parts_here := rep_keep hj69 h_parts_here
                  exact hQ r82 _ _ hM hW.out h83
            · skip
              refine iteF ?_
              obtain ⟨KB85, hM, hKKB85⟩ := hM
              refine ⟨fun v H1 => ∃ r : (Str × Str × Str), KB85 r ∧ Wd ms [ap] [] H_0 H1 ∧ Keep ms H19 H1 ∧ rep ms H1 (D.tup [(D.v (V.str r.1)), (D.v (V.str r.2.1)), (D.v (V.str r.2.2))]) v, ?_, ?_⟩
              · skip
                have hj87 := Keep.refl (ms := ms) (H := H19)
                refine ⟨_, rfl, ?_⟩
                refine ⟨_, rfl, ?_⟩
                refine ⟨_, rfl, ?_⟩
                obtain ⟨g88, hM⟩ := hM
                refine ⟨_, rfl, g88, ?_⟩
                refine ⟨_, rfl, ?_⟩
                refine ⟨_, rfl, ?_⟩
                refine ⟨_, rfl, ?_⟩
                obtain ⟨g89, hM⟩ := hM
                refine ⟨_, rfl, g89, ?_⟩
                refine ⟨rfl, ?_⟩
                refine ⟨_, rfl, ?_⟩
                refine ite3 hM (fun hM => ?_) (fun hM => ?_)
                · skip
                  refine ⟨_, rfl, ?_⟩
                  refine ⟨_, rfl, ?_⟩
                  refine ⟨_, rfl, ?_⟩
                  obtain ⟨g90, hM⟩ := hM
                  refine ⟨_, rfl, g90, ?_⟩
                  refine ⟨_, rfl, ?_⟩
                  refine ⟨_, rfl, ?_⟩
                  refine ⟨_, rfl, ?_⟩
                  obtain ⟨g91, hM⟩ := hM
                  refine ⟨_, rfl, g91, ?_⟩
                  refine ⟨_, rfl, ?_⟩
                  refine ⟨_, rfl, ?_⟩
                  refine ⟨_, rfl, ?_⟩
                  obtain ⟨g92, hM⟩ := hM
                  refine ⟨_, rfl, g92, ?_⟩
                  obtain ⟨g93, hM⟩ := hM
                  refine ⟨_, _, rfl, rfl, g93, ?_⟩
                  refine ⟨_, rfl, ?_⟩
                  refine ⟨(by show 3 ≤ sizeLine; decide), ?_⟩
                  intro p94 n98
                  have e95 := Rx.Ext.new (H := H19) (o := (HO.tup [V.str (cutS x_parts_here.1 none (some (-(1 : Int)))), V.str ((cutS x_parts_here.2.1 (some (-(1 : Int))) none) ++ (cutS x_parts_here.2.1 none (some (-(1 : Int))))), V.str x_parts_here.2.2])) n98
                  have hp96 : upd H19 p94 (HO.tup [V.str (cutS x_parts_here.1 none (some (-(1 : Int)))), V.str ((cutS x_parts_here.2.1 (some (-(1 : Int))) none) ++ (cutS x_parts_here.2.1 none (some (-(1 : Int))))), V.str x_parts_here.2.2]) p94 = some (HO.tup [V.str (cutS x_parts_here.1 none (some (-(1 : Int)))), V.str ((cutS x_parts_here.2.1 (some (-(1 : Int))) none) ++ (cutS x_parts_here.2.1 none (some (-(1 : Int))))), V.str x_parts_here.2.2]) := upd_same
                  generalize upd H19 p94 (HO.tup [V.str (cutS x_parts_here.1 none (some (-(1 : Int)))), V.str ((cutS x_parts_here.2.1 (some (-(1 : Int))) none) ++ (cutS x_parts_here.2.1 none (some (-(1 : Int))))), V.str x_parts_here.2.2]) = H99 at e95 hp96 ⊢
                  have h97 : rep ms H99 (D.tup [(D.v (V.str (cutS x_parts_here.1 none (some (-(1 : Int)))))), (D.v (V.str ((cutS x_parts_here.2.1 (some (-(1 : Int))) none) ++ (cutS x_parts_here.2.1 none (some (-(1 : Int))))))), (D.v (V.str x_parts_here.2.2))]) (.ref p94) := rep_tup_mk hW n98 e95 hp96 (repL_cons rep_v (repL_cons rep_v (repL_cons rep_v repL_nil)))
                  replace h_parts_here := rep_ext e95 h_parts_here
                  replace hj87 := keep_ext e95 hj87
                  replace hW := hW.ret0 e95
                  exact ⟨((cutS x_parts_here.1 none (some (-(1 : Int)))), ((cutS x_parts_here.2.1 (some (-(1 : Int))) none) ++ (cutS x_parts_here.2.1 none (some (-(1 : Int))))), x_parts_here.2.2), hM, hW, hj87, h97⟩
                · skip
                  refine ⟨_, rfl, ?_⟩
                  exact ⟨x_parts_here, hM, hW, hj87, h_parts_here⟩
              · skip
                rintro u102 Hj86 ⟨r100, hr, hW, hj87, h101⟩
                replace hM := hKKB85 r100 hr
                replace h_parts_here := rep_keep hj87 h_parts_here
                exact hQ r100 _ _ hM hW.out h101
        · skip
          refine iteF ?_
          refine ⟨_, rfl, ?_⟩
          refine ⟨rfl, ?_⟩
          refine ⟨_, rfl, ?_⟩
          refine ite3 hM (fun hM => ?_) (fun hM => ?_)
          · skip
            refine ⟨_, rfl, ?_⟩
            obtain ⟨g103, hM⟩ := hM
            refine ⟨_, rfl, g103, ?_⟩
            refine ⟨rfl, ?_⟩
            refine ⟨_, rfl, ?_⟩
            refine ite3 hM (fun hM => ?_) (fun hM => ?_)
            · skip
              refine ⟨_, rfl, ?_⟩
              obtain ⟨g104, hM⟩ := hM
              refine ⟨_, rfl, g104, ?_⟩
              refine ⟨_, _, rfl, rfl, ?_⟩
              refine ⟨_, rfl, ?_⟩
              refine ite3 hM (fun hM => ?_) (fun hM => ?_)
              · skip
                refine ⟨_, rfl, ?_⟩
                refine ⟨_, rfl, ?_⟩
                refine ⟨_, rfl, ?_⟩
                refine ⟨_, rfl, ?_⟩
                obtain ⟨g105, hM⟩ := hM
                refine ⟨_, _, rfl, rfl, g105, ?_⟩
                refine ⟨(by show 3 ≤ sizeLine; decide), ?_⟩
                intro p106 n110
                have e107 := Rx.Ext.new (H := H19) (o := (HO.tup [V.str x_parts_here.1, V.str x_parts_here.2.1, V.str (x_parts_here.2.1 ++ x_parts_here.2.2)])) n110
                have hp108 : upd H19 p106 (HO.tup [V.str x_parts_here.1, V.str x_parts_here.2.1, V.str (x_parts_here.2.1 ++ x_parts_here.2.2)]) p106 = some (HO.tup [V.str x_parts_here.1, V.str x_parts_here.2.1, V.str (x_parts_here.2.1 ++ x_parts_here.2.2)]) := upd_same
                generalize upd H19 p106 (HO.tup [V.str x_parts_here.1, V.str x_parts_here.2.1, V.str (x_parts_here.2.1 ++ x_parts_here.2.2)]) = H111 at e107 hp108 ⊢
                have h109 : rep ms H111 (D.tup [(D.v (V.str x_parts_here.1)), (D.v (V.str x_parts_here.2.1)), (D.v (V.str (x_parts_here.2.1 ++ x_parts_here.2.2)))]) (.ref p106) := rep_tup_mk hW n110 e107 hp108 (repL_cons rep_v (repL_cons rep_v (repL_cons rep_v repL_nil)))
                replace h_parts_here := rep_ext e107 h_parts_here
                replace hW := hW.ret0 e107
                exact hQ (x_parts_here.1, x_parts_here.2.1, (x_parts_here.2.1 ++ x_parts_here.2.2)) _ _ hM hW.out h109
              · skip
                obtain ⟨KB112, hM, hKKB112⟩ := hM
                refine ⟨fun v H1 => ∃ r : (Str × Str × Str), KB112 r ∧ Wd ms [ap] [] H_0 H1 ∧ Keep ms H19 H1 ∧ rep ms H1 (D.tup [(D.v (V.str r.1)), (D.v (V.str r.2.1)), (D.v (V.str r.2.2))]) v, ?_, ?_⟩
                · skip
                  have hj114 := Keep.refl (ms := ms) (H := H19)
                  refine ⟨_, rfl, ?_⟩
                  refine ⟨_, rfl, ?_⟩
                  refine ⟨_, rfl, ?_⟩
                  obtain ⟨g115, hM⟩ := hM
                  refine ⟨_, rfl, g115, ?_⟩
                  refine ⟨_, rfl, ?_⟩
                  refine ⟨_, rfl, ?_⟩
                  refine ⟨_, rfl, ?_⟩
                  obtain ⟨g116, hM⟩ := hM
                  refine ⟨_, rfl, g116, ?_⟩
                  refine ⟨rfl, ?_⟩
                  refine ⟨_, rfl, ?_⟩
                  refine ite3 hM (fun hM => ?_) (fun hM => ?_)
                  · skip
                    refine ⟨_, rfl, ?_⟩
                    refine ⟨_, rfl, ?_⟩
                    refine ⟨_, rfl, ?_⟩
                    obtain ⟨g117, hM⟩ := hM
                    refine ⟨_, rfl, g117, ?_⟩
                    refine ⟨_, rfl, ?_⟩
                    refine ⟨_, rfl, ?_⟩
                    refine ⟨_, rfl, ?_⟩
                    obtain ⟨g118, hM⟩ := hM
                    refine ⟨_, rfl, g118, ?_⟩
                    refine ⟨_, rfl, ?_⟩
                    refine ⟨_, rfl, ?_⟩
                    refine ⟨_, rfl, ?_⟩
                    obtain ⟨g119, hM⟩ := hM
                    refine ⟨_, rfl, g119, ?_⟩
                    obtain ⟨g120, hM⟩ := hM
                    refine ⟨_, _, rfl, rfl, g120, ?_⟩
                    refine ⟨_, rfl, ?_⟩
                    refine ⟨(by show 3 ≤ sizeLine; decide), ?_⟩
                    intro p121 n125
                    have e122 := Rx.Ext.new (H := H19) (o := (HO.tup [V.str (cutS x_parts_here.1 none (some (-(1 : Int)))), V.str ((cutS x_parts_here.2.1 (some (-(1 : Int))) none) ++ (cutS x_parts_here.2.1 none (some (-(1 : Int))))), V.str x_parts_here.2.2])) n125
                    have hp123 : upd H19 p121 (HO.tup [V.str (cutS x_parts_here.1 none (some (-(1 : Int)))), V.str ((cutS x_parts_here.2.1 (some (-(1 : Int))) none) ++ (cutS x_parts_here.2.1 none (some (-(1 : Int))))), V.str x_parts_here.2.2]) p121 = some (HO.tup [V.str (cutS x_parts_here.1 none (some (-(1 : Int)))), V.str ((cutS x_parts_here.2.1 (some (-(1 : Int))) none) ++ (cutS x_parts_here.2.1 none (some (-(1 : Int))))), V.str x_parts_here.2.2]) := upd_same
                    generalize upd H19 p121 (HO.tup [V.str (cutS x_parts_here.1 none (some (-(1 : Int)))), V.str ((cutS x_parts_here.2.1 (some (-(1 : Int))) none) ++ (cutS x_parts_here.2.1 none (some (-(1 : Int))))), V.str x_parts_here.2.2]) = H126 at e122 hp123 ⊢
                    have h124 : rep ms H126 (D.tup [(D.v (V.str (cutS x_parts_here.1 none (some (-(1 : Int)))))), (D.v (V.str ((cutS x_parts_here.2.1 (some (-(1 : Int))) none) ++ (cutS x_parts_here.2.1 none (some (-(1 : Int))))))), (D.v (V.str x_parts_here.2.2))]) (.ref p121) := rep_tup_mk hW n125 e122 hp123 (repL_cons rep_v (repL_cons rep_v (repL_cons rep_v repL_nil)))
                    replace h_parts_here := rep_ext e122 h_parts_here
                    replace hj114 := keep_ext e122 hj114
                    replace hW := hW.ret0 e122
                    exact ⟨((cutS x_parts_here.1 none (some (-(1 : Int)))), ((cutS x_parts_here.2.1 (some (-(1 : Int))) none) ++ (cutS x_parts_here.2.1 none (some (-(1 : Int))))), x_parts_here.2.2), hM, hW, hj114, h124⟩
                  · skip
                    refine ⟨_, rfl, ?_⟩
                    exact ⟨x_parts_here, hM, hW, hj114, h_parts_here⟩
                · skip
                  rintro u129 Hj113 ⟨r127, hr, hW, hj114, h128⟩
                  replace hM := hKKB112 r127 hr
                  replace h_parts_here := rep_keep hj114 h_parts_here
                  exact hQ r127 _ _ hM hW.out h128
            · skip
              refine iteF ?_
              obtain ⟨KB130, hM, hKKB130⟩ := hM
              refine ⟨fun v H1 => ∃ r : (Str × Str × Str), KB130 r ∧ Wd ms [ap] [] H_0 H1 ∧ Keep ms H19 H1 ∧ rep ms H1 (D.tup [(D.v (V.str r.1)), (D.v (V.str r.2.1)), (D.v (V.str r.2.2))]) v, ?_, ?_⟩
              · skip
                have hj132 := Keep.refl (ms := ms) (H := H19)
                refine ⟨_, rfl, ?_⟩
                refine ⟨_, rfl, ?_⟩
                refine ⟨_, rfl, ?_⟩
                obtain ⟨g133, hM⟩ := hM
                refine ⟨_, rfl, g133, ?_⟩
                refine ⟨_, rfl, ?_⟩
                refine ⟨_, rfl, ?_⟩
                refine ⟨_, rfl, ?_⟩
                obtain ⟨g134, hM⟩ := hM
                refine ⟨_, rfl, g134, ?_⟩
                refine ⟨rfl, ?_⟩
                refine ⟨_, rfl, ?_⟩
                refine ite3 hM (fun hM => ?_) (fun hM => ?_)
                · skip
                  refine ⟨_, rfl, ?_⟩
                  refine ⟨_, rfl, ?_⟩
                  refine ⟨_, rfl, ?_⟩
                  obtain ⟨g135, hM⟩ := hM
                  refine ⟨_, rfl, g135, ?_⟩
                  refine ⟨_, rfl, ?_⟩
                  refine ⟨_, rfl, ?_⟩
                  refine ⟨_, rfl, ?_⟩
                  obtain ⟨g136, hM⟩ := hM
                  refine ⟨_, rfl, g136, ?_⟩
                  refine ⟨_, rfl, ?_⟩
                  refine ⟨_, rfl, ?_⟩
                  refine ⟨_, rfl, ?_⟩
                  obtain ⟨g137, hM⟩ := hM
                  refine ⟨_, rfl, g137, ?_⟩
                  obtain ⟨g138, hM⟩ := hM
                  refine ⟨_, _, rfl, rfl, g138, ?_⟩
                  refine ⟨_, rfl, ?_⟩
                  refine ⟨(by show 3 ≤ sizeLine; decide), ?_⟩
                  intro p139 n143
                  have e140 := Rx.Ext.new (H := H19) (o := (HO.tup [V.str (cutS x_parts_here.1 none (some (-(1 : Int)))), V.str ((cutS x_parts_here.2.1 (some (-(1 : Int))) none) ++ (cutS x_parts_here.2.1 none (some (-(1 : Int))))), V.str x_parts_here.2.2])) n143
                  have hp141 : upd H19 p139 (HO.tup [V.str (cutS x_parts_here.1 none (some (-(1 : Int)))), V.str ((cutS x_parts_here.2.1 (some (-(1 : Int))) none) ++ (cutS x_parts_here.2.1 none (some (-(1 : Int))))), V.str x_parts_here.2.2]) p139 = some (HO.tup [V.str (cutS x_parts_here.1 none (some (-(1 : Int)))), V.str ((cutS x_parts_here.2.1 (some (-(1 : Int))) none) ++ (cutS x_parts_here.2.1 none (some (-(1 : Int))))), V.str x_parts_here.2.2]) := upd_same
                  generalize upd H19 p139 (HO.tup [V.str (cutS x_parts_here.1 none (some (-(1 : Int)))), V.str ((cutS x_parts_here.2.1 (some (-(1 : Int))) none) ++ (cutS x_parts_here.2.1 none (some (-(1 : Int))))), V.str x_parts_here.2.2]) = H144 at e140 hp141 ⊢
                  have h142 : rep ms H144 (D.tup [(D.v (V.str (cutS x_parts_here.1 none (some (-(1 : Int)))))), (D.v (V.str ((cutS x_parts_here.2.1 (some (-(1 : Int))) none) ++ (cutS x_parts_here.2.1 none (some (-(1 : Int))))))), (D.v (V.str x_parts_here.2.2))]) (.ref p139) := rep_tup_mk hW n143 e140 hp141 (repL_cons rep_v (repL_cons rep_v (repL_cons rep_v repL_nil)))
                  replace h_parts_here := rep_ext e140 h_parts_here
                  replace hj132 := keep_ext e140 hj132
                  replace hW := hW.ret0 e140
                  exact ⟨((cutS x_parts_here.1 none (some (-(1 : Int)))), ((cutS x_parts_here.2.1 (some (-(1 : Int))) none) ++ (cutS x_parts_here.2.1 none (some (-(1 : Int))))), x_parts_here.2.2), hM, hW, hj132, h142⟩
                · skip
                  refine ⟨_, rfl, ?_⟩
                  exact ⟨x_parts_here, hM, hW, hj132, h_parts_here⟩
              · skip
                rintro u147 Hj131 ⟨r145, hr, hW, hj132, h146⟩
                replace hM := hKKB130 r145 hr
                replace h_parts_here := rep_keep hj132 h_parts_here
                exact hQ r145 _ _ hM hW.out h146
          · skip
            refine iteF ?_
            obtain ⟨KB148, hM, hKKB148⟩ := hM
            refine ⟨fun v H1 => ∃ r : (Str × Str × Str), KB148 r ∧ Wd ms [ap] [] H_0 H1 ∧ Keep ms H19 H1 ∧ rep ms H1 (D.tup [(D.v (V.str r.1)), (D.v (V.str r.2.1)), (D.v (V.str r.2.2))]) v, ?_, ?_⟩
            · skip
              have hj150 := Keep.refl (ms := ms) (H := H19)
              refine ⟨_, rfl, ?_⟩
              refine ⟨_, rfl, ?_⟩
              refine ⟨_, rfl, ?_⟩
              obtain ⟨g151, hM⟩ := hM
              refine ⟨_, rfl, g151, ?_⟩
              refine ⟨_, rfl, ?_⟩
              refine ⟨_, rfl, ?_⟩
              refine ⟨_, rfl, ?_⟩
              obtain ⟨g152, hM⟩ := hM
              refine ⟨_, rfl, g152, ?_⟩
              refine ⟨rfl, ?_⟩
              refine ⟨_, rfl, ?_⟩
              refine ite3 hM (fun hM => ?_) (fun hM => ?_)
              · skip
                refine ⟨_, rfl, ?_⟩
                refine ⟨_, rfl, ?_⟩
                refine ⟨_, rfl, ?_⟩
                obtain ⟨g153, hM⟩ := hM
                refine ⟨_, rfl, g153, ?_⟩
                refine ⟨_, rfl, ?_⟩
                refine ⟨_, rfl, ?_⟩
                refine ⟨_, rfl, ?_⟩
                obtain ⟨g154, hM⟩ := hM
                refine ⟨_, rfl, g154, ?_⟩
                refine ⟨_, rfl, ?_⟩
                refine ⟨_, rfl, ?_⟩
                refine ⟨_, rfl, ?_⟩
                obtain ⟨g155, hM⟩ := hM
                refine ⟨_, rfl, g155, ?_⟩
                obtain ⟨g156, hM⟩ := hM
                refine ⟨_, _, rfl, rfl, g156, ?_⟩
                refine ⟨_, rfl, ?_⟩
                refine ⟨(by show 3 ≤ sizeLine; decide), ?_⟩
                intro p157 n161
                have e158 := Rx.Ext.new (H := H19) (o := (HO.tup [V.str (cutS x_parts_here.1 none (some (-(1 : Int)))), V.str ((cutS x_parts_here.2.1 (some (-(1 : Int))) none) ++ (cutS x_parts_here.2.1 none (some (-(1 : Int))))), V.str x_parts_here.2.2])) n161
                have hp159 : upd H19 p157 (HO.tup [V.str (cutS x_parts_here.1 none (some (-(1 : Int)))), V.str ((cutS x_parts_here.2.1 (some (-(1 : Int))) none) ++ (cutS x_parts_here.2.1 none (some (-(1 : Int))))), V.str x_parts_here.2.2]) p157 = some (HO.tup [V.str (cutS x_parts_here.1 none (some (-(1 : Int)))), V.str ((cutS x_parts_here.2.1 (some (-(1 : Int))) none) ++ (cutS x_parts_here.2.1 none (some (-(1 : Int))))), V.str x_parts_here.2.2]) := upd_same
                generalize upd H19 p157 (HO.tup [V.str (cutS x_parts_here.1 none (some (-(1 : Int)))), V.str ((cutS x_parts_here.2.1 (some (-(1 : Int))) none) ++ (cutS x_parts_here.2.1 none (some (-(1 : Int))))), V.str x_parts_here.2.2]) = H162 at e158 hp159 ⊢
                have h160 : rep ms H162 (D.tup [(D.v (V.str (cutS x_parts_here.1 none (some (-(1 : Int)))))), (D.v (V.str ((cutS x_parts_here.2.1 (some (-(1 : Int))) none) ++ (cutS x_parts_here.2.1 none (some (-(1 : Int))))))), (D.v (V.str x_parts_here.2.2))]) (.ref p157) := rep_tup_mk hW n161 e158 hp159 (repL_cons rep_v (repL_cons rep_v (repL_cons rep_v repL_nil)))
                replace h_parts_here := rep_ext e158 h_parts_here
                replace hj150 := keep_ext e158 hj150
                replace hW := hW.ret0 e158
                exact ⟨((cutS x_parts_here.1 none (some (-(1 : Int)))), ((cutS x_parts_here.2.1 (some (-(1 : Int))) none) ++ (cutS x_parts_here.2.1 none (some (-(1 : Int))))), x_parts_here.2.2), hM, hW, hj150, h160⟩
              · skip
                refine ⟨_, rfl, ?_⟩
                exact ⟨x_parts_here, hM, hW, hj150, h_parts_here⟩
            · skip
              rintro u165 Hj149 ⟨r163, hr, hW, hj150, h164⟩
              replace hM := hKKB148 r163 hr
              replace h_parts_here := rep_keep hj150 h_parts_here
              exact hQ r163 _ _ hM hW.out h164
    · skip
      refine iteF ?_
      refine ⟨_, rfl, ?_⟩
      refine ⟨rfl, ?_⟩
      refine ⟨_, rfl, ?_⟩
      refine ite3 hM (fun hM => ?_) (fun hM => ?_)
      · skip
        refine ⟨_, rfl, ?_⟩
        obtain ⟨g166, hM⟩ := hM
        refine ⟨_, rfl, g166, ?_⟩
        refine ⟨_, _, rfl, rfl, ?_⟩
        refine ⟨_, rfl, ?_⟩
        refine ite3 hM (fun hM => ?_) (fun hM => ?_)
        · skip
          refine ⟨_, rfl, ?_⟩
          refine ⟨_, rfl, ?_⟩
          refine ⟨_, rfl, ?_⟩
          obtain ⟨g167, hM⟩ := hM
          refine ⟨_, _, rfl, rfl, g167, ?_⟩
          refine ⟨_, rfl, ?_⟩
          refine ⟨(by show 3 ≤ sizeLine; decide), ?_⟩
          intro p168 n172
          have e169 := Rx.Ext.new (H := H19) (o := (HO.tup [V.str x_parts_here.1, V.str (x_parts_here.2.1 ++ x_parts_here.2.1), V.str x_parts_here.2.2])) n172
          have hp170 : upd H19 p168 (HO.tup [V.str x_parts_here.1, V.str (x_parts_here.2.1 ++ x_parts_here.2.1), V.str x_parts_here.2.2]) p168 = some (HO.tup [V.str x_parts_here.1, V.str (x_parts_here.2.1 ++ x_parts_here.2.1), V.str x_parts_here.2.2]) := upd_same
          generalize upd H19 p168 (HO.tup [V.str x_parts_here.1, V.str (x_parts_here.2.1 ++ x_parts_here.2.1), V.str x_parts_here.2.2]) = H173 at e169 hp170 ⊢
          have h171 : rep ms H173 (D.tup [(D.v (V.str x_parts_here.1)), (D.v (V.str (x_parts_here.2.1 ++ x_parts_here.2.1))), (D.v (V.str x_parts_here.2.2))]) (.ref p168) := rep_tup_mk hW n172 e169 hp170 (repL_cons rep_v (repL_cons rep_v (repL_cons rep_v repL_nil)))
          replace h_parts_here := rep_ext e169 h_parts_here
          replace hW := hW.ret0 e169
          exact hQ (x_parts_here.1, (x_parts_here.2.1 ++ x_parts_here.2.1), x_parts_here.2.2) _ _ hM hW.out h171
        · skip
          refine ⟨_, rfl, ?_⟩
          refine ⟨rfl, ?_⟩
          refine ⟨_, rfl, ?_⟩
          refine ite3 hM (fun hM => ?_) (fun hM => ?_)
          · skip
            refine ⟨_, rfl, ?_⟩
            obtain ⟨g174, hM⟩ := hM
            refine ⟨_, rfl, g174, ?_⟩
            refine ⟨rfl, ?_⟩
            refine ⟨_, rfl, ?_⟩
            refine ite3 hM (fun hM => ?_) (fun hM => ?_)
            · skip
              refine ⟨_, rfl, ?_⟩
              obtain ⟨g175, hM⟩ := hM
              refine ⟨_, rfl, g175, ?_⟩
              refine ⟨_, _, rfl, rfl, ?_⟩
              refine ⟨_, rfl, ?_⟩
              refine ite3 hM (fun hM => ?_) (fun hM => ?_)
              · skip
                refine ⟨_, rfl, ?_⟩
                refine ⟨_, rfl, ?_⟩
                refine ⟨_, rfl, ?_⟩
                refine ⟨_, rfl, ?_⟩
                obtain ⟨g176, hM⟩ := hM
                refine ⟨_, _, rfl, rfl, g176, ?_⟩
                refine ⟨(by show 3 ≤ sizeLine; decide), ?_⟩
                intro p177 n181
                have e178 := Rx.Ext.new (H := H19) (o := (HO.tup [V.str x_parts_here.1, V.str x_parts_here.2.1, V.str (x_parts_here.2.1 ++ x_parts_here.2.2)])) n181
                have hp179 : upd H19 p177 (HO.tup [V.str x_parts_here.1, V.str x_parts_here.2.1, V.str (x_parts_here.2.1 ++ x_parts_here.2.2)]) p177 = some (HO.tup [V.str x_parts_here.1, V.str x_parts_here.2.1, V.str (x_parts_here.2.1 ++ x_parts_here.2.2)]) := upd_same
                generalize upd H19 p177 (HO.tup [V.str x_parts_here.1, V.str x_parts_here.2.1, V.str (x_parts_here.2.1 ++ x_parts_here.2.2)]) = H182 at e178 hp179 ⊢
                have h180 : rep ms H182 (D.tup [(D.v (V.str x_parts_here.1)), (D.v (V.str x_parts_here.2.1)), (D.v (V.str (x_parts_here.2.1 ++ x_parts_here.2.2)))]) (.ref p177) := rep_tup_mk hW n181 e178 hp179 (repL_cons rep_v (repL_cons rep_v (repL_cons rep_v repL_nil)))
                replace h_parts_here := rep_ext e178 h_parts_here
                replace hW := hW.ret0 e178
                exact hQ (x_parts_here.1, x_parts_here.2.1, (x_parts_here.2.1 ++ x_parts_here.2.2)) _ _ hM hW.out h180
              · skip
                obtain ⟨KB183, hM, hKKB183⟩ := hM
                refine ⟨fun v H1 => ∃ r : (Str × Str × Str), KB183 r ∧ Wd ms [ap] [] H_0 H1 ∧ Keep ms H19 H1 ∧ rep ms H1 (D.tup [(D.v (V.str r.1)), (D.v (V.str r.2.1)), (D.v (V.str r.2.2))]) v, ?_, ?_⟩
                · skip
                  have hj185 := Keep.refl (ms := ms) (H := H19)
                  refine ⟨_, rfl, ?_⟩
                  refine ⟨_, rfl, ?_⟩
                  refine ⟨_, rfl, ?_⟩
                  obtain ⟨g186, hM⟩ := hM
                  refine ⟨_, rfl, g186, ?_⟩
                  refine ⟨_, rfl, ?_⟩
                  refine ⟨_, rfl, ?_⟩
                  refine ⟨_, rfl, ?_⟩
                  obtain ⟨g187, hM⟩ := hM
                  refine ⟨_, rfl, g187, ?_⟩
                  refine ⟨rfl, ?_⟩
                  refine ⟨_, rfl, ?_⟩
                  refine ite3 hM (fun hM => ?_) (fun hM => ?_)
                  · skip
                    refine ⟨_, rfl, ?_⟩
                    refine ⟨_, rfl, ?_⟩
                    refine ⟨_, rfl, ?_⟩
                    obtain ⟨g188, hM⟩ := hM
                    refine ⟨_, rfl, g188, ?_⟩
                    refine ⟨_, rfl, ?_⟩
                    refine ⟨_, rfl, ?_⟩
                    refine ⟨_, rfl, ?_⟩
                    obtain ⟨g189, hM⟩ := hM
                    refine ⟨_, rfl, g189, ?_⟩
                    refine ⟨_, rfl, ?_⟩
                    refine ⟨_, rfl, ?_⟩
                    refine ⟨_, rfl, ?_⟩
                    obtain ⟨g190, hM⟩ := hM
                    refine ⟨_, rfl, g190, ?_⟩
                    obtain ⟨g191, hM⟩ := hM
                    refine ⟨_, _, rfl, rfl, g191, ?_⟩
                    refine ⟨_, rfl, ?_⟩
                    refine ⟨(by show 3 ≤ sizeLine; decide), ?_⟩
                    intro p192 n196
                    have e193 := Rx.Ext.new (H := H19) (o := (HO.tup [V.str (cutS x_parts_here.1 none (some (-(1 : Int)))), V.str ((cutS x_parts_here.2.1 (some (-(1 : Int))) none) ++ (cutS x_parts_here.2.1 none (some (-(1 : Int))))), V.str x_parts_here.2.2])) n196
                    have hp194 : upd H19 p192 (HO.tup [V.str (cutS x_parts_here.1 none (some (-(1 : Int)))), V.str ((cutS x_parts_here.2.1 (some (-(1 : Int))) none) ++ (cutS x_parts_here.2.1 none (some (-(1 : Int))))), V.str x_parts_here.2.2]) p192 = some (HO.tup [V.str (cutS x_parts_here.1 none (some (-(1 : Int)))), V.str ((cutS x_parts_here.2.1 (some (-(1 : Int))) none) ++ (cutS x_parts_here.2.1 none (some (-(1 : Int))))), V.str x_parts_here.2.2]) := upd_same
                    generalize upd H19 p192 (HO.tup [V.str (cutS x_parts_here.1 none (some (-(1 : Int)))), V.str ((cutS x_parts_here.2.1 (some (-(1 : Int))) none) ++ (cutS x_parts_here.2.1 none (some (-(1 : Int))))), V.str x_parts_here.2.2]) = H197 at e193 hp194 ⊢
                    have h195 : rep ms H197 (D.tup [(D.v (V.str (cutS x_parts_here.1 none (some (-(1 : Int)))))), (D.v (V.str ((cutS x_parts_here.2.1 (some (-(1 : Int))) none) ++ (cutS x_parts_here.2.1 none (some (-(1 : Int))))))), (D.v (V.str x_parts_here.2.2))]) (.ref p192) := rep_tup_mk hW n196 e193 hp194 (repL_cons rep_v (repL_cons rep_v (repL_cons rep_v repL_nil)))
                    replace h_parts_here := rep_ext e193 h_parts_here
                    replace hj185 := keep_ext e193 hj185
                    replace hW := hW.ret0 e193
                    exact ⟨((cutS x_parts_here.1 none (some (-(1 : Int)))), ((cutS x_parts_here.2.1 (some (-(1 : Int))) none) ++ (cutS x_parts_here.2.1 none (some (-(1 : Int))))), x_parts_here.2.2), hM, hW, hj185, h195⟩
                  · skip
                    refine ⟨_, rfl, ?_⟩
                    exact ⟨x_parts_here, hM, hW, hj185, h_parts_here⟩
                · skip
                  rintro u200 Hj184 ⟨r198, hr, hW, hj185, h199⟩
                  replace hM := hKKB183 r198 hr
                  replace h_parts_here := rep_keep hj185 h_parts_here
                  exact hQ r198 _ _ hM hW.out h199
            · skip
              refine iteF ?_
              obtain ⟨KB201, hM, hKKB201⟩ := hM
              refine ⟨fun v H1 => ∃ r : (Str × Str × Str), KB201 r ∧ Wd ms [ap] [] H_0 H1 ∧ Keep ms H19 H1 ∧ rep ms H1 (D.tup [(D.v (V.str r.1)), (D.v (V.str r.2.1)), (D.v (V.str r.2.2))]) v, ?_, ?_⟩
              · skip
                have hj203 := Keep.refl (ms := ms) (H := H19)
                refine ⟨_, rfl, ?_⟩
                refine ⟨_, rfl, ?_⟩
                refine ⟨_, rfl, ?_⟩
                obtain ⟨g204, hM⟩ := hM
                refine ⟨_, rfl, g204, ?_⟩
                refine ⟨_, rfl, ?_⟩
                refine ⟨_, rfl, ?_⟩
                refine ⟨_, rfl, ?_⟩
                obtain ⟨g205, hM⟩ := hM
                refine ⟨_, rfl, g205, ?_⟩
                refine ⟨rfl, ?_⟩
                refine ⟨_, rfl, ?_⟩
                refine ite3 hM (fun hM => ?_) (fun hM => ?_)
                · skip
                  refine ⟨_, rfl, ?_⟩
                  refine ⟨_, rfl, ?_⟩
                  refine ⟨_, rfl, ?_⟩
                  obtain ⟨g206, hM⟩ := hM
                  refine ⟨_, rfl, g206, ?_⟩
                  refine ⟨_, rfl, ?_⟩
                  refine ⟨_, rfl, ?_⟩
                  refine ⟨_, rfl, ?_⟩
                  obtain ⟨g207, hM⟩ := hM
                  refine ⟨_, rfl, g207, ?_⟩
                  refine ⟨_, rfl, ?_⟩
                  refine ⟨_, rfl, ?_⟩
                  refine ⟨_, rfl, ?_⟩
                  obtain ⟨g208, hM⟩ := hM
                  refine ⟨_, rfl, g208, ?_⟩
                  obtain ⟨g209, hM⟩ := hM
                  refine ⟨_, _, rfl, rfl, g209, ?_⟩
                  refine ⟨_, rfl, ?_⟩
                  refine ⟨(by show 3 ≤ sizeLine; decide), ?_⟩
                  intro p210 n214
                  have e211 := Rx.Ext.new (H := H19) (o := (HO.tup [V.str (cutS x_parts_here.1 none (some (-(1 : Int)))), V.str ((cutS x_parts_here.2.1 (some (-(1 : Int))) none) ++ (cutS x_parts_here.2.1 none (some (-(1 : Int))))), V.str x_parts_here.2.2])) n214
                  have hp212 : upd H19 p210 (HO.tup [V.str (cutS x_parts_here.1 none (some (-(1 : Int)))), V.str ((cutS x_parts_here.2.1 (some (-(1 : Int))) none) ++ (cutS x_parts_here.2.1 none (some (-(1 : Int))))), V.str x_parts_here.2.2]) p210 = some (HO.tup [V.str (cutS x_parts_here.1 none (some (-(1 : Int)))), V.str ((cutS x_parts_here.2.1 (some (-(1 : Int))) none) ++ (cutS x_parts_here.2.1 none (some (-(1 : Int))))), V.str x_parts_here.2.2]) := upd_same
                  generalize upd H19 p210 (HO.tup [V.str (cutS x_parts_here.1 none (some (-(1 : Int)))), V.str ((cutS x_parts_here.2.1 (some (-(1 : Int))) none) ++ (cutS x_parts_here.2.1 none (some (-(1 : Int))))), V.str x_parts_here.2.2]) = H215 at e211 hp212 ⊢
                  have h213 : rep ms H215 (D.tup [(D.v (V.str (cutS x_parts_here.1 none (some (-(1 : Int)))))), (D.v (V.str ((cutS x_parts_here.2.1 (some (-(1 : Int))) none) ++ (cutS x_parts_here.2.1 none (some (-(1 : Int))))))), (D.v (V.str x_parts_here.2.2))]) (.ref p210) := rep_tup_mk hW n214 e211 hp212 (repL_cons rep_v (repL_cons rep_v (repL_cons rep_v repL_nil)))
                  replace h_parts_here := rep_ext e211 h_parts_here
                  replace hj203 := keep_ext e211 hj203
                  replace hW := hW.ret0 e211
                  exact ⟨((cutS x_parts_here.1 none (some (-(1 : Int)))), ((cutS x_parts_here.2.1 (some (-(1 : Int))) none) ++ (cutS x_parts_here.2.1 none (some (-(1 : Int))))), x_parts_here.2.2), hM, hW, hj203, h213⟩
                · skip
                  refine ⟨_, rfl, ?_⟩
                  exact ⟨x_parts_here, hM, hW, hj203, h_parts_here⟩
              · skip
                rintro u218 Hj202 ⟨r216, hr, hW, hj203, h217⟩
                replace hM := hKKB201 r216 hr
                replace h_parts_here := rep_keep hj203 h_parts_here
                exact hQ r216 _ _ hM hW.out h217
          · skip
            refine iteF ?_
            obtain ⟨KB219, hM, hKKB219⟩ := hM
            refine ⟨fun v H1 => ∃ r : (Str × Str × Str), KB219 r ∧ Wd ms [ap] [] H_0 H1 ∧ Keep ms H19 H1 ∧ rep ms H1 (D.tup [(D.v (V.str r.1)), (D.v (V.str r.2.1)), (D.v (V.str r.2.2))]) v, ?_, ?_⟩
            · skip
              have hj221 := Keep.refl (ms := ms) (H := H19)
              refine ⟨_, rfl, ?_⟩
              refine ⟨_, rfl, ?_⟩
              refine ⟨_, rfl, ?_⟩
              obtain ⟨g222, hM⟩ := hM
              refine ⟨_, rfl, g222, ?_⟩
              refine ⟨_, rfl, ?_⟩
              refine ⟨_, rfl, ?_⟩
              refine ⟨_, rfl, ?_⟩
              obtain ⟨g223, hM⟩ := hM
              refine ⟨_, rfl, g223, ?_⟩
              refine ⟨rfl, ?_⟩
              refine ⟨_, rfl, ?_⟩
              refine ite3 hM (fun hM => ?_) (fun hM => ?_)
              · skip
                refine ⟨_, rfl, ?_⟩
                refine ⟨_, rfl, ?_⟩
                refine ⟨_, rfl, ?_⟩
                obtain ⟨g224, hM⟩ := hM
                refine ⟨_, rfl, g224, ?_⟩
                refine ⟨_, rfl, ?_⟩
                refine ⟨_, rfl, ?_⟩
                refine ⟨_, rfl, ?_⟩
                obtain ⟨g225, hM⟩ := hM
                refine ⟨_, rfl, g225, ?_⟩
                refine ⟨_, rfl, ?_⟩
                refine ⟨_, rfl, ?_⟩
                refine ⟨_, rfl, ?_⟩
                obtain ⟨g226, hM⟩ := hM
                refine ⟨_, rfl, g226, ?_⟩
                obtain ⟨g227, hM⟩ := hM
                refine ⟨_, _, rfl, rfl, g227, ?_⟩
                refine ⟨_, rfl, ?_⟩
                refine ⟨(by show 3 ≤ sizeLine; decide), ?_⟩
                intro p228 n232
                have e229 := Rx.Ext.new (H := H19) (o := (HO.tup [V.str (cutS x_parts_here.1 none (some (-(1 : Int)))), V.str ((cutS x_parts_here.2.1 (some (-(1 : Int))) none) ++ (cutS x_parts_here.2.1 none (some (-(1 : Int))))), V.str x_parts_here.2.2])) n232
                have hp230 : upd H19 p228 (HO.tup [V.str (cutS x_parts_here.1 none (some (-(1 : Int)))), V.str ((cutS x_parts_here.2.1 (some (-(1 : Int))) none) ++ (cutS x_parts_here.2.1 none (some (-(1 : Int))))), V.str x_parts_here.2.2]) p228 = some (HO.tup [V.str (cutS x_parts_here.1 none (some (-(1 : Int)))), V.str ((cutS x_parts_here.2.1 (some (-(1 : Int))) none) ++ (cutS x_parts_here.2.1 none (some (-(1 : Int))))), V.str x_parts_here.2.2]) := upd_same
                generalize upd H19 p228 (HO.tup [V.str (cutS x_parts_here.1 none (some (-(1 : Int)))), V.str ((cutS x_parts_here.2.1 (some (-(1 : Int))) none) ++ (cutS x_parts_here.2.1 none (some (-(1 : Int))))), V.str x_parts_here.2.2]) = H233 at e229 hp230 ⊢
                have h231 : rep ms H233 (D.tup [(D.v (V.str (cutS x_parts_here.1 none (some (-(1 : Int)))))), (D.v (V.str ((cutS x_parts_here.2.1 (some (-(1 : Int))) none) ++ (cutS x_parts_here.2.1 none (some (-(1 : Int))))))), (D.v (V.str x_parts_here.2.2))]) (.ref p228) := rep_tup_mk hW n232 e229 hp230 (repL_cons rep_v (repL_cons rep_v (repL_cons rep_v repL_nil)))
                replace h_parts_here := rep_ext e229 h_parts_here
                replace hj221 := keep_ext e229 hj221
                replace hW := hW.ret0 e229
                exact ⟨((cutS x_parts_here.1 none (some (-(1 : Int)))), ((cutS x_parts_here.2.1 (some (-(1 : Int))) none) ++ (cutS x_parts_here.2.1 none (some (-(1 : Int))))), x_parts_here.2.2), hM, hW, hj221, h231⟩
              · skip
                refine ⟨_, rfl, ?_⟩
                exact ⟨x_parts_here, hM, hW, hj221, h_parts_here⟩
            · skip
              rintro u236 Hj220 ⟨r234, hr, hW, hj221, h235⟩
              replace hM := hKKB219 r234 hr
              replace h_parts_here := rep_keep hj221 h_parts_here
              exact hQ r234 _ _ hM hW.out h235
      · skip
        refine iteF ?_
        refine ⟨_, rfl, ?_⟩
        refine ⟨rfl, ?_⟩
        refine ⟨_, rfl, ?_⟩
        refine ite3 hM (fun hM => ?_) (fun hM => ?_)
        · skip
          refine ⟨_, rfl, ?_⟩
          obtain ⟨g237, hM⟩ := hM
          refine ⟨_, rfl, g237, ?_⟩
          refine ⟨rfl, ?_⟩
          refine ⟨_, rfl, ?_⟩
          refine ite3 hM (fun hM => ?_) (fun hM => ?_)
          · skip
            refine ⟨_, rfl, ?_⟩
            obtain ⟨g238, hM⟩ := hM
            refine ⟨_, rfl, g238, ?_⟩
            refine ⟨_, _, rfl, rfl, ?_⟩
            refine ⟨_, rfl, ?_⟩
            refine ite3 hM (fun hM => ?_) (fun hM => ?_)
            · skip
              refine ⟨_, rfl, ?_⟩
              refine ⟨_, rfl, ?_⟩
              refine ⟨_, rfl, ?_⟩
              refine ⟨_, rfl, ?_⟩
              obtain ⟨g239, hM⟩ := hM
              refine ⟨_, _, rfl, rfl, g239, ?_⟩
              refine ⟨(by show 3 ≤ sizeLine; decide), ?_⟩
              intro p240 n244
              have e241 := Rx.Ext.new (H := H19) (o := (HO.tup [V.str x_parts_here.1, V.str x_parts_here.2.1, V.str (x_parts_here.2.1 ++ x_parts_here.2.2)])) n244
              have hp242 : upd H19 p240 (HO.tup [V.str x_parts_here.1, V.str x_parts_here.2.1, V.str (x_parts_here.2.1 ++ x_parts_here.2.2)]) p240 = some (HO.tup [V.str x_parts_here.1, V.str x_parts_here.2.1, V.str (x_parts_here.2.1 ++ x_parts_here.2.2)]) := upd_same
              generalize upd H19 p240 (HO.tup [V.str x_parts_here.1, V.str x_parts_here.2.1, V.str (x_parts_here.2.1 ++ x_parts_here.2.2)]) = H245 at e241 hp242 ⊢
              have h243 : rep ms H245 (D.tup [(D.v (V.str x_parts_here.1)), (D.v (V.str x_parts_here.2.1)), (D.v (V.str (x_parts_here.2.1 ++ x_parts_here.2.2)))]) (.ref p240) := rep_tup_mk hW n244 e241 hp242 (repL_cons rep_v (repL_cons rep_v (repL_cons rep_v repL_nil)))
              replace h_parts_here := rep_ext e241 h_parts_here
              replace hW := hW.ret0 e241
              exact hQ (x_parts_here.1, x_parts_here.2.1, (x_parts_here.2.1 ++ x_parts_here.2.2)) _ _ hM hW.out h243
            · skip
              obtain ⟨KB246, hM, hKKB246⟩ := hM
              refine ⟨fun v H1 => ∃ r : (Str × Str × Str), KB246 r ∧ Wd ms [ap] [] H_0 H1 ∧ Keep ms H19 H1 ∧ rep ms H1 (D.tup [(D.v (V.str r.1)), (D.v (V.str r.2.1)), (D.v (V.str r.2.2))]) v, ?_, ?_⟩
              · skip
                have hj248 := Keep.refl (ms := ms) (H := H19)
                refine ⟨_, rfl, ?_⟩
                refine ⟨_, rfl, ?_⟩
                refine ⟨_, rfl, ?_⟩
                obtain ⟨g249, hM⟩ := hM
                refine ⟨_, rfl, g249, ?_⟩
                refine ⟨_, rfl, ?_⟩
                refine ⟨_, rfl, ?_⟩
                refine ⟨_, rfl, ?_⟩
                obtain ⟨g250, hM⟩ := hM
                refine ⟨_, rfl, g250, ?_⟩
                refine ⟨rfl, ?_⟩
                refine ⟨_, rfl, ?_⟩
                refine ite3 hM (fun hM => ?_) (fun hM => ?_)
                · skip
                  refine ⟨_, rfl, ?_⟩
                  refine ⟨_, rfl, ?_⟩
                  refine ⟨_, rfl, ?_⟩
                  obtain ⟨g251, hM⟩ := hM
                  refine ⟨_, rfl, g251, ?_⟩
                  refine ⟨_, rfl, ?_⟩
                  refine ⟨_, rfl, ?_⟩
                  refine ⟨_, rfl, ?_⟩
                  obtain ⟨g252, hM⟩ := hM
                  refine ⟨_, rfl, g252, ?_⟩
                  refine ⟨_, rfl, ?_⟩
                  refine ⟨_, rfl, ?_⟩
                  refine ⟨_, rfl, ?_⟩
                  obtain ⟨g253, hM⟩ := hM
                  refine ⟨_, rfl, g253, ?_⟩
                  obtain ⟨g254, hM⟩ := hM
                  refine ⟨_, _, rfl, rfl, g254, ?_⟩
                  refine ⟨_, rfl, ?_⟩
                  refine ⟨(by show 3 ≤ sizeLine; decide), ?_⟩
                  intro p255 n259
                  have e256 := Rx.Ext.new (H := H19) (o := (HO.tup [V.str (cutS x_parts_here.1 none (some (-(1 : Int)))), V.str ((cutS x_parts_here.2.1 (some (-(1 : Int))) none) ++ (cutS x_parts_here.2.1 none (some (-(1 : Int))))), V.str x_parts_here.2.2])) n259
                  have hp257 : upd H19 p255 (HO.tup [V.str (cutS x_parts_here.1 none (some (-(1 : Int)))), V.str ((cutS x_parts_here.2.1 (some (-(1 : Int))) none) ++ (cutS x_parts_here.2.1 none (some (-(1 : Int))))), V.str x_parts_here.2.2]) p255 = some (HO.tup [V.str (cutS x_parts_here.1 none (some (-(1 : Int)))), V.str ((cutS x_parts_here.2.1 (some (-(1 : Int))) none) ++ (cutS x_parts_here.2.1 none (some (-(1 : Int))))), V.str x_parts_here.2.2]) := upd_same
                  generalize upd H19 p255 (HO.tup [V.str (cutS x_parts_here.1 none (some (-(1 : Int)))), V.str ((cutS x_parts_here.2.1 (some (-(1 : Int))) none) ++ (cutS x_parts_here.2.1 none (some (-(1 : Int))))), V.str x_parts_here.2.2]) = H260 at e256 hp257 ⊢
                  have h258 : rep ms H260 (D.tup [(D.v (V.str (cutS x_parts_here.1 none (some (-(1 : Int)))))), (D.v (V.str ((cutS x_parts_here.2.1 (some (-(1 : Int))) none) ++ (cutS x_parts_here.2.1 none (some (-(1 : Int))))))), (D.v (V.str x_parts_here.2.2))]) (.ref p255) := rep_tup_mk hW n259 e256 hp257 (repL_cons rep_v (repL_cons rep_v (repL_cons rep_v repL_nil)))
                  replace h_parts_here := rep_ext e256 h_parts_here
                  replace hj248 := keep_ext e256 hj248
                  replace hW := hW.ret0 e256
                  exact ⟨((cutS x_parts_here.1 none (some (-(1 : Int)))), ((cutS x_parts_here.2.1 (some (-(1 : Int))) none) ++ (cutS x_parts_here.2.1 none (some (-(1 : Int))))), x_parts_here.2.2), hM, hW, hj248, h258⟩
                · skip
                  refine ⟨_, rfl, ?_⟩
                  exact ⟨x_parts_here, hM, hW, hj248, h_parts_here⟩
              · skip
                rintro u263 Hj247 ⟨r261, hr, hW, hj248, h262⟩
                replace hM := hKKB246 r261 hr
                replace h_parts_here := rep_keep hj248 h_parts_here
                exact hQ r261 _ _ hM hW.out h262
          · skip
            refine iteF ?_
            obtain ⟨KB264, hM, hKKB264⟩ := hM
            refine ⟨fun v H1 => ∃ r : (Str × Str × Str), KB264 r ∧ Wd ms [ap] [] H_0 H1 ∧ Keep ms H19 H1 ∧ rep ms H1 (D.tup [(D.v (V.str r.1)), (D.v (V.str r.2.1)), (D.v (V.str r.2.2))]) v, ?_, ?_⟩
            · skip
              have hj266 := Keep.refl (ms := ms) (H := H19)
              refine ⟨_, rfl, ?_⟩
              refine ⟨_, rfl, ?_⟩
              refine ⟨_, rfl, ?_⟩
              obtain ⟨g267, hM⟩ := hM
              refine ⟨_, rfl, g267, ?_⟩
              refine ⟨_, rfl, ?_⟩
              refine ⟨_, rfl, ?_⟩
              refine ⟨_, rfl, ?_⟩
              obtain ⟨g268, hM⟩ := hM
              refine ⟨_, rfl, g268, ?_⟩
              refine ⟨rfl, ?_⟩
              refine ⟨_, rfl, ?_⟩
              refine ite3 hM (fun hM => ?_) (fun hM => ?_)
              · skip
                refine ⟨_, rfl, ?_⟩
                refine ⟨_, rfl, ?_⟩
                refine ⟨_, rfl, ?_⟩
                obtain ⟨g269, hM⟩ := hM
                refine ⟨_, rfl, g269, ?_⟩
                refine ⟨_, rfl, ?_⟩
                refine ⟨_, rfl, ?_⟩
                refine ⟨_, rfl, ?_⟩
                obtain ⟨g270, hM⟩ := hM
                refine ⟨_, rfl, g270, ?_⟩
                refine ⟨_, rfl, ?_⟩
                refine ⟨_, rfl, ?_⟩
                refine ⟨_, rfl, ?_⟩
                obtain ⟨g271, hM⟩ := hM
                refine ⟨_, rfl, g271, ?_⟩
                obtain ⟨g272, hM⟩ := hM
                refine ⟨_, _, rfl, rfl, g272, ?_⟩
                refine ⟨_, rfl, ?_⟩
                refine ⟨(by show 3 ≤ sizeLine; decide), ?_⟩
                intro p273 n277
                have e274 := Rx.Ext.new (H := H19) (o := (HO.tup [V.str (cutS x_parts_here.1 none (some (-(1 : Int)))), V.str ((cutS x_parts_here.2.1 (some (-(1 : Int))) none) ++ (cutS x_parts_here.2.1 none (some (-(1 : Int))))), V.str x_parts_here.2.2])) n277
                have hp275 : upd H19 p273 (HO.tup [V.str (cutS x_parts_here.1 none (some (-(1 : Int)))), V.str ((cutS x_parts_here.2.1 (some (-(1 : Int))) none) ++ (cutS x_parts_here.2.1 none (some (-(1 : Int))))), V.str x_parts_here.2.2]) p273 = some (HO.tup [V.str (cutS x_parts_here.1 none (some (-(1 : Int)))), V.str ((cutS x_parts_here.2.1 (some (-(1 : Int))) none) ++ (cutS x_parts_here.2.1 none (some (-(1 : Int))))), V.str x_parts_here.2.2]) := upd_same
                generalize upd H19 p273 (HO.tup [V.str (cutS x_parts_here.1 none (some (-(1 : Int)))), V.str ((cutS x_parts_here.2.1 (some (-(1 : Int))) none) ++ (cutS x_parts_here.2.1 none (some (-(1 : Int))))), V.str x_parts_here.2.2]) = H278 at e274 hp275 ⊢
                have h276 : rep ms H278 (D.tup [(D.v (V.str (cutS x_parts_here.1 none (some (-(1 : Int)))))), (D.v (V.str ((cutS x_parts_here.2.1 (some (-(1 : Int))) none) ++ (cutS x_parts_here.2.1 none (some (-(1 : Int))))))), (D.v (V.str x_parts_here.2.2))]) (.ref p273) := rep_tup_mk hW n277 e274 hp275 (repL_cons rep_v (repL_cons rep_v (repL_cons rep_v repL_nil)))
                replace h_parts_here := rep_ext e274 h_parts_here
                replace hj266 := keep_ext e274 hj266
                replace hW := hW.ret0 e274
                exact ⟨((cutS x_parts_here.1 none (some (-(1 : Int)))), ((cutS x_parts_here.2.1 (some (-(1 : Int))) none) ++ (cutS x_parts_here.2.1 none (some (-(1 : Int))))), x_parts_here.2.2), hM, hW, hj266, h276⟩
              · skip
                refine ⟨_, rfl, ?_⟩
                exact ⟨x_parts_here, hM, hW, hj266, h_parts_here⟩
            · skip
              rintro u281 Hj265 ⟨r279, hr, hW, hj266, h280⟩
              replace hM := hKKB264 r279 hr
              replace h_parts_here := rep_keep hj266 h_parts_here
              exact hQ r279 _ _ hM hW.out h280
        · skip
          refine iteF ?_
          obtain ⟨KB282, hM, hKKB282⟩ := hM
          refine ⟨fun v H1 => ∃ r : (Str × Str × Str), KB282 r ∧ Wd ms [ap] [] H_0 H1 ∧ Keep ms H19 H1 ∧ rep ms H1 (D.tup [(D.v (V.str r.1)), (D.v (V.str r.2.1)), (D.v (V.str r.2.2))]) v, ?_, ?_⟩
          · skip
            have hj284 := Keep.refl (ms := ms) (H := H19)
            refine ⟨_, rfl, ?_⟩
            refine ⟨_, rfl, ?_⟩
            refine ⟨_, rfl, ?_⟩
            obtain ⟨g285, hM⟩ := hM
            refine ⟨_, rfl, g285, ?_⟩
            refine ⟨_, rfl, ?_⟩
            refine ⟨_, rfl, ?_⟩
            refine ⟨_, rfl, ?_⟩
            obtain ⟨g286, hM⟩ := hM
            refine ⟨_, rfl, g286, ?_⟩
            refine ⟨rfl, ?_⟩
            refine ⟨_, rfl, ?_⟩
            refine ite3 hM (fun hM => ?_) (fun hM => ?_)
            · skip
              refine ⟨_, rfl, ?_⟩
              refine ⟨_, rfl, ?_⟩
              refine ⟨_, rfl, ?_⟩
              obtain ⟨g287, hM⟩ := hM
              refine ⟨_, rfl, g287, ?_⟩
              refine ⟨_, rfl, ?_⟩
              refine ⟨_, rfl, ?_⟩
              refine ⟨_, rfl, ?_⟩
              obtain ⟨g288, hM⟩ := hM
              refine ⟨_, rfl, g288, ?_⟩
              refine ⟨_, rfl, ?_⟩
              refine ⟨_, rfl, ?_⟩
              refine ⟨_, rfl, ?_⟩
              obtain ⟨g289, hM⟩ := hM
              refine ⟨_, rfl, g289, ?_⟩
              obtain ⟨g290, hM⟩ := hM
              refine ⟨_, _, rfl, rfl, g290, ?_⟩
              refine ⟨_, rfl, ?_⟩
              refine ⟨(by show 3 ≤ sizeLine; decide), ?_⟩
              intro p291 n295
              have e292 := Rx.Ext.new (H := H19) (o := (HO.tup [V.str (cutS x_parts_here.1 none (some (-(1 : Int)))), V.str ((cutS x_parts_here.2.1 (some (-(1 : Int))) none) ++ (cutS x_parts_here.2.1 none (some (-(1 : Int))))), V.str x_parts_here.2.2])) n295
              have hp293 : upd H19 p291 (HO.tup [V.str (cutS x_parts_here.1 none (some (-(1 : Int)))), V.str ((cutS x_parts_here.2.1 (some (-(1 : Int))) none) ++ (cutS x_parts_here.2.1 none (some (-(1 : Int))))), V.str x_parts_here.2.2]) p291 = some (HO.tup [V.str (cutS x_parts_here.1 none (some (-(1 : Int)))), V.str ((cutS x_parts_here.2.1 (some (-(1 : Int))) none) ++ (cutS x_parts_here.2.1 none (some (-(1 : Int))))), V.str x_parts_here.2.2]) := upd_same
              generalize upd H19 p291 (HO.tup [V.str (cutS x_parts_here.1 none (some (-(1 : Int)))), V.str ((cutS x_parts_here.2.1 (some (-(1 : Int))) none) ++ (cutS x_parts_here.2.1 none (some (-(1 : Int))))), V.str x_parts_here.2.2]) = H296 at e292 hp293 ⊢
              have h294 : rep ms H296 (D.tup [(D.v (V.str (cutS x_parts_here.1 none (some (-(1 : Int)))))), (D.v (V.str ((cutS x_parts_here.2.1 (some (-(1 : Int))) none) ++ (cutS x_parts_here.2.1 none (some (-(1 : Int))))))), (D.v (V.str x_parts_here.2.2))]) (.ref p291) := rep_tup_mk hW n295 e292 hp293 (repL_cons rep_v (repL_cons rep_v (repL_cons rep_v repL_nil)))
              replace h_parts_here := rep_ext e292 h_parts_here
              replace hj284 := keep_ext e292 hj284
              replace hW := hW.ret0 e292
              exact ⟨((cutS x_parts_here.1 none (some (-(1 : Int)))), ((cutS x_parts_here.2.1 (some (-(1 : Int))) none) ++ (cutS x_parts_here.2.1 none (some (-(1 : Int))))), x_parts_here.2.2), hM, hW, hj284, h294⟩
            · skip
              refine ⟨_, rfl, ?_⟩
              exact ⟨x_parts_here, hM, hW, hj284, h_parts_here⟩
          · skip
            rintro u299 Hj283 ⟨r297, hr, hW, hj284, h298⟩
            replace hM := hKKB282 r297 hr
            replace h_parts_here := rep_keep hj284 h_parts_here
            exact hQ r297 _ _ hM hW.out h298
def M_pick_pltsss (x_some : (List (Str × Str × Str))) (KM : (Str × Str × Str) → Prop) : Prop :=
  (M_draw (x_some.length : Int) fun r1 => (0 ≤ r1 ∧ ∃ g7 : Int.toNat r1 < x_some.length, ∀ x9, x9 = x_some[Int.toNat r1]'g7 → (KM x9)))
def sp_pick_pltsss (A : Ad) : Sp := fun vs H Q _ => ∃ (ms : List Addr) (ap : Addr) (v_some : V) (x_some : (List (Str × Str × Str))) (KM : (Str × Str × Str) → Prop), vs = [.ref ap, v_some] ∧ Wd ms [ap] [] H H ∧ rep ms H (D.lst (x_some.map (fun y_ : (Str × Str × Str) => (D.tup [(D.v (V.str y_.1)), (D.v (V.str y_.2.1)), (D.v (V.str y_.2.2))])))) v_some ∧ M_pick_pltsss x_some KM ∧ ∀ (r : (Str × Str × Str)) (u : V) (H1 : Hp), KM r → Ret [ap] H H1 → rep ms H1 (D.tup [(D.v (V.str r.1)), (D.v (V.str r.2.1)), (D.v (V.str r.2.2))]) u → Q u H1
set_option maxHeartbeats 16000000 in
theorem ok_pick_pltsss {P : Program} {w : World} {K : PySem.W.Frag} {mg : Str → Option Value} {base : Heap} {A : Ad} (T : Txt w K mg A) : FnOk P w K mg base CX0 2 A.a_pick A.d_pick ["_law_pot_here", "_law_some"] (sp_pick_pltsss A) := by
  refine T.F_pick.ok sc_pick (fun vs H Q E h => ?_) (fun cdv A_ outer s_ H_0 vs Q E hr h => ?_)
  · obtain ⟨ms, ap, v_some, x_some, KM, rfl, _⟩ := h
    rfl
  · obtain ⟨ms, ap, v_some, x_some, KM, rfl, hW, h_some, hM, hQ⟩ := h
    unfold M_pick_pltsss at hM
    refine ⟨_, (pss_one (ps_ret (pe_ix (ix_listK (K := K) rfl) (pv 1) (pe_call (ok_draw T) (hr.mono (by decide)) (by rfl) T.g_draw T.F_draw.kp T.b_draw .nil pass0 (pa_cons (pv 0) (pa_cons (pe_callB (call_lenK (K := K) rfl) (by rfl) T.z_len PySem.boot_len (pa_cons (pv 1) pa_nil)) pa_nil))) (fun _ _ => rfl)))), ?_⟩
    refine ⟨_, rfl, ?_⟩
    refine ⟨_, rfl, ?_⟩
    refine ⟨_, rfl, ?_⟩
    apply rep_lenL (e := (fun y_ : (Str × Str × Str) => (D.tup [(D.v (V.str y_.1)), (D.v (V.str y_.2.1)), (D.v (V.str y_.2.2))]))) (xs := x_some) h_some
    refine ⟨ms, ap, (x_some.length : Int), _, rfl, hW.enterP, hM, fun r1 u4 H5 hM e3 h2 => ?_⟩
    replace h_some := rep_ret hW e3 h_some
    replace hW := hW.retP e3
    obtain rfl := of_v h2
    obtain ⟨g6, g7, hM⟩ := hM
    apply rep_ixL (e := (fun y_ : (Str × Str × Str) => (D.tup [(D.v (V.str y_.1)), (D.v (V.str y_.2.1)), (D.v (V.str y_.2.2))]))) (xs := x_some) h_some g6 g7
    intro u10 h8
    obtain ⟨x9, x9e⟩ : ∃ x_, x_ = x_some[Int.toNat r1]'g7 := ⟨_, rfl⟩
    rw [← x9e] at h8
    replace hM := hM x9 x9e
    exact hQ x9 _ _ hM hW.out h8
def M_pick_pli (x_some : (List Int)) (KM : Int → Prop) : Prop :=
  (M_draw (x_some.length : Int) fun r1 => (0 ≤ r1 ∧ ∃ g7 : Int.toNat r1 < x_some.length, ∀ x9, x9 = x_some[Int.toNat r1]'g7 → (KM x9)))
def sp_pick_pli (A : Ad) : Sp := fun vs H Q _ => ∃ (ms : List Addr) (ap : Addr) (v_some : V) (x_some : (List Int)) (KM : Int → Prop), vs = [.ref ap, v_some] ∧ Wd ms [ap] [] H H ∧ rep ms H (D.lst (x_some.map (fun y_ : Int => (D.v (V.int y_))))) v_some ∧ M_pick_pli x_some KM ∧ ∀ (r : Int) (u : V) (H1 : Hp), KM r → Ret [ap] H H1 → rep ms H1 (D.v (V.int r)) u → Q u H1
set_option maxHeartbeats 16000000 in
theorem ok_pick_pli {P : Program} {w : World} {K : PySem.W.Frag} {mg : Str → Option Value} {base : Heap} {A : Ad} (T : Txt w K mg A) : FnOk P w K mg base CX0 2 A.a_pick A.d_pick ["_law_pot_here", "_law_some"] (sp_pick_pli A) := by
  refine T.F_pick.ok sc_pick (fun vs H Q E h => ?_) (fun cdv A_ outer s_ H_0 vs Q E hr h => ?_)
  · obtain ⟨ms, ap, v_some, x_some, KM, rfl, _⟩ := h
    rfl
  · obtain ⟨ms, ap, v_some, x_some, KM, rfl, hW, h_some, hM, hQ⟩ := h
    unfold M_pick_pli at hM
    refine ⟨_, (pss_one (ps_ret (pe_ix (ix_listK (K := K) rfl) (pv 1) (pe_call (ok_draw T) (hr.mono (by decide)) (by rfl) T.g_draw T.F_draw.kp T.b_draw .nil pass0 (pa_cons (pv 0) (pa_cons (pe_callB (call_lenK (K := K) rfl) (by rfl) T.z_len PySem.boot_len (pa_cons (pv 1) pa_nil)) pa_nil))) (fun _ _ => rfl)))), ?_⟩
    refine ⟨_, rfl, ?_⟩
    refine ⟨_, rfl, ?_⟩
    refine ⟨_, rfl, ?_⟩
    apply rep_lenL (e := (fun y_ : Int => (D.v (V.int y_)))) (xs := x_some) h_some
    refine ⟨ms, ap, (x_some.length : Int), _, rfl, hW.enterP, hM, fun r1 u4 H5 hM e3 h2 => ?_⟩
    replace h_some := rep_ret hW e3 h_some
    replace hW := hW.retP e3
    obtain rfl := of_v h2
    obtain ⟨g6, g7, hM⟩ := hM
    apply rep_ixL (e := (fun y_ : Int => (D.v (V.int y_)))) (xs := x_some) h_some g6 g7
    intro u10 h8
    obtain ⟨x9, x9e⟩ : ∃ x_, x_ = x_some[Int.toNat r1]'g7 := ⟨_, rfl⟩
    rw [← x9e] at h8
    replace hM := hM x9 x9e
    obtain rfl := of_v h8
    exact hQ x9 _ _ hM hW.out rep_v
def M_bent (x_parts_here : (Str × Str × Str)) (KM : (Str × Str × Str) → Prop) : Prop :=
  ((rangeI (0 : Int) (3 : Int)).length < 100000 ∧ filC (fun (x25 : Int) (k18 : Option Int → Prop) => (∃ y33, atI ([x_parts_here.1, x_parts_here.2.1, x_parts_here.2.2] : List Str) x25 = some y33 ∧ (if (!(decide (V.str y33 = V.str ("" : Str)))) = true then (k18 (some x25)) else (k18 none)))) (rangeI (0 : Int) (3 : Int)) [] fun ys42 => (M_pick_pli ys42 fun r46 => (∃ y51, atI ([x_parts_here.1, x_parts_here.2.1, x_parts_here.2.2] : List Str) r46 = some y51 ∧ (y51.length ≤ sizeLine ∧ (M_draw (y51.length : Int) fun r56 => (y51.length ≤ sizeLine ∧ (y51.length ≤ sizeLine ∧ ∃ c63, atI y51.cps.toList r56 = some c63 ∧ (M_turned (Str.mk #[c63]) fun r64 => (((cutS y51 none (some r56)).length + r64.length ≤ sizeLine) ∧ (y51.length ≤ sizeLine ∧ ((((cutS y51 none (some r56)) ++ r64).length + (cutS y51 (some (r56 + (1 : Int))) none).length ≤ sizeLine) ∧ (0 ≤ r46 ∧ Int.toNat r46 < ([x_parts_here.1, x_parts_here.2.1, x_parts_here.2.2] : List Str).length ∧ (0 ≤ (0 : Int) ∧ ∃ g80 : Int.toNat (0 : Int) < (([x_parts_here.1, x_parts_here.2.1, x_parts_here.2.2] : List Str).set (Int.toNat r46) (((cutS y51 none (some r56)) ++ r64) ++ (cutS y51 (some (r56 + (1 : Int))) none))).length, ∀ x82, x82 = (([x_parts_here.1, x_parts_here.2.1, x_parts_here.2.2] : List Str).set (Int.toNat r46) (((cutS y51 none (some r56)) ++ r64) ++ (cutS y51 (some (r56 + (1 : Int))) none)))[Int.toNat (0 : Int)]'g80 → (0 ≤ (1 : Int) ∧ ∃ g85 : Int.toNat (1 : Int) < (([x_parts_here.1, x_parts_here.2.1, x_parts_here.2.2] : List Str).set (Int.toNat r46) (((cutS y51 none (some r56)) ++ r64) ++ (cutS y51 (some (r56 + (1 : Int))) none))).length, ∀ x87, x87 = (([x_parts_here.1, x_parts_here.2.1, x_parts_here.2.2] : List Str).set (Int.toNat r46) (((cutS y51 none (some r56)) ++ r64) ++ (cutS y51 (some (r56 + (1 : Int))) none)))[Int.toNat (1 : Int)]'g85 → (0 ≤ (2 : Int) ∧ ∃ g90 : Int.toNat (2 : Int) < (([x_parts_here.1, x_parts_here.2.1, x_parts_here.2.2] : List Str).set (Int.toNat r46) (((cutS y51 none (some r56)) ++ r64) ++ (cutS y51 (some (r56 + (1 : Int))) none))).length, ∀ x92, x92 = (([x_parts_here.1, x_parts_here.2.1, x_parts_here.2.2] : List Str).set (Int.toNat r46) (((cutS y51 none (some r56)) ++ r64) ++ (cutS y51 (some (r56 + (1 : Int))) none)))[Int.toNat (2 : Int)]'g90 → (KM (x82, x87, x92)))))))))))))))))
def sp_bent (A : Ad) : Sp := fun vs H Q _ => ∃ (ms : List Addr) (ap : Addr) (v_parts_here : V) (x_parts_here : (Str × Str × Str)) (KM : (Str × Str × Str) → Prop), vs = [.ref ap, v_parts_here] ∧ Wd ms [ap] [] H H ∧ rep ms H (D.tup [(D.v (V.str x_parts_here.1)), (D.v (V.str x_parts_here.2.1)), (D.v (V.str x_parts_here.2.2))]) v_parts_here ∧ M_bent x_parts_here KM ∧ ∀ (r : (Str × Str × Str)) (u : V) (H1 : Hp), KM r → Ret [ap] H H1 → rep ms H1 (D.tup [(D.v (V.str r.1)), (D.v (V.str r.2.1)), (D.v (V.str r.2.2))]) u → Q u H1
set_option maxHeartbeats 16000000 in
theorem ok_bent {P : Program} {w : World} {K : PySem.W.Frag} {mg : Str → Option Value} {base : Heap} {A : Ad} (T : Txt w K mg A) : FnOk P w K mg base CX0 3 A.a_bent A.d_bent ["_law_pot_here", "_law_parts_here"] (sp_bent A) := by
  refine T.F_bent.ok sc_bent (fun vs H Q E h => ?_) (fun cdv A_ outer s_ H_0 vs Q E hr h => ?_)
  · obtain ⟨ms, ap, v_parts_here, x_parts_here, KM, rfl, _⟩ := h
    rfl
  · obtain ⟨ms, ap, v_parts_here, x_parts_here, KM, rfl, hW, h_parts_here, hM, hQ⟩ := h
    unfold M_bent at hM
    refine ⟨_, (pss_cons (ps_set (i := 2) sc_bent.nd rfl (by first | exact Or.inl rfl | exact Or.inr rfl) (pe_callTy (call_list_ofK (K := K) rfl) (by rfl) T.z_list (by decide +kernel) (pa_cons (pv 1) pa_nil))) (pss_cons (ps_set (i := 3) sc_bent.nd rfl (by first | exact Or.inl rfl | exact Or.inr rfl) (pe_call (ok_pick_pli T) (hr.mono (by decide)) (by rfl) T.g_pick T.F_pick.kp T.b_pick .nil pass0 (pa_cons (pv 0) (pa_cons (pe_lc (own := [("_law_at", 5)]) (g := gName 5) rfl sc_bent.nd (pi_rangeW1 (by rfl) T.z_range (pa_cons pe_int pa_nil)) (blkOk_by (N := ["_law_pot_here", "_law_parts_here", "_law_some", "_law_which", "_law_signs_here", "_law_at", "_law_bent_here"]) (sc := defScope s_bent) (by decide +kernel)) (fun _ _ _ _ _ => pg_name (i := 5) sc_bent.nd rfl (by first | exact Or.inl rfl | exact Or.inr rfl)) (fun _ _ _ _ _ => (pts_one (pt_cmpR op_ne (pe_ix (ix_listK (K := K) rfl) (pv 2) (pv 5) (fun _ _ => rfl)) pe_str (nomark _)))) (fun _ _ _ _ _ => (pv 5))) pa_nil)))) (pss_cons (ps_set (i := 4) sc_bent.nd rfl (by first | exact Or.inl rfl | exact Or.inr rfl) (pe_ix (ix_listK (K := K) rfl) (pv 2) (pv 3) (fun _ _ => rfl))) (pss_cons (ps_set (i := 5) sc_bent.nd rfl (by first | exact Or.inl rfl | exact Or.inr rfl) (pe_call (ok_draw T) (hr.mono (by decide)) (by rfl) T.g_draw T.F_draw.kp T.b_draw .nil pass0 (pa_cons (pv 0) (pa_cons (pe_callB call_len_str (by rfl) T.z_len PySem.boot_len (pa_cons (pv 4) pa_nil)) pa_nil)))) (pss_cons (ps_set (i := 6) sc_bent.nd rfl (by first | exact Or.inl rfl | exact Or.inr rfl) (pe_op op_add_str (pe_slice sl_str (pv 4) po_none (po_some (pv 5))) (pe_call (ok_turned T) (hr.mono (by decide)) (by rfl) T.g_turned T.F_turned.kp T.b_turned .nil pass0 (pa_cons (pe_ix ix_str (pv 4) (pv 5) (fun _ _ => rfl)) pa_nil)))) (pss_cons (ps_asg (pe_op op_add_str (pv 6) (pe_slice sl_str (pv 4) (po_some (pe_op op_add (pv 5) pe_int)) po_none)) (pg_sub (pv 2) (pv 3) set_list)) (pss_one (ps_ret (pe_tup (pa_cons (pe_ix (ix_listK (K := K) rfl) (pv 2) pe_int (fun _ _ => rfl)) (pa_cons (pe_ix (ix_listK (K := K) rfl) (pv 2) pe_int (fun _ _ => rfl)) (pa_cons (pe_ix (ix_listK (K := K) rfl) (pv 2) pe_int (fun _ _ => rfl)) pa_nil)))))))))))), ?_⟩
    refine ⟨_, rfl, ?_⟩
    apply rep_listT h_parts_here
    intro ys1 hr2
    intro L9 nl10
    have nm11 := nm_new hW nl10
    have mu12 := mo_newL (ds := ([x_parts_here.1, x_parts_here.2.1, x_parts_here.2.2] : List Str).map (fun y_ : Str => (D.v (V.str y_)))) (vs := ys1) hW nl10 hr2
    replace h_parts_here := rep_cell (o := .lst ys1) nl10 h_parts_here
    replace hW := wd_cell (o := .lst ys1) hW nl10
    generalize upd H_0 L9 (.lst ys1) = H13 at *
    replace mu12 : MutO (L9 :: ms) [ap] H_0 H13 L9 (D.lst (([x_parts_here.1, x_parts_here.2.1, x_parts_here.2.2] : List Str).map (fun y_ : Str => (D.v (V.str y_))))) := mu12
    refine ⟨_, rfl, ?_⟩
    refine ⟨_, rfl, ?_⟩
    refine fun L14 nl15 => ?_
    have nm29 := nm_new hW nl15
    have ne30 := mo_ne nl15 mu12
    refine lf_rangeG (L := L14) (fun n_ ys_ h_ => Wd (L14 :: (L9 :: ms)) [ap] [] H_0 h_ ∧ Keep (L14 :: (L9 :: ms)) H13 h_ ∧ MutO (L14 :: (L9 :: ms)) [ap] H_0 h_ L14 (D.lst (ys_.map (fun y_ : Int => (D.v (V.int y_))))) ∧ ys_.length ≤ n_ ∧ MutO (L14 :: (L9 :: ms)) [ap] H_0 h_ L9 (D.lst (([x_parts_here.1, x_parts_here.2.1, x_parts_here.2.2] : List Str).map (fun y_ : Str => (D.v (V.str y_)))))) (lo := (0 : Int)) (hi := (3 : Int)) (N := Int.toNat (3 : Int)) (by simp) hM ⟨wd_cell hW nl15, keep_cell nl15 Keep.refl, mo_newL (ds := []) hW nl15 repL_nil, Nat.le_refl _, mo_cell nl15 mu12⟩ ?_ ?_
    · skip
      clear mu12
      rintro x25  n16 ys17 k18 H31 hn ⟨hW, hk19, mu20, ln21, mu32⟩ hM Nx24 hN22 hNn23
      replace h_parts_here := rep_keep hk19 (rep_new nl15 h_parts_here)
      refine ⟨rfl, ?_⟩
      refine ⟨_, rfl, ?_⟩
      refine ⟨_, rfl, ?_⟩
      obtain ⟨y33, h34, hM⟩ := hM
      apply mo_ixN (e := (fun y_ : Str => (D.v (V.str y_)))) (xs := ([x_parts_here.1, x_parts_here.2.1, x_parts_here.2.2] : List Str)) (y := y33) mu32 h34
      intro u36 h35
      obtain rfl := of_v h35
      refine ⟨rfl, ?_⟩
      refine ⟨_, rfl, ?_⟩
      refine ite3 hM (fun hM => ?_) (fun hM => ?_)
      · skip
        refine ⟨_, rfl, ?_⟩
        refine mo_end mu20 hn (by rw [List.length_map]; exact ln21) fun vs37 hr38 => ?_
        have mk40 := mo_setL mu20 (repL_snoc (e := (fun y_ : Int => (D.v (V.int y_)))) (xs := ys17) (y := x25) hr38 rep_v)
        replace mu32 := mo_put (o := .lst (vs37 ++ [V.int x25])) mu20.im ne30 mu32
        replace h_parts_here := rep_put (o := .lst (vs37 ++ [V.int x25])) mu20.im h_parts_here
        replace hk19 := keep_put (o := .lst (vs37 ++ [V.int x25])) mu20.im hk19
        replace hW := wd_put (o := .lst (vs37 ++ [V.int x25])) hW mu20
        replace mu20 := mk40
        generalize upd H31 L14 (.lst (vs37 ++ [V.int x25])) = H41 at *
        replace mu20 : MutO (L14 :: (L9 :: ms)) [ap] H_0 H41 L14 (D.lst ((ys17 ++ [x25]).map (fun y_ : Int => (D.v (V.int y_))))) := mu20
        clear mk40
        exact hN22 x25 _ hM ⟨hW, hk19, mu20, by rw [List.length_append]; exact Nat.add_le_add_right ln21 1, mu32⟩
      · skip
        exact hNn23 _ hM ⟨hW, hk19, mu20, Nat.le_succ_of_le ln21, mu32⟩
    · skip
      clear mu12
      rintro n16 ys42 H43 hM ⟨hW, hk19, mu20, ln21, mu44⟩
      replace h_parts_here := rep_keep hk19 (rep_new nl15 h_parts_here)
      clear hk19 ln21
      have h45 := mo_rep_dr dr_here nm29 mu20
      replace hW := wd_dr dr_here mu20.hp hW
      replace h_parts_here := rep_dr dr_here h_parts_here
      replace mu44 := mo_dr dr_here ne30 mu44
      clear mu20
      refine ⟨(L9 :: ms), ap, _, ys42, _, rfl, hW.enterP, h45, hM, fun r46 u49 H50 hM e48 h47 => ?_⟩
      replace h_parts_here := rep_ret hW e48 h_parts_here
      replace h45 := rep_ret hW e48 h45
      replace mu44 := mo_ret hW e48 mu44
      replace hW := hW.retP e48
      obtain rfl := of_v h47
      refine ⟨_, rfl, ?_⟩
      refine ⟨_, rfl, ?_⟩
      obtain ⟨y51, h52, hM⟩ := hM
      apply mo_ixN (e := (fun y_ : Str => (D.v (V.str y_)))) (xs := ([x_parts_here.1, x_parts_here.2.1, x_parts_here.2.2] : List Str)) (y := y51) mu44 h52
      intro u54 h53
      obtain rfl := of_v h53
      refine ⟨_, rfl, ?_⟩
      refine ⟨_, rfl, ?_⟩
      obtain ⟨g55, hM⟩ := hM
      refine ⟨_, rfl, g55, ?_⟩
      refine ⟨(L9 :: ms), ap, (y51.length : Int), _, rfl, hW.enterP, hM, fun r56 u59 H60 hM e58 h57 => ?_⟩
      replace h_parts_here := rep_ret hW e58 h_parts_here
      replace h45 := rep_ret hW e58 h45
      replace mu44 := mo_ret hW e58 mu44
      replace hW := hW.retP e58
      obtain rfl := of_v h57
      refine ⟨_, rfl, ?_⟩
      refine ⟨_, rfl, ?_⟩
      refine ⟨_, rfl, ?_⟩
      obtain ⟨g61, hM⟩ := hM
      refine ⟨_, rfl, g61, ?_⟩
      refine ⟨_, rfl, ?_⟩
      refine ⟨_, rfl, ?_⟩
      obtain ⟨g62, hM⟩ := hM
      obtain ⟨c63, c63h, hM⟩ := hM
      refine ⟨_, _, _, rfl, rfl, g62, c63h, ?_⟩
      refine ⟨(L9 :: ms), (Str.mk #[c63]), _, rfl, hW.enter0, hM, fun r64 u67 H68 hM e66 h65 => ?_⟩
      replace h_parts_here := rep_ext e66 h_parts_here
      replace h45 := rep_ext e66 h45
      replace mu44 := mo_ext e66 mu44
      replace hW := hW.ret0 e66
      obtain rfl := of_v h65
      obtain ⟨g69, hM⟩ := hM
      refine ⟨_, _, rfl, rfl, g69, ?_⟩
      refine ⟨_, rfl, ?_⟩
      refine ⟨_, rfl, ?_⟩
      refine ⟨_, rfl, ?_⟩
      refine ⟨_, _, rfl, rfl, ?_⟩
      refine ⟨_, rfl, ?_⟩
      obtain ⟨g70, hM⟩ := hM
      refine ⟨_, rfl, g70, ?_⟩
      obtain ⟨g71, hM⟩ := hM
      refine ⟨_, _, rfl, rfl, g71, ?_⟩
      refine ⟨_, rfl, ?_⟩
      refine ⟨_, rfl, ?_⟩
      obtain ⟨g72, g73, hM⟩ := hM
      apply mo_setU (e := (fun y_ : Str => (D.v (V.str y_)))) (xs := ([x_parts_here.1, x_parts_here.2.1, x_parts_here.2.2] : List Str)) mu44 g72 g73
      intro vs74 hr75
      have mk76 := mo_setL mu44 (repL_set (e := (fun y_ : Str => (D.v (V.str y_)))) (y := (((cutS y51 none (some r56)) ++ r64) ++ (cutS y51 (some (r56 + (1 : Int))) none))) (Int.toNat r46) hr75 rep_v)
      replace h_parts_here := rep_put (o := .lst (vs74.set (Int.toNat r46) (V.str (((cutS y51 none (some r56)) ++ r64) ++ (cutS y51 (some (r56 + (1 : Int))) none))))) mu44.im h_parts_here
      replace h45 := rep_put (o := .lst (vs74.set (Int.toNat r46) (V.str (((cutS y51 none (some r56)) ++ r64) ++ (cutS y51 (some (r56 + (1 : Int))) none))))) mu44.im h45
      replace hW := wd_put (o := .lst (vs74.set (Int.toNat r46) (V.str (((cutS y51 none (some r56)) ++ r64) ++ (cutS y51 (some (r56 + (1 : Int))) none))))) hW mu44
      replace mu44 := mk76
      generalize upd H68 L9 (.lst (vs74.set (Int.toNat r46) (V.str (((cutS y51 none (some r56)) ++ r64) ++ (cutS y51 (some (r56 + (1 : Int))) none))))) = H77 at *
      replace mu44 : MutO (L9 :: ms) [ap] H_0 H77 L9 (D.lst ((([x_parts_here.1, x_parts_here.2.1, x_parts_here.2.2] : List Str).set (Int.toNat r46) (((cutS y51 none (some r56)) ++ r64) ++ (cutS y51 (some (r56 + (1 : Int))) none))).map (fun y_ : Str => (D.v (V.str y_))))) := mu44
      clear mk76
      have h78 := mo_rep_dr dr_here nm11 mu44
      replace hW := wd_dr dr_here mu44.hp hW
      replace h_parts_here := rep_dr dr_here h_parts_here
      replace h45 := rep_dr dr_here h45
      clear mu44
      refine ⟨_, rfl, ?_⟩
      obtain ⟨g79, g80, hM⟩ := hM
      apply rep_ixL (e := (fun y_ : Str => (D.v (V.str y_)))) (xs := (([x_parts_here.1, x_parts_here.2.1, x_parts_here.2.2] : List Str).set (Int.toNat r46) (((cutS y51 none (some r56)) ++ r64) ++ (cutS y51 (some (r56 + (1 : Int))) none)))) h78 g79 g80
      intro u83 h81
      obtain ⟨x82, x82e⟩ : ∃ x_, x_ = (([x_parts_here.1, x_parts_here.2.1, x_parts_here.2.2] : List Str).set (Int.toNat r46) (((cutS y51 none (some r56)) ++ r64) ++ (cutS y51 (some (r56 + (1 : Int))) none)))[Int.toNat (0 : Int)]'g80 := ⟨_, rfl⟩
      rw [← x82e] at h81
      replace hM := hM x82 x82e
      obtain rfl := of_v h81
      refine ⟨_, rfl, ?_⟩
      obtain ⟨g84, g85, hM⟩ := hM
      apply rep_ixL (e := (fun y_ : Str => (D.v (V.str y_)))) (xs := (([x_parts_here.1, x_parts_here.2.1, x_parts_here.2.2] : List Str).set (Int.toNat r46) (((cutS y51 none (some r56)) ++ r64) ++ (cutS y51 (some (r56 + (1 : Int))) none)))) h78 g84 g85
      intro u88 h86
      obtain ⟨x87, x87e⟩ : ∃ x_, x_ = (([x_parts_here.1, x_parts_here.2.1, x_parts_here.2.2] : List Str).set (Int.toNat r46) (((cutS y51 none (some r56)) ++ r64) ++ (cutS y51 (some (r56 + (1 : Int))) none)))[Int.toNat (1 : Int)]'g85 := ⟨_, rfl⟩
      rw [← x87e] at h86
      replace hM := hM x87 x87e
      obtain rfl := of_v h86
      refine ⟨_, rfl, ?_⟩
      obtain ⟨g89, g90, hM⟩ := hM
      apply rep_ixL (e := (fun y_ : Str => (D.v (V.str y_)))) (xs := (([x_parts_here.1, x_parts_here.2.1, x_parts_here.2.2] : List Str).set (Int.toNat r46) (((cutS y51 none (some r56)) ++ r64) ++ (cutS y51 (some (r56 + (1 : Int))) none)))) h78 g89 g90
      intro u93 h91
      obtain ⟨x92, x92e⟩ : ∃ x_, x_ = (([x_parts_here.1, x_parts_here.2.1, x_parts_here.2.2] : List Str).set (Int.toNat r46) (((cutS y51 none (some r56)) ++ r64) ++ (cutS y51 (some (r56 + (1 : Int))) none)))[Int.toNat (2 : Int)]'g90 := ⟨_, rfl⟩
      rw [← x92e] at h91
      replace hM := hM x92 x92e
      obtain rfl := of_v h91
      refine ⟨(by show 3 ≤ sizeLine; decide), ?_⟩
      intro p94 n98
      have e95 := Rx.Ext.new (H := H77) (o := (HO.tup [V.str x82, V.str x87, V.str x92])) n98
      have hp96 : upd H77 p94 (HO.tup [V.str x82, V.str x87, V.str x92]) p94 = some (HO.tup [V.str x82, V.str x87, V.str x92]) := upd_same
      generalize upd H77 p94 (HO.tup [V.str x82, V.str x87, V.str x92]) = H99 at e95 hp96 ⊢
      have h97 : rep ms H99 (D.tup [(D.v (V.str x82)), (D.v (V.str x87)), (D.v (V.str x92))]) (.ref p94) := rep_tup_mk hW n98 e95 hp96 (repL_cons rep_v (repL_cons rep_v (repL_cons rep_v repL_nil)))
      replace h_parts_here := rep_ext e95 h_parts_here
      replace h45 := rep_ext e95 h45
      replace h78 := rep_ext e95 h78
      replace hW := hW.ret0 e95
      exact hQ (x82, x87, x92) _ _ hM hW.out h97
def M_pick_pls (x_some : (List Str)) (KM : Str → Prop) : Prop :=
  (M_draw (x_some.length : Int) fun r1 => (0 ≤ r1 ∧ ∃ g7 : Int.toNat r1 < x_some.length, ∀ x9, x9 = x_some[Int.toNat r1]'g7 → (KM x9)))
def sp_pick_pls (A : Ad) : Sp := fun vs H Q _ => ∃ (ms : List Addr) (ap : Addr) (v_some : V) (x_some : (List Str)) (KM : Str → Prop), vs = [.ref ap, v_some] ∧ Wd ms [ap] [] H H ∧ rep ms H (D.lst (x_some.map (fun y_ : Str => (D.v (V.str y_))))) v_some ∧ M_pick_pls x_some KM ∧ ∀ (r : Str) (u : V) (H1 : Hp), KM r → Ret [ap] H H1 → rep ms H1 (D.v (V.str r)) u → Q u H1
set_option maxHeartbeats 16000000 in
theorem ok_pick_pls {P : Program} {w : World} {K : PySem.W.Frag} {mg : Str → Option Value} {base : Heap} {A : Ad} (T : Txt w K mg A) : FnOk P w K mg base CX0 2 A.a_pick A.d_pick ["_law_pot_here", "_law_some"] (sp_pick_pls A) := by
  refine T.F_pick.ok sc_pick (fun vs H Q E h => ?_) (fun cdv A_ outer s_ H_0 vs Q E hr h => ?_)
  · obtain ⟨ms, ap, v_some, x_some, KM, rfl, _⟩ := h
    rfl
  · obtain ⟨ms, ap, v_some, x_some, KM, rfl, hW, h_some, hM, hQ⟩ := h
    unfold M_pick_pls at hM
    refine ⟨_, (pss_one (ps_ret (pe_ix (ix_listK (K := K) rfl) (pv 1) (pe_call (ok_draw T) (hr.mono (by decide)) (by rfl) T.g_draw T.F_draw.kp T.b_draw .nil pass0 (pa_cons (pv 0) (pa_cons (pe_callB (call_lenK (K := K) rfl) (by rfl) T.z_len PySem.boot_len (pa_cons (pv 1) pa_nil)) pa_nil))) (fun _ _ => rfl)))), ?_⟩
    refine ⟨_, rfl, ?_⟩
    refine ⟨_, rfl, ?_⟩
    refine ⟨_, rfl, ?_⟩
    apply rep_lenL (e := (fun y_ : Str => (D.v (V.str y_)))) (xs := x_some) h_some
    refine ⟨ms, ap, (x_some.length : Int), _, rfl, hW.enterP, hM, fun r1 u4 H5 hM e3 h2 => ?_⟩
    replace h_some := rep_ret hW e3 h_some
    replace hW := hW.retP e3
    obtain rfl := of_v h2
    obtain ⟨g6, g7, hM⟩ := hM
    apply rep_ixL (e := (fun y_ : Str => (D.v (V.str y_)))) (xs := x_some) h_some g6 g7
    intro u10 h8
    obtain ⟨x9, x9e⟩ : ∃ x_, x_ = x_some[Int.toNat r1]'g7 := ⟨_, rfl⟩
    rw [← x9e] at h8
    replace hM := hM x9 x9e
    obtain rfl := of_v h8
    exact hQ x9 _ _ hM hW.out rep_v
def M_shortest_said (x_middle : Str) (KM : Str → Prop) : Prop :=
  (x_middle.length ≤ sizeLine ∧ (forC (fun (x2 : Int) (s4 : Unit) (k5 : Unit → Prop) => (x_middle.length ≤ sizeLine ∧ (x_middle.length ≤ sizeLine ∧ (CDivW (x_middle.length : Int) x2 ∧ (MulOk (cutS x_middle none (some x2)) ((x_middle.length : Int) / x2) ∧ (if (decide (V.str (Txt.mul (cutS x_middle none (some x2)) ((x_middle.length : Int) / x2)) = V.str x_middle)) = true then (x_middle.length ≤ sizeLine ∧ (KM (cutS x_middle none (some x2)))) else (k5 ()))))))) (rangeI (1 : Int) (x_middle.length : Int)) () fun s17 => (KM x_middle)))
def sp_shortest_said (A : Ad) : Sp := fun vs H Q _ => ∃ (ms : List Addr) (x_middle : Str) (KM : Str → Prop), vs = [V.str x_middle] ∧ Wd ms [] [] H H ∧ M_shortest_said x_middle KM ∧ ∀ (r : Str) (u : V) (H1 : Hp), KM r → Ret [] H H1 → rep ms H1 (D.v (V.str r)) u → Q u H1
set_option maxHeartbeats 16000000 in
theorem ok_shortest_said {P : Program} {w : World} {K : PySem.W.Frag} {mg : Str → Option Value} {base : Heap} {A : Ad} (T : Txt w K mg A) : FnOk P w K mg base CX0 1 A.a_shortest_said A.d_shortest_said ["middle"] (sp_shortest_said A) := by
  refine T.F_shortest_said.ok sc_shortest_said (fun vs H Q E h => ?_) (fun cdv A_ outer s_ H_0 vs Q E hr h => ?_)
  · obtain ⟨ms, x_middle, KM, rfl, _⟩ := h
    rfl
  · obtain ⟨ms, x_middle, KM, rfl, hW, hM, hQ⟩ := h
    unfold M_shortest_said at hM
    refine ⟨_, (pss_cons (ps_for PassesOwn.never rfl (pi_rangeW2 (by rfl) T.z_range (pa_cons pe_int (pa_cons (pe_callB call_len_str (by rfl) T.z_len PySem.boot_len (pa_cons (pv 0) pa_nil)) pa_nil))) (pg_name (i := 1) sc_shortest_said.nd rfl (by first | exact Or.inl rfl | exact Or.inr rfl)) (pss_one (ps_if (pt_cmpR op_eq (pe_op op_mulS (pe_slice sl_str (pv 0) po_none (po_some (pv 1))) (pe_op op_fdivW (pe_callB call_len_str (by rfl) T.z_len PySem.boot_len (pa_cons (pv 0) pa_nil)) (pv 1))) (pv 0) (nomark _)) (pss_one (ps_ret (pe_slice sl_str (pv 0) po_none (po_some (pv 1))))) pss_nil))) (pss_one (ps_ret (pv 0)))), ?_⟩
    refine ⟨_, rfl, ?_⟩
    obtain ⟨g1, hM⟩ := hM
    refine ⟨_, rfl, g1, ?_⟩
    refine ⟨_, _, rfl, ?_⟩
    refine for_rangeG (S := Unit) (lo := (1 : Int)) (hi := (x_middle.length : Int)) (N := Int.toNat ((x_middle.length : Int) - (1 : Int))) (fun (s : Unit) σ_ h_ => ∃ (w_0 : Option V), σ_ = [some (V.str x_middle), w_0] ∧ Wd ms [] [] H_0 h_ ∧ Keep ms H_0 h_) () (by simp) hM ⟨_, rfl, hW, Keep.refl⟩ ?_ ?_
    · skip
      rintro x2 s4 k5 _ H11 ⟨w10, rfl, hW, hk6⟩ hM Nx8 hN9
      refine ⟨_, rfl, ?_⟩
      refine ⟨_, rfl, ?_⟩
      refine ⟨_, rfl, ?_⟩
      obtain ⟨g12, hM⟩ := hM
      refine ⟨_, rfl, g12, ?_⟩
      refine ⟨_, rfl, ?_⟩
      obtain ⟨g13, hM⟩ := hM
      refine ⟨_, rfl, g13, ?_⟩
      refine ⟨_, rfl, ?_⟩
      obtain ⟨g14, hM⟩ := hM
      refine ⟨_, _, rfl, rfl, g14, ?_⟩
      obtain ⟨g15, hM⟩ := hM
      refine ⟨_, _, rfl, rfl, g15, ?_⟩
      refine ⟨_, rfl, ?_⟩
      refine ⟨rfl, ?_⟩
      refine ⟨_, rfl, ?_⟩
      refine ite3 hM (fun hM => ?_) (fun hM => ?_)
      · skip
        refine ⟨_, rfl, ?_⟩
        refine ⟨_, rfl, ?_⟩
        refine ⟨_, rfl, ?_⟩
        obtain ⟨g16, hM⟩ := hM
        refine ⟨_, rfl, g16, ?_⟩
        exact hQ (cutS x_middle none (some x2)) _ _ hM hW.out rep_v
      · skip
        exact hN9 () _ _ hM ⟨_, rfl, hW, hk6⟩
    · skip
      rintro s17 _ H20 hM ⟨w19, rfl, hW, hk18⟩
      refine ⟨_, rfl, ?_⟩
      exact hQ x_middle _ _ hM hW.out rep_v
def M_Word_reduced (x_self : (Str × Str × Str)) (KM : (Str × Str × Str) → Prop) : Prop :=
  (M_shortest_said x_self.2.1 fun r5 => (∃ fu12, whileC (fun (s13 : Str × Str) (k14 k15 : (Str × Str) → Prop) => (if (!(decide (V.str s13.1 = V.str ("" : Str)))) = true then (s13.1.length ≤ sizeLine ∧ ∃ c23, atI s13.1.cps.toList (-(1 : Int)) = some c23 ∧ (s13.2.length ≤ sizeLine ∧ ∃ c25, atI s13.2.cps.toList (-(1 : Int)) = some c25 ∧ (if (decide (V.str (Str.mk #[c23]) = V.str (Str.mk #[c25]))) = true then (s13.1.length ≤ sizeLine ∧ (s13.2.length ≤ sizeLine ∧ ∃ c28, atI s13.2.cps.toList (-(1 : Int)) = some c28 ∧ (s13.2.length ≤ sizeLine ∧ (((Str.mk #[c28]).length + (cutS s13.2 none (some (-(1 : Int)))).length ≤ sizeLine) ∧ (k14 ((cutS s13.1 none (some (-(1 : Int)))), ((Str.mk #[c28]) ++ (cutS s13.2 none (some (-(1 : Int))))))))))) else (k15 (s13.1, s13.2))))) else (k15 (s13.1, s13.2)))) fu12 (x_self.1, r5) fun s31 => (s31.2.length ≤ sizeLine ∧ (if (decide (V.int (s31.2.length : Int) = V.int (1 : Int))) = true then (x_self.2.2.length ≤ sizeLine ∧ (M_Word_init s31.1 s31.2 (Txt.lstripChars x_self.2.2 s31.2) ∧ (KM (s31.1, s31.2, (Txt.lstripChars x_self.2.2 s31.2))))) else (M_Word_init s31.1 s31.2 x_self.2.2 ∧ (KM (s31.1, s31.2, x_self.2.2)))))))
def sp_Word_reduced (A : Ad) : Sp := fun vs H Q _ => ∃ (ms : List Addr) (v_self : V) (x_self : (Str × Str × Str)) (KM : (Str × Str × Str) → Prop), vs = [v_self] ∧ Wd ms [] [] H H ∧ rep ms H (eWord A x_self) v_self ∧ M_Word_reduced x_self KM ∧ ∀ (r : (Str × Str × Str)) (u : V) (H1 : Hp), KM r → Ret [] H H1 → rep ms H1 (eWord A r) u → Q u H1
set_option maxHeartbeats 16000000 in
theorem ok_Word_reduced {P : Program} {w : World} {K : PySem.W.Frag} {mg : Str → Option Value} {base : Heap} {A : Ad} (T : Txt w K mg A) : FnOk P w K mg base CX0 5 A.a_Word_reduced A.d_Word_reduced ["self"] (sp_Word_reduced A) := by
  refine T.F_Word_reduced.ok sc_Word_reduced (fun vs H Q E h => ?_) (fun cdv A_ outer s_ H_0 vs Q E hr h => ?_)
  · obtain ⟨ms, v_self, x_self, KM, rfl, _⟩ := h
    rfl
  · obtain ⟨ms, v_self, x_self, KM, rfl, hW, h_self, hM, hQ⟩ := h
    unfold M_Word_reduced at hM
    refine ⟨_, (pss_cons (ps_set (i := 1) sc_Word_reduced.nd rfl (by first | exact Or.inl rfl | exact Or.inr rfl) (pe_fld (pv 0) rfl)) (pss_cons (ps_set (i := 2) sc_Word_reduced.nd rfl (by first | exact Or.inl rfl | exact Or.inr rfl) (pe_call (ok_shortest_said T) (hr.mono (by decide)) (by rfl) T.g_shortest_said T.F_shortest_said.kp T.b_shortest_said .nil pass0 (pa_cons (pe_fld (pv 0) rfl) pa_nil))) (pss_cons (ps_set (i := 3) sc_Word_reduced.nd rfl (by first | exact Or.inl rfl | exact Or.inr rfl) (pe_fld (pv 0) rfl)) (pss_cons (ps_while PassesOwn.never (pt_up (PW.pt (pw_and (pt_cmpR op_ne (pv 1) pe_str (nomark _)) (pw_and1 (pt_cmpR op_eq (pe_ix ix_str (pv 1) (pe_un un_neg pe_int) (fun _ _ => rfl)) (pe_ix ix_str (pv 2) (pe_un un_neg pe_int) (fun _ _ => rfl)) (nomark _)))))) (pss_cons (ps_set (i := 1) sc_Word_reduced.nd rfl (by first | exact Or.inl rfl | exact Or.inr rfl) (pe_slice sl_str (pv 1) po_none (po_some (pe_un un_neg pe_int)))) (pss_one (ps_set (i := 2) sc_Word_reduced.nd rfl (by first | exact Or.inl rfl | exact Or.inr rfl) (pe_op op_add_str (pe_ix ix_str (pv 2) (pe_un un_neg pe_int) (fun _ _ => rfl)) (pe_slice sl_str (pv 2) po_none (po_some (pe_un un_neg pe_int)))))))) (pss_cons (ps_if (pt_cmpR op_eq (pe_callB call_len_str (by rfl) T.z_len PySem.boot_len (pa_cons (pv 2) pa_nil)) pe_int (nomark _)) (pss_one (ps_set (i := 3) sc_Word_reduced.nd rfl (by first | exact Or.inl rfl | exact Or.inr rfl) (pe_m1 PySem.F.slot_str_lstrip PySem.F.type_str_lstrip mt_lstripChars (pv 3) (pv 2)))) pss_nil) (pss_one (ps_ret (pe_make T.mk_Word (ok_Word_init T) (hr.mono (by decide)) (by rfl) T.g_Word T.b_Word_init .nil pass0 (pa_cons (pv 1) (pa_cons (pv 2) (pa_cons (pv 3) pa_nil))))))))))), ?_⟩
    refine ⟨_, rfl, ?_⟩
    apply rep_fld (j := 0) h_self T.cl_Word T.na_Word__head nd_Word rfl rfl
    intro u2 h1
    obtain rfl := of_v h1
    refine ⟨_, rfl, ?_⟩
    apply rep_fld (j := 1) h_self T.cl_Word T.na_Word__middle nd_Word rfl rfl
    intro u4 h3
    obtain rfl := of_v h3
    refine ⟨ms, x_self.2.1, _, rfl, hW.enter0, hM, fun r5 u8 H9 hM e7 h6 => ?_⟩
    replace h_self := rep_ext e7 h_self
    replace hW := hW.ret0 e7
    obtain rfl := of_v h6
    refine ⟨_, rfl, ?_⟩
    apply rep_fld (j := 2) h_self T.cl_Word T.na_Word__tail nd_Word rfl rfl
    intro u11 h10
    obtain rfl := of_v h10
    obtain ⟨fu12, hM⟩ := hM
    refine while_G (S := Str × Str) (fun (s : Str × Str) σ_ h_ => σ_ = [some v_self, some (V.str s.1), some (V.str s.2), some (V.str x_self.2.2)] ∧ Wd ms [] [] H_0 h_ ∧ Keep ms H9 h_) (x_self.1, r5) hM ⟨rfl, hW, Keep.refl⟩ ?_ ?_ ?_
    · skip
      rintro s13 k14 k15 _ H21 ⟨rfl, hW, hk16⟩ hM Nx17 Ex18 hN19 hE20
      replace h_self := rep_keep hk16 h_self
      refine ⟨_, ?_, fun _ _ h_ => h_⟩
      refine ⟨_, rfl, ?_⟩
      refine ⟨rfl, ?_⟩
      refine ⟨_, rfl, ?_⟩
      refine ite3 hM (fun hM => ?_) (fun hM => ?_)
      · skip
        refine ⟨_, rfl, ?_⟩
        refine ⟨_, rfl, ?_⟩
        obtain ⟨g22, hM⟩ := hM
        obtain ⟨c23, c23h, hM⟩ := hM
        refine ⟨_, _, _, rfl, rfl, g22, c23h, ?_⟩
        refine ⟨_, rfl, ?_⟩
        refine ⟨_, rfl, ?_⟩
        obtain ⟨g24, hM⟩ := hM
        obtain ⟨c25, c25h, hM⟩ := hM
        refine ⟨_, _, _, rfl, rfl, g24, c25h, ?_⟩
        refine ⟨rfl, ?_⟩
        refine ⟨_, rfl, ?_⟩
        refine ite3 hM (fun hM => ?_) (fun hM => ?_)
        · skip
          refine ⟨_, rfl, ?_⟩
          refine ⟨_, rfl, ?_⟩
          refine ⟨_, rfl, ?_⟩
          obtain ⟨g26, hM⟩ := hM
          refine ⟨_, rfl, g26, ?_⟩
          refine ⟨_, rfl, ?_⟩
          refine ⟨_, rfl, ?_⟩
          obtain ⟨g27, hM⟩ := hM
          obtain ⟨c28, c28h, hM⟩ := hM
          refine ⟨_, _, _, rfl, rfl, g27, c28h, ?_⟩
          refine ⟨_, rfl, ?_⟩
          refine ⟨_, rfl, ?_⟩
          refine ⟨_, rfl, ?_⟩
          obtain ⟨g29, hM⟩ := hM
          refine ⟨_, rfl, g29, ?_⟩
          obtain ⟨g30, hM⟩ := hM
          refine ⟨_, _, rfl, rfl, g30, ?_⟩
          exact hN19 ((cutS s13.1 none (some (-(1 : Int)))), ((Str.mk #[c28]) ++ (cutS s13.2 none (some (-(1 : Int)))))) _ _ hM ⟨rfl, hW, hk16⟩
        · skip
          exact hE20 (s13.1, s13.2) _ _ hM ⟨rfl, hW, hk16⟩
      · skip
        refine iteF ?_
        exact hE20 (s13.1, s13.2) _ _ hM ⟨rfl, hW, hk16⟩
    · skip
      rintro s31 _ H33 hM ⟨rfl, hW, hk32⟩
      replace h_self := rep_keep hk32 h_self
      refine ⟨_, rfl, ?_⟩
      obtain ⟨g34, hM⟩ := hM
      refine ⟨_, rfl, g34, ?_⟩
      refine ⟨rfl, ?_⟩
      refine ⟨_, rfl, ?_⟩
      refine ite3 hM (fun hM => ?_) (fun hM => ?_)
      · skip
        refine ⟨_, rfl, ?_⟩
        refine ⟨⟨_, rfl⟩, ?_⟩
        refine ⟨_, rfl, ?_⟩
        obtain ⟨g35, hM⟩ := hM
        refine ⟨_, _, rfl, rfl, g35, ?_⟩
        refine ⟨_, rfl, ?_⟩
        refine ⟨_, rfl, ?_⟩
        refine ⟨_, rfl, ?_⟩
        conv => whnf
        apply make_Word hW hM
        intro p36 H39 hM e38 h37
        replace h_self := rep_ext e38 h_self
        replace hW := hW.ret0 e38
        exact hQ (s31.1, s31.2, (Txt.lstripChars x_self.2.2 s31.2)) _ _ hM hW.out h37
      · skip
        refine ⟨_, rfl, ?_⟩
        refine ⟨_, rfl, ?_⟩
        refine ⟨_, rfl, ?_⟩
        conv => whnf
        apply make_Word hW hM
        intro p40 H43 hM e42 h41
        replace h_self := rep_ext e42 h_self
        replace hW := hW.ret0 e42
        exact hQ (s31.1, s31.2, x_self.2.2) _ _ hM hW.out h41
    · skip
      exact fun _ _ _ _ m_ ⟨Q_, h_, m1_⟩ => ⟨Q_, h_, fun b_ H_ q_ => m_ b_ H_ (m1_ b_ H_ q_)⟩
def M_Word_repr (x_self : (Str × Str × Str)) (KM : Str → Prop) : Prop :=
  ((Str.empty ++ ("Word(" : Str)).length ≤ sizeLine ∧ ((reprText x_self.1).length ≤ sizeLine ∧ (((Str.empty ++ ("Word(" : Str)) ++ (reprText x_self.1)).length ≤ sizeLine ∧ ((((Str.empty ++ ("Word(" : Str)) ++ (reprText x_self.1)) ++ (", " : Str)).length ≤ sizeLine ∧ ((reprText x_self.2.1).length ≤ sizeLine ∧ (((((Str.empty ++ ("Word(" : Str)) ++ (reprText x_self.1)) ++ (", " : Str)) ++ (reprText x_self.2.1)).length ≤ sizeLine ∧ ((((((Str.empty ++ ("Word(" : Str)) ++ (reprText x_self.1)) ++ (", " : Str)) ++ (reprText x_self.2.1)) ++ (", " : Str)).length ≤ sizeLine ∧ ((reprText x_self.2.2).length ≤ sizeLine ∧ (((((((Str.empty ++ ("Word(" : Str)) ++ (reprText x_self.1)) ++ (", " : Str)) ++ (reprText x_self.2.1)) ++ (", " : Str)) ++ (reprText x_self.2.2)).length ≤ sizeLine ∧ ((((((((Str.empty ++ ("Word(" : Str)) ++ (reprText x_self.1)) ++ (", " : Str)) ++ (reprText x_self.2.1)) ++ (", " : Str)) ++ (reprText x_self.2.2)) ++ (")" : Str)).length ≤ sizeLine ∧ (KM (((((((Str.empty ++ ("Word(" : Str)) ++ (reprText x_self.1)) ++ (", " : Str)) ++ (reprText x_self.2.1)) ++ (", " : Str)) ++ (reprText x_self.2.2)) ++ (")" : Str)))))))))))))
def sp_Word_repr (A : Ad) : Sp := fun vs H Q _ => ∃ (ms : List Addr) (v_self : V) (x_self : (Str × Str × Str)) (KM : Str → Prop), vs = [v_self] ∧ Wd ms [] [] H H ∧ rep ms H (eWord A x_self) v_self ∧ M_Word_repr x_self KM ∧ ∀ (r : Str) (u : V) (H1 : Hp), KM r → Ret [] H H1 → rep ms H1 (D.v (V.str r)) u → Q u H1
set_option maxHeartbeats 16000000 in
theorem ok_Word_repr {P : Program} {w : World} {K : PySem.W.Frag} {mg : Str → Option Value} {base : Heap} {A : Ad} (T : Txt w K mg A) : FnOk P w K mg base CX0 1 A.a_Word_repr A.d_Word_repr ["self"] (sp_Word_repr A) := by
  refine T.F_Word_repr.ok sc_Word_repr (fun vs H Q E h => ?_) (fun cdv A_ outer s_ H_0 vs Q E hr h => ?_)
  · obtain ⟨ms, v_self, x_self, KM, rfl, _⟩ := h
    rfl
  · obtain ⟨ms, v_self, x_self, KM, rfl, hW, h_self, hM, hQ⟩ := h
    unfold M_Word_repr at hM
    refine ⟨_, (pss_one (ps_ret (pe_joined (.cons pe_str (.cons (pe_fmtR (pe_fld (pv 0) rfl)) (.cons pe_str (.cons (pe_fmtR (pe_fld (pv 0) rfl)) (.cons pe_str (.cons (pe_fmtR (pe_fld (pv 0) rfl)) (.cons pe_str .nil)))))))))), ?_⟩
    obtain ⟨g1, hM⟩ := hM
    refine ⟨_, rfl, g1, ?_⟩
    refine ⟨_, rfl, ?_⟩
    apply rep_fld (j := 0) h_self T.cl_Word T.na_Word__head nd_Word rfl rfl
    intro u3 h2
    obtain rfl := of_v h2
    obtain ⟨g4, hM⟩ := hM
    refine .inl ⟨_, rfl, g4, ?_⟩
    obtain ⟨g5, hM⟩ := hM
    refine ⟨_, rfl, g5, ?_⟩
    obtain ⟨g6, hM⟩ := hM
    refine ⟨_, rfl, g6, ?_⟩
    refine ⟨_, rfl, ?_⟩
    apply rep_fld (j := 1) h_self T.cl_Word T.na_Word__middle nd_Word rfl rfl
    intro u8 h7
    obtain rfl := of_v h7
    obtain ⟨g9, hM⟩ := hM
    refine .inl ⟨_, rfl, g9, ?_⟩
    obtain ⟨g10, hM⟩ := hM
    refine ⟨_, rfl, g10, ?_⟩
    obtain ⟨g11, hM⟩ := hM
    refine ⟨_, rfl, g11, ?_⟩
    refine ⟨_, rfl, ?_⟩
    apply rep_fld (j := 2) h_self T.cl_Word T.na_Word__tail nd_Word rfl rfl
    intro u13 h12
    obtain rfl := of_v h12
    obtain ⟨g14, hM⟩ := hM
    refine .inl ⟨_, rfl, g14, ?_⟩
    obtain ⟨g15, hM⟩ := hM
    refine ⟨_, rfl, g15, ?_⟩
    obtain ⟨g16, hM⟩ := hM
    refine ⟨_, rfl, g16, ?_⟩
    exact hQ (((((((Str.empty ++ ("Word(" : Str)) ++ (reprText x_self.1)) ++ (", " : Str)) ++ (reprText x_self.2.1)) ++ (", " : Str)) ++ (reprText x_self.2.2)) ++ (")" : Str)) _ _ hM hW.out rep_v
def M_mixed (x_some : (List (Int × Int))) (KM : (List (Int × Int)) → Prop) : Prop :=
  ((rangeI (0 : Int) (x_some.length : Int)).length < 100000 ∧ mapS (fun (x25 : Int) (s28 : (List (Int × Int))) (k18 : (Int × Int) → ((List (Int × Int))) → Prop) => (M_draw (s28.length : Int) fun r33 => ((0 ≤ r33 ∧ r33 < 2 ^ 63) ∧ ∃ y43, s28[Int.toNat r33]? = some y43 ∧ (k18 y43 ((s28.eraseIdx (Int.toNat r33))))))) (rangeI (0 : Int) (x_some.length : Int)) [] (x_some) fun ys54 s28 => (KM ys54))
def sp_mixed (A : Ad) : Sp := fun vs H Q _ => ∃ (ms : List Addr) (ap : Addr) (v_some : V) (x_some : (List (Int × Int))) (KM : (List (Int × Int)) → Prop), vs = [.ref ap, v_some] ∧ Wd ms [ap] [] H H ∧ rep ms H (D.lst (x_some.map (fun y_ : (Int × Int) => (D.tup [(D.v (V.int y_.1)), (D.v (V.int y_.2))])))) v_some ∧ M_mixed x_some KM ∧ ∀ (r : (List (Int × Int))) (u : V) (H1 : Hp), KM r → Ret [ap] H H1 → rep ms H1 (D.lst (r.map (fun y_ : (Int × Int) => (D.tup [(D.v (V.int y_.1)), (D.v (V.int y_.2))])))) u → Q u H1
set_option maxHeartbeats 16000000 in
theorem ok_mixed {P : Program} {w : World} {K : PySem.W.Frag} {mg : Str → Option Value} {base : Heap} {A : Ad} (T : Txt w K mg A) : FnOk P w K mg base CX0 2 A.a_mixed A.d_mixed ["_law_pot_here", "_law_some"] (sp_mixed A) := by
  refine T.F_mixed.ok sc_mixed (fun vs H Q E h => ?_) (fun cdv A_ outer s_ H_0 vs Q E hr h => ?_)
  · obtain ⟨ms, ap, v_some, x_some, KM, rfl, _⟩ := h
    rfl
  · obtain ⟨ms, ap, v_some, x_some, KM, rfl, hW, h_some, hM, hQ⟩ := h
    unfold M_mixed at hM
    refine ⟨_, (pss_cons (ps_set (i := 2) sc_mixed.nd rfl (by first | exact Or.inl rfl | exact Or.inr rfl) (pe_callTy (call_list_ofK (K := K) rfl) (by rfl) T.z_list (by decide +kernel) (pa_cons (pv 1) pa_nil))) (pss_one (ps_ret (pe_lc (own := [("_law_turn", 3)]) (g := gName 3) rfl sc_mixed.nd (pi_rangeW1 (by rfl) T.z_range (pa_cons (pe_callB (call_lenK (K := K) rfl) (by rfl) T.z_len PySem.boot_len (pa_cons (pv 1) pa_nil)) pa_nil)) (blkOk_by (N := ["_law_pot_here", "_law_some", "_law_left", "_law_turn"]) (sc := defScope s_mixed) (by decide +kernel)) (fun _ _ _ _ _ => pg_name (i := 3) sc_mixed.nd rfl (by first | exact Or.inl rfl | exact Or.inr rfl)) (fun _ _ _ _ _ => pts_nil) (fun _ _ _ _ _ => (pe_bmK (K := K) rfl PySem.F.plainAttrs_list PySem.F.slot_list_pop PySem.F.type_list_pop mt_popAt (pv 2) (pa_cons (pe_call (ok_draw T) (hr.mono (by decide)) (by rfl) T.g_draw T.F_draw.kp T.b_draw .nil pass0 (pa_cons (pv 0) (pa_cons (pe_callB (call_lenK (K := K) rfl) (by rfl) T.z_len PySem.boot_len (pa_cons (pv 2) pa_nil)) pa_nil))) pa_nil))))))), ?_⟩
    refine ⟨_, rfl, ?_⟩
    apply rep_listL h_some
    intro ys1 hr2
    intro L9 nl10
    have nm11 := nm_new hW nl10
    have mu12 := mo_newL (ds := x_some.map (fun y_ : (Int × Int) => (D.tup [(D.v (V.int y_.1)), (D.v (V.int y_.2))]))) (vs := ys1) hW nl10 hr2
    replace h_some := rep_cell (o := .lst ys1) nl10 h_some
    replace hW := wd_cell (o := .lst ys1) hW nl10
    generalize upd H_0 L9 (.lst ys1) = H13 at *
    replace mu12 : MutO (L9 :: ms) [ap] H_0 H13 L9 (D.lst (x_some.map (fun y_ : (Int × Int) => (D.tup [(D.v (V.int y_.1)), (D.v (V.int y_.2))])))) := mu12
    refine ⟨_, rfl, ?_⟩
    apply rep_lenL (e := (fun y_ : (Int × Int) => (D.tup [(D.v (V.int y_.1)), (D.v (V.int y_.2))]))) (xs := x_some) h_some
    refine ⟨_, rfl, ?_⟩
    refine fun L14 nl15 => ?_
    have nm29 := nm_new hW nl15
    have ne30 := mo_ne nl15 mu12
    refine lc_rangeS (L := L14) (fun n_ ys_ (s_ : (List (Int × Int))) h_ => Wd (L14 :: (L9 :: ms)) [ap] [] H_0 h_ ∧ Keep (L14 :: (L9 :: ms)) H13 h_ ∧ MutO (L14 :: (L9 :: ms)) [ap] H_0 h_ L14 (D.lst (ys_.map (fun y_ : (Int × Int) => (D.tup [(D.v (V.int y_.1)), (D.v (V.int y_.2))])))) ∧ ys_.length ≤ n_ ∧ MutO (L14 :: (L9 :: ms)) [ap] H_0 h_ L9 (D.lst (s_.map (fun y_ : (Int × Int) => (D.tup [(D.v (V.int y_.1)), (D.v (V.int y_.2))]))))) (x_some) (lo := (0 : Int)) (hi := (x_some.length : Int)) (N := Int.toNat (x_some.length : Int)) (by simp) hM ⟨wd_cell hW nl15, keep_cell nl15 Keep.refl, mo_newL (ds := []) hW nl15 repL_nil, Nat.le_refl _, mo_cell nl15 mu12⟩ ?_ ?_
    · skip
      clear mu12
      rintro x25  n16 ys17 s28 k18 H31 hn ⟨hW, hk19, mu20, ln21, mu32⟩ hM Nx24 hN22
      replace h_some := rep_keep hk19 (rep_new nl15 h_some)
      refine ⟨rfl, ?_⟩
      refine tyes_of ?_
      refine ⟨_, rfl, ?_⟩
      refine ⟨mo_tyL mu32, ?_⟩
      refine ⟨_, rfl, ?_⟩
      refine ⟨_, rfl, ?_⟩
      apply mo_len (e := (fun y_ : (Int × Int) => (D.tup [(D.v (V.int y_.1)), (D.v (V.int y_.2))]))) (xs := s28) mu32
      refine ⟨(L14 :: (L9 :: ms)), ap, (s28.length : Int), _, rfl, hW.enterP, hM, fun r33 u36 H37 hM e35 h34 => ?_⟩
      replace h_some := rep_ret hW e35 h_some
      replace hk19 := keep_ret hW e35 hk19
      replace mu32 := mo_ret hW e35 mu32
      replace mu20 := mo_ret hW e35 mu20
      replace hW := hW.retP e35
      obtain rfl := of_v h34
      obtain ⟨g38, hM⟩ := hM
      obtain ⟨y43, hy44, hM⟩ := hM
      apply mo_popU (e := (fun y_ : (Int × Int) => (D.tup [(D.v (V.int y_.1)), (D.v (V.int y_.2))]))) (xs := s28) (y := y43) mu32 g38.1 hy44 g38.2
      intro vs39 u45 hr41 h46
      have mk47 := mo_setL mu32 (repL_erase (e := (fun y_ : (Int × Int) => (D.tup [(D.v (V.int y_.1)), (D.v (V.int y_.2))]))) (Int.toNat r33) hr41)
      replace mu20 := mo_put (o := .lst (vs39.eraseIdx (Int.toNat r33))) mu32.im (Ne.symm ne30) mu20
      replace h_some := rep_put (o := .lst (vs39.eraseIdx (Int.toNat r33))) mu32.im h_some
      replace hk19 := keep_put (o := .lst (vs39.eraseIdx (Int.toNat r33))) mu32.im hk19
      replace h46 := rep_put (o := .lst (vs39.eraseIdx (Int.toNat r33))) mu32.im h46
      replace hW := wd_put (o := .lst (vs39.eraseIdx (Int.toNat r33))) hW mu32
      replace mu32 := mk47
      generalize upd H37 L9 (.lst (vs39.eraseIdx (Int.toNat r33))) = H48 at *
      replace mu32 : MutO (L14 :: (L9 :: ms)) [ap] H_0 H48 L9 (D.lst ((s28.eraseIdx (Int.toNat r33)).map (fun y_ : (Int × Int) => (D.tup [(D.v (V.int y_.1)), (D.v (V.int y_.2))])))) := mu32
      clear mk47
      refine mo_end mu20 hn (by rw [List.length_map]; exact ln21) fun vs49 hr50 => ?_
      have mk52 := mo_setL mu20 (repL_snoc (e := (fun y_ : (Int × Int) => (D.tup [(D.v (V.int y_.1)), (D.v (V.int y_.2))]))) (xs := ys17) (y := y43) hr50 h46)
      replace mu32 := mo_put (o := .lst (vs49 ++ [u45])) mu20.im ne30 mu32
      replace h_some := rep_put (o := .lst (vs49 ++ [u45])) mu20.im h_some
      replace hk19 := keep_put (o := .lst (vs49 ++ [u45])) mu20.im hk19
      replace h46 := rep_put (o := .lst (vs49 ++ [u45])) mu20.im h46
      replace hW := wd_put (o := .lst (vs49 ++ [u45])) hW mu20
      replace mu20 := mk52
      generalize upd H48 L14 (.lst (vs49 ++ [u45])) = H53 at *
      replace mu20 : MutO (L14 :: (L9 :: ms)) [ap] H_0 H53 L14 (D.lst ((ys17 ++ [y43]).map (fun y_ : (Int × Int) => (D.tup [(D.v (V.int y_.1)), (D.v (V.int y_.2))])))) := mu20
      clear mk52
      exact hN22 y43 ((s28.eraseIdx (Int.toNat r33))) _ hM ⟨hW, hk19, mu20, by rw [List.length_append]; exact Nat.add_le_add_right ln21 1, mu32⟩
    · skip
      clear mu12
      rintro n16 ys54 s28 H55 hM ⟨hW, hk19, mu20, ln21, mu56⟩
      replace h_some := rep_keep hk19 (rep_new nl15 h_some)
      clear hk19 ln21
      have h57 := mo_rep_dr dr_here nm29 mu20
      replace hW := wd_dr dr_here mu20.hp hW
      replace h_some := rep_dr dr_here h_some
      replace mu56 := mo_dr dr_here ne30 mu56
      clear mu20
      have h58 := mo_rep_dr dr_here nm11 mu56
      replace hW := wd_dr dr_here mu56.hp hW
      replace h_some := rep_dr dr_here h_some
      replace h57 := rep_dr dr_here h57
      clear mu56
      exact hQ ys54 _ _ hM hW.out h57
def M_least (x_parts_here : (Str × Str × Str)) (KM : Int → Prop) : Prop :=
  (x_parts_here.1.length ≤ sizeLine ∧ (x_parts_here.2.2.length ≤ sizeLine ∧ (KM (if ((x_parts_here.1.length : Int) + (x_parts_here.2.2.length : Int)) > (1 : Int) then ((x_parts_here.1.length : Int) + (x_parts_here.2.2.length : Int)) else (1 : Int)))))
def sp_least (A : Ad) : Sp := fun vs H Q _ => ∃ (ms : List Addr) (v_parts_here : V) (x_parts_here : (Str × Str × Str)) (KM : Int → Prop), vs = [v_parts_here] ∧ Wd ms [] [] H H ∧ rep ms H (D.tup [(D.v (V.str x_parts_here.1)), (D.v (V.str x_parts_here.2.1)), (D.v (V.str x_parts_here.2.2))]) v_parts_here ∧ M_least x_parts_here KM ∧ ∀ (r : Int) (u : V) (H1 : Hp), KM r → Ret [] H H1 → rep ms H1 (D.v (V.int r)) u → Q u H1
set_option maxHeartbeats 16000000 in
theorem ok_least {P : Program} {w : World} {K : PySem.W.Frag} {mg : Str → Option Value} {base : Heap} {A : Ad} (T : Txt w K mg A) : FnOk P w K mg base CX0 1 A.a_least A.d_least ["_law_parts_here"] (sp_least A) := by
  refine T.F_least.ok sc_least (fun vs H Q E h => ?_) (fun cdv A_ outer s_ H_0 vs Q E hr h => ?_)
  · obtain ⟨ms, v_parts_here, x_parts_here, KM, rfl, _⟩ := h
    rfl
  · obtain ⟨ms, v_parts_here, x_parts_here, KM, rfl, hW, h_parts_here, hM, hQ⟩ := h
    unfold M_least at hM
    refine ⟨_, (pss_one (ps_ret (pe_callB (call_max2 rfl) (by rfl) T.z_max (by decide +kernel) (pa_cons pe_int (pa_cons (pe_op op_add (pe_callB call_len_str (by rfl) T.z_len PySem.boot_len (pa_cons (pe_ix (ix_tupK (K := K) rfl) (pv 0) pe_int (fun _ _ => rfl)) pa_nil)) (pe_callB call_len_str (by rfl) T.z_len PySem.boot_len (pa_cons (pe_ix (ix_tupK (K := K) rfl) (pv 0) pe_int (fun _ _ => rfl)) pa_nil))) pa_nil))))), ?_⟩
    refine ⟨_, rfl, ?_⟩
    apply rep_ixT 0 h_parts_here rfl rfl
    intro u2 h1
    obtain rfl := of_v h1
    obtain ⟨g3, hM⟩ := hM
    refine ⟨_, rfl, g3, ?_⟩
    refine ⟨_, rfl, ?_⟩
    apply rep_ixT 2 h_parts_here rfl rfl
    intro u5 h4
    obtain rfl := of_v h4
    obtain ⟨g6, hM⟩ := hM
    refine ⟨_, rfl, g6, ?_⟩
    refine ⟨_, _, rfl, rfl, ?_⟩
    refine ⟨_, _, rfl, ?_⟩
    exact hQ (if ((x_parts_here.1.length : Int) + (x_parts_here.2.2.length : Int)) > (1 : Int) then ((x_parts_here.1.length : Int) + (x_parts_here.2.2.length : Int)) else (1 : Int)) _ _ hM hW.out rep_v
def M_line (x_parts_here : (Str × Str × Str)) (x_size : Int) (KM : Str → Prop) : Prop :=
  (∃ fu1, whileC (fun (s2 : Str) (k3 k4 : Str → Prop) => (s2.length ≤ sizeLine ∧ (if (decide ((s2.length : Int) < x_size)) = true then ((s2.length + x_parts_here.2.1.length ≤ sizeLine) ∧ (k3 ((s2 ++ x_parts_here.2.1)))) else (k4 (s2))))) fu1 (("" : Str)) fun s15 => (x_parts_here.1.length ≤ sizeLine ∧ (x_parts_here.2.2.length ≤ sizeLine ∧ (s15.length ≤ sizeLine ∧ ((x_parts_here.1.length + (cutS s15 none (some ((x_size - (x_parts_here.1.length : Int)) - (x_parts_here.2.2.length : Int)))).length ≤ sizeLine) ∧ (((x_parts_here.1 ++ (cutS s15 none (some ((x_size - (x_parts_here.1.length : Int)) - (x_parts_here.2.2.length : Int))))).length + x_parts_here.2.2.length ≤ sizeLine) ∧ (KM ((x_parts_here.1 ++ (cutS s15 none (some ((x_size - (x_parts_here.1.length : Int)) - (x_parts_here.2.2.length : Int))))) ++ x_parts_here.2.2))))))))
def sp_line (A : Ad) : Sp := fun vs H Q _ => ∃ (ms : List Addr) (v_parts_here : V) (x_parts_here : (Str × Str × Str)) (x_size : Int) (KM : Str → Prop), vs = [v_parts_here, V.int x_size] ∧ Wd ms [] [] H H ∧ rep ms H (D.tup [(D.v (V.str x_parts_here.1)), (D.v (V.str x_parts_here.2.1)), (D.v (V.str x_parts_here.2.2))]) v_parts_here ∧ M_line x_parts_here x_size KM ∧ ∀ (r : Str) (u : V) (H1 : Hp), KM r → Ret [] H H1 → rep ms H1 (D.v (V.str r)) u → Q u H1
set_option maxHeartbeats 16000000 in
theorem ok_line {P : Program} {w : World} {K : PySem.W.Frag} {mg : Str → Option Value} {base : Heap} {A : Ad} (T : Txt w K mg A) : FnOk P w K mg base CX0 1 A.a_line A.d_line ["_law_parts_here", "_law_size"] (sp_line A) := by
  refine T.F_line.ok sc_line (fun vs H Q E h => ?_) (fun cdv A_ outer s_ H_0 vs Q E hr h => ?_)
  · obtain ⟨ms, v_parts_here, x_parts_here, x_size, KM, rfl, _⟩ := h
    rfl
  · obtain ⟨ms, v_parts_here, x_parts_here, x_size, KM, rfl, hW, h_parts_here, hM, hQ⟩ := h
    unfold M_line at hM
    refine ⟨_, (pss_cons (ps_set (i := 2) sc_line.nd rfl (by first | exact Or.inl rfl | exact Or.inr rfl) pe_str) (pss_cons (ps_while PassesOwn.never (pt_up (pt_cmpR op_lt (pe_callB call_len_str (by rfl) T.z_len PySem.boot_len (pa_cons (pv 2) pa_nil)) (pv 1) (nomark _))) (pss_one (ps_set (i := 2) sc_line.nd rfl (by first | exact Or.inl rfl | exact Or.inr rfl) (pe_op op_add_str (pv 2) (pe_ix (ix_tupK (K := K) rfl) (pv 0) pe_int (fun _ _ => rfl)))))) (pss_cons (ps_set (i := 3) sc_line.nd rfl (by first | exact Or.inl rfl | exact Or.inr rfl) (pe_op op_sub (pe_op op_sub (pv 1) (pe_callB call_len_str (by rfl) T.z_len PySem.boot_len (pa_cons (pe_ix (ix_tupK (K := K) rfl) (pv 0) pe_int (fun _ _ => rfl)) pa_nil))) (pe_callB call_len_str (by rfl) T.z_len PySem.boot_len (pa_cons (pe_ix (ix_tupK (K := K) rfl) (pv 0) pe_int (fun _ _ => rfl)) pa_nil)))) (pss_one (ps_ret (pe_op op_add_str (pe_op op_add_str (pe_ix (ix_tupK (K := K) rfl) (pv 0) pe_int (fun _ _ => rfl)) (pe_slice sl_str (pv 2) po_none (po_some (pv 3)))) (pe_ix (ix_tupK (K := K) rfl) (pv 0) pe_int (fun _ _ => rfl)))))))), ?_⟩
    obtain ⟨fu1, hM⟩ := hM
    refine while_G (S := Str) (fun (s : Str) σ_ h_ => σ_ = [some v_parts_here, some (V.int x_size), some (V.str s), none] ∧ Wd ms [] [] H_0 h_ ∧ Keep ms H_0 h_) (("" : Str)) hM ⟨rfl, hW, Keep.refl⟩ ?_ ?_ ?_
    · skip
      rintro s2 k3 k4 _ H10 ⟨rfl, hW, hk5⟩ hM Nx6 Ex7 hN8 hE9
      replace h_parts_here := rep_keep hk5 h_parts_here
      refine ⟨_, ?_, fun _ _ h_ => h_⟩
      refine ⟨_, rfl, ?_⟩
      obtain ⟨g11, hM⟩ := hM
      refine ⟨_, rfl, g11, ?_⟩
      refine ⟨_, rfl, ?_⟩
      refine ⟨_, _, rfl, rfl, ?_⟩
      refine ⟨_, rfl, ?_⟩
      refine ite3 hM (fun hM => ?_) (fun hM => ?_)
      · skip
        refine ⟨_, rfl, ?_⟩
        refine ⟨_, rfl, ?_⟩
        apply rep_ixT 1 h_parts_here rfl rfl
        intro u13 h12
        obtain rfl := of_v h12
        obtain ⟨g14, hM⟩ := hM
        refine ⟨_, _, rfl, rfl, g14, ?_⟩
        exact hN8 ((s2 ++ x_parts_here.2.1)) _ _ hM ⟨rfl, hW, hk5⟩
      · skip
        exact hE9 (s2) _ _ hM ⟨rfl, hW, hk5⟩
    · skip
      rintro s15 _ H17 hM ⟨rfl, hW, hk16⟩
      replace h_parts_here := rep_keep hk16 h_parts_here
      refine ⟨_, rfl, ?_⟩
      refine ⟨_, rfl, ?_⟩
      apply rep_ixT 0 h_parts_here rfl rfl
      intro u19 h18
      obtain rfl := of_v h18
      obtain ⟨g20, hM⟩ := hM
      refine ⟨_, rfl, g20, ?_⟩
      refine ⟨_, _, rfl, rfl, ?_⟩
      refine ⟨_, rfl, ?_⟩
      apply rep_ixT 2 h_parts_here rfl rfl
      intro u22 h21
      obtain rfl := of_v h21
      obtain ⟨g23, hM⟩ := hM
      refine ⟨_, rfl, g23, ?_⟩
      refine ⟨_, _, rfl, rfl, ?_⟩
      refine ⟨_, rfl, ?_⟩
      apply rep_ixT 0 h_parts_here rfl rfl
      intro u25 h24
      obtain rfl := of_v h24
      refine ⟨_, rfl, ?_⟩
      refine ⟨_, rfl, ?_⟩
      refine ⟨_, rfl, ?_⟩
      obtain ⟨g26, hM⟩ := hM
      refine ⟨_, rfl, g26, ?_⟩
      obtain ⟨g27, hM⟩ := hM
      refine ⟨_, _, rfl, rfl, g27, ?_⟩
      refine ⟨_, rfl, ?_⟩
      apply rep_ixT 2 h_parts_here rfl rfl
      intro u29 h28
      obtain rfl := of_v h28
      obtain ⟨g30, hM⟩ := hM
      refine ⟨_, _, rfl, rfl, g30, ?_⟩
      exact hQ ((x_parts_here.1 ++ (cutS s15 none (some ((x_size - (x_parts_here.1.length : Int)) - (x_parts_here.2.2.length : Int))))) ++ x_parts_here.2.2) _ _ hM hW.out rep_v
    · skip
      exact fun _ _ _ _ m_ ⟨Q_, h_, m1_⟩ => ⟨Q_, h_, fun b_ H_ q_ => m_ b_ H_ (m1_ b_ H_ q_)⟩
def M_due (x_parts_here : (Str × Str × Str)) (x_others : (Str × Str × Str)) (KM : (Option (Int × Int)) → Prop) : Prop :=
  (M_least x_parts_here fun r1 => (M_least x_others fun r6 => (forC (fun (x11 : Int) (s13 : Unit) (k14 : Unit → Prop) => (M_line x_parts_here x11 fun r23 => (M_line x_others x11 fun r28 => (if (!(decide (V.str r23 = V.str r28))) = true then ((rangeI (0 : Int) x11).length < 100000 ∧ filC (fun (x60 : Int) (k53 : Option Int → Prop) => (r23.length ≤ sizeLine ∧ ∃ c68, atI r23.cps.toList x60 = some c68 ∧ (r28.length ≤ sizeLine ∧ ∃ c70, atI r28.cps.toList x60 = some c70 ∧ (if (!(decide (V.str (Str.mk #[c68]) = V.str (Str.mk #[c70])))) = true then (k53 (some x60)) else (k53 none))))) (rangeI (0 : Int) x11) [] fun ys76 => (0 < ys76.length ∧ ∀ y80 : Int, y80 ∈ ys76 → (∀ z_ ∈ ys76, y80 ≤ z_) → (KM (some (x11, ((1 : Int) + y80)))))) else (k14 ()))))) (rangeI (if r6 > r1 then r6 else r1) ((if r6 > r1 then r6 else r1) + (29 : Int))) () fun s89 => (KM none))))
def sp_due (A : Ad) : Sp := fun vs H Q _ => ∃ (ms : List Addr) (v_parts_here : V) (v_others : V) (x_parts_here : (Str × Str × Str)) (x_others : (Str × Str × Str)) (KM : (Option (Int × Int)) → Prop), vs = [v_parts_here, v_others] ∧ Wd ms [] [] H H ∧ rep ms H (D.tup [(D.v (V.str x_parts_here.1)), (D.v (V.str x_parts_here.2.1)), (D.v (V.str x_parts_here.2.2))]) v_parts_here ∧ rep ms H (D.tup [(D.v (V.str x_others.1)), (D.v (V.str x_others.2.1)), (D.v (V.str x_others.2.2))]) v_others ∧ M_due x_parts_here x_others KM ∧ ∀ (r : (Option (Int × Int))) (u : V) (H1 : Hp), KM r → Ret [] H H1 → rep ms H1 (encO (fun y_ : (Int × Int) => (D.tup [(D.v (V.int y_.1)), (D.v (V.int y_.2))])) r) u → Q u H1
set_option maxHeartbeats 16000000 in
theorem ok_due {P : Program} {w : World} {K : PySem.W.Frag} {mg : Str → Option Value} {base : Heap} {A : Ad} (T : Txt w K mg A) : FnOk P w K mg base CX0 2 A.a_due A.d_due ["_law_parts_here", "_law_others"] (sp_due A) := by
  refine T.F_due.ok sc_due (fun vs H Q E h => ?_) (fun cdv A_ outer s_ H_0 vs Q E hr h => ?_)
  · obtain ⟨ms, v_parts_here, v_others, x_parts_here, x_others, KM, rfl, _⟩ := h
    rfl
  · obtain ⟨ms, v_parts_here, v_others, x_parts_here, x_others, KM, rfl, hW, h_parts_here, h_others, hM, hQ⟩ := h
    unfold M_due at hM
    refine ⟨_, (pss_cons (ps_set (i := 2) sc_due.nd rfl (by first | exact Or.inl rfl | exact Or.inr rfl) (pe_callB (call_max2 rfl) (by rfl) T.z_max (by decide +kernel) (pa_cons (pe_call (ok_least T) (hr.mono (by decide)) (by rfl) T.g_least T.F_least.kp T.b_least .nil pass0 (pa_cons (pv 0) pa_nil)) (pa_cons (pe_call (ok_least T) (hr.mono (by decide)) (by rfl) T.g_least T.F_least.kp T.b_least .nil pass0 (pa_cons (pv 1) pa_nil)) pa_nil)))) (pss_cons (ps_for PassesOwn.never rfl (pi_rangeW2 (by rfl) T.z_range (pa_cons (pv 2) (pa_cons (pe_op op_add (pv 2) pe_int) pa_nil))) (pg_name (i := 3) sc_due.nd rfl (by first | exact Or.inl rfl | exact Or.inr rfl)) (pss_cons (ps_asg (pe_tup (pa_cons (pe_call (ok_line T) (hr.mono (by decide)) (by rfl) T.g_line T.F_line.kp T.b_line .nil pass0 (pa_cons (pv 0) (pa_cons (pv 3) pa_nil))) (pa_cons (pe_call (ok_line T) (hr.mono (by decide)) (by rfl) T.g_line T.F_line.kp T.b_line .nil pass0 (pa_cons (pv 1) (pa_cons (pv 3) pa_nil))) pa_nil))) (pg_tup rfl (pgs_cons (pg_name (i := 4) sc_due.nd rfl (by first | exact Or.inl rfl | exact Or.inr rfl)) (pgs_cons (pg_name (i := 5) sc_due.nd rfl (by first | exact Or.inl rfl | exact Or.inr rfl)) pgs_nil)))) (pss_one (ps_if (pt_cmpR op_ne (pv 4) (pv 5) (nomark _)) (pss_one (ps_ret (pe_tup (pa_cons (pv 3) (pa_cons (pe_op op_add pe_int (pe_callB (cr_minK (K := K) rfl rfl) (by rfl) T.z_min (by decide +kernel) (pa_cons (pe_lc (own := [("_law_at", 6)]) (g := gName 6) rfl sc_due.nd (pi_rangeW1 (by rfl) T.z_range (pa_cons (pv 3) pa_nil)) (blkOk_by (N := ["_law_parts_here", "_law_others", "_law_low", "_law_size", "_law_line_here", "_law_mate", "_law_at"]) (sc := defScope s_due) (by decide +kernel)) (fun _ _ _ _ _ => pg_name (i := 6) sc_due.nd rfl (by first | exact Or.inl rfl | exact Or.inr rfl)) (fun _ _ _ _ _ => (pts_one (pt_cmpR op_ne (pe_ix ix_str (pv 4) (pv 6) (fun _ _ => rfl)) (pe_ix ix_str (pv 5) (pv 6) (fun _ _ => rfl)) (nomark _)))) (fun _ _ _ _ _ => (pv 6))) pa_nil))) pa_nil))))) pss_nil)))) (pss_one (ps_ret pe_non)))), ?_⟩
    refine ⟨_, rfl, ?_⟩
    refine ⟨ms, _, x_parts_here, _, rfl, hW.enter0, h_parts_here, hM, fun r1 u4 H5 hM e3 h2 => ?_⟩
    replace h_parts_here := rep_ext e3 h_parts_here
    replace h_others := rep_ext e3 h_others
    replace hW := hW.ret0 e3
    obtain rfl := of_v h2
    refine ⟨_, rfl, ?_⟩
    refine ⟨ms, _, x_others, _, rfl, hW.enter0, h_others, hM, fun r6 u9 H10 hM e8 h7 => ?_⟩
    replace h_parts_here := rep_ext e8 h_parts_here
    replace h_others := rep_ext e8 h_others
    replace hW := hW.ret0 e8
    obtain rfl := of_v h7
    refine ⟨_, _, rfl, ?_⟩
    refine ⟨_, rfl, ?_⟩
    refine ⟨_, rfl, ?_⟩
    refine ⟨_, _, rfl, rfl, ?_⟩
    refine ⟨_, _, rfl, ?_⟩
    refine for_rangeG (S := Unit) (lo := (if r6 > r1 then r6 else r1)) (hi := ((if r6 > r1 then r6 else r1) + (29 : Int))) (N := Int.toNat (((if r6 > r1 then r6 else r1) + (29 : Int)) - (if r6 > r1 then r6 else r1))) (fun (s : Unit) σ_ h_ => ∃ (w_0 : Option V), ∃ (w_1 : Option V), ∃ (w_2 : Option V), σ_ = [some v_parts_here, some v_others, some (V.int (if r6 > r1 then r6 else r1)), w_0, w_1, w_2, none] ∧ Wd ms [] [] H_0 h_ ∧ Keep ms H10 h_) () (by simp) hM ⟨_, _, _, rfl, hW, Keep.refl⟩ ?_ ?_
    · skip
      rintro x11 s13 k14 _ H22 ⟨w19, w20, w21, rfl, hW, hk15⟩ hM Nx17 hN18
      replace h_parts_here := rep_keep hk15 h_parts_here
      replace h_others := rep_keep hk15 h_others
      refine ⟨_, rfl, ?_⟩
      refine ⟨_, rfl, ?_⟩
      refine ⟨ms, _, x_parts_here, x11, _, rfl, hW.enter0, h_parts_here, hM, fun r23 u26 H27 hM e25 h24 => ?_⟩
      replace h_parts_here := rep_ext e25 h_parts_here
      replace h_others := rep_ext e25 h_others
      replace hk15 := keep_ext e25 hk15
      replace hW := hW.ret0 e25
      obtain rfl := of_v h24
      refine ⟨_, rfl, ?_⟩
      refine ⟨_, rfl, ?_⟩
      refine ⟨ms, _, x_others, x11, _, rfl, hW.enter0, h_others, hM, fun r28 u31 H32 hM e30 h29 => ?_⟩
      replace h_parts_here := rep_ext e30 h_parts_here
      replace h_others := rep_ext e30 h_others
      replace hk15 := keep_ext e30 hk15
      replace hW := hW.ret0 e30
      obtain rfl := of_v h29
      refine ⟨(by show 2 ≤ sizeLine; decide), ?_⟩
      intro p33 n37
      have e34 := Rx.Ext.new (H := H32) (o := (HO.tup [V.str r23, V.str r28])) n37
      have hp35 : upd H32 p33 (HO.tup [V.str r23, V.str r28]) p33 = some (HO.tup [V.str r23, V.str r28]) := upd_same
      generalize upd H32 p33 (HO.tup [V.str r23, V.str r28]) = H38 at e34 hp35 ⊢
      have h36 : rep ms H38 (D.tup [(D.v (V.str r23)), (D.v (V.str r28))]) (.ref p33) := rep_tup_mk hW n37 e34 hp35 (repL_cons rep_v (repL_cons rep_v repL_nil))
      replace h_parts_here := rep_ext e34 h_parts_here
      replace h_others := rep_ext e34 h_others
      replace hk15 := keep_ext e34 hk15
      replace hW := hW.ret0 e34
      apply rep_gtup h36 rfl
      intro vs39 hv40
      obtain ⟨u41, us42, rfl, h43, hv44⟩ := repL_uncons hv40
      obtain rfl := of_v h43
      obtain ⟨u45, us46, rfl, h47, hv48⟩ := repL_uncons hv44
      obtain rfl := of_v h47
      obtain rfl := repL_empty hv48
      refine ⟨_, _, rfl, ?_⟩
      refine ⟨_, _, rfl, ?_⟩
      refine ⟨rfl, ?_⟩
      refine ⟨_, rfl, ?_⟩
      refine ⟨_, rfl, ?_⟩
      refine ⟨rfl, ?_⟩
      refine ⟨_, rfl, ?_⟩
      refine ite3 hM (fun hM => ?_) (fun hM => ?_)
      · skip
        refine ⟨_, rfl, ?_⟩
        refine ⟨_, rfl, ?_⟩
        refine ⟨_, rfl, ?_⟩
        refine fun L49 nl50 => ?_
        have nm64 := nm_new hW nl50
        have kn65 := keep_none (w := hW) nl50 hk15
        refine lf_rangeG (L := L49) (fun n_ ys_ h_ => Wd (L49 :: ms) [] [] H_0 h_ ∧ Keep (L49 :: ms) H38 h_ ∧ MutO (L49 :: ms) [] H_0 h_ L49 (D.lst (ys_.map (fun y_ : Int => (D.v (V.int y_))))) ∧ ys_.length ≤ n_) (lo := (0 : Int)) (hi := x11) (N := Int.toNat x11) (by simp) hM ⟨wd_cell hW nl50, keep_cell nl50 Keep.refl, mo_newL (ds := []) hW nl50 repL_nil, Nat.le_refl _⟩ ?_ ?_
        · skip
          rintro x60  n51 ys52 k53 H66 hn ⟨hW, hk54, mu55, ln56⟩ hM Nx59 hN57 hNn58
          replace h_parts_here := rep_keep hk54 (rep_new nl50 h_parts_here)
          replace h_others := rep_keep hk54 (rep_new nl50 h_others)
          replace hk15 := Keep.trans (Keep.new hk15) hk54
          replace h36 := rep_keep hk54 (rep_new nl50 h36)
          refine ⟨rfl, ?_⟩
          refine ⟨_, rfl, ?_⟩
          refine ⟨_, rfl, ?_⟩
          obtain ⟨g67, hM⟩ := hM
          obtain ⟨c68, c68h, hM⟩ := hM
          refine ⟨_, _, _, rfl, rfl, g67, c68h, ?_⟩
          refine ⟨_, rfl, ?_⟩
          refine ⟨_, rfl, ?_⟩
          obtain ⟨g69, hM⟩ := hM
          obtain ⟨c70, c70h, hM⟩ := hM
          refine ⟨_, _, _, rfl, rfl, g69, c70h, ?_⟩
          refine ⟨rfl, ?_⟩
          refine ⟨_, rfl, ?_⟩
          refine ite3 hM (fun hM => ?_) (fun hM => ?_)
          · skip
            refine ⟨_, rfl, ?_⟩
            refine mo_end mu55 hn (by rw [List.length_map]; exact ln56) fun vs71 hr72 => ?_
            have mk74 := mo_setL mu55 (repL_snoc (e := (fun y_ : Int => (D.v (V.int y_)))) (xs := ys52) (y := x60) hr72 rep_v)
            replace h_parts_here := rep_put (o := .lst (vs71 ++ [V.int x60])) mu55.im h_parts_here
            replace h_others := rep_put (o := .lst (vs71 ++ [V.int x60])) mu55.im h_others
            replace hk15 := keep_put (o := .lst (vs71 ++ [V.int x60])) mu55.im hk15
            replace h36 := rep_put (o := .lst (vs71 ++ [V.int x60])) mu55.im h36
            replace hk54 := keep_put (o := .lst (vs71 ++ [V.int x60])) mu55.im hk54
            replace hW := wd_put (o := .lst (vs71 ++ [V.int x60])) hW mu55
            replace mu55 := mk74
            generalize upd H66 L49 (.lst (vs71 ++ [V.int x60])) = H75 at *
            replace mu55 : MutO (L49 :: ms) [] H_0 H75 L49 (D.lst ((ys52 ++ [x60]).map (fun y_ : Int => (D.v (V.int y_))))) := mu55
            clear mk74
            exact hN57 x60 _ hM ⟨hW, hk54, mu55, by rw [List.length_append]; exact Nat.add_le_add_right ln56 1⟩
          · skip
            exact hNn58 _ hM ⟨hW, hk54, mu55, Nat.le_succ_of_le ln56⟩
        · skip
          rintro n51 ys76 H77 hM ⟨hW, hk54, mu55, ln56⟩
          replace h_parts_here := rep_keep hk54 (rep_new nl50 h_parts_here)
          replace h_others := rep_keep hk54 (rep_new nl50 h_others)
          replace hk15 := Keep.trans (Keep.new hk15) hk54
          replace h36 := rep_keep hk54 (rep_new nl50 h36)
          clear hk54 ln56
          have h78 := mo_rep_dr dr_here nm64 mu55
          replace hW := wd_dr dr_here mu55.hp hW
          replace h_parts_here := rep_dr dr_here h_parts_here
          replace h_others := rep_dr dr_here h_others
          replace hk15 := keep_dr dr_here kn65 hk15
          replace h36 := rep_dr dr_here h36
          clear mu55
          obtain ⟨g79, hM⟩ := hM
          apply rep_minL h78 g79
          intro y80 h81 h82
          replace hM := hM y80 h81 h82
          refine ⟨_, _, rfl, rfl, ?_⟩
          refine ⟨(by show 2 ≤ sizeLine; decide), ?_⟩
          intro p83 n87
          have e84 := Rx.Ext.new (H := H77) (o := (HO.tup [V.int x11, V.int ((1 : Int) + y80)])) n87
          have hp85 : upd H77 p83 (HO.tup [V.int x11, V.int ((1 : Int) + y80)]) p83 = some (HO.tup [V.int x11, V.int ((1 : Int) + y80)]) := upd_same
          generalize upd H77 p83 (HO.tup [V.int x11, V.int ((1 : Int) + y80)]) = H88 at e84 hp85 ⊢
          have h86 : rep ms H88 (D.tup [(D.v (V.int x11)), (D.v (V.int ((1 : Int) + y80)))]) (.ref p83) := rep_tup_mk hW n87 e84 hp85 (repL_cons rep_v (repL_cons rep_v repL_nil))
          replace h_parts_here := rep_ext e84 h_parts_here
          replace h_others := rep_ext e84 h_others
          replace hk15 := keep_ext e84 hk15
          replace h36 := rep_ext e84 h36
          replace h78 := rep_ext e84 h78
          replace hW := hW.ret0 e84
          exact hQ (some (x11, ((1 : Int) + y80))) _ _ hM hW.out h86
      · skip
        exact hN18 () _ _ hM ⟨_, _, _, rfl, hW, hk15⟩
    · skip
      rintro s89 _ H94 hM ⟨w91, w92, w93, rfl, hW, hk90⟩
      replace h_parts_here := rep_keep hk90 h_parts_here
      replace h_others := rep_keep hk90 h_others
      exact hQ none _ _ hM hW.out rep_v
def M_Word_eq (x_self : (Str × Str × Str)) (x_other : (Str × Str × Str)) (KM : Bool → Prop) : Prop :=
  (if (decide (V.str x_self.1 = V.str x_other.1)) = true then (if (decide (V.str x_self.2.1 = V.str x_other.2.1)) = true then (KM (decide (V.str x_self.2.2 = V.str x_other.2.2))) else (KM false)) else (KM false))
def sp_Word_eq (A : Ad) : Sp := fun vs H Q _ => ∃ (ms : List Addr) (v_self : V) (v_other : V) (x_self : (Str × Str × Str)) (x_other : (Str × Str × Str)) (KM : Bool → Prop), vs = [v_self, v_other] ∧ Wd ms [] [] H H ∧ rep ms H (eWord A x_self) v_self ∧ rep ms H (eWord A x_other) v_other ∧ M_Word_eq x_self x_other KM ∧ ∀ (r : Bool) (u : V) (H1 : Hp), KM r → Ret [] H H1 → rep ms H1 (D.v (V.bl r)) u → Q u H1
set_option maxHeartbeats 16000000 in
theorem ok_Word_eq {P : Program} {w : World} {K : PySem.W.Frag} {mg : Str → Option Value} {base : Heap} {A : Ad} (T : Txt w K mg A) : FnOk P w K mg base CX0 1 A.a_Word_eq A.d_Word_eq ["self", "other"] (sp_Word_eq A) := by
  refine T.F_Word_eq.ok sc_Word_eq (fun vs H Q E h => ?_) (fun cdv A_ outer s_ H_0 vs Q E hr h => ?_)
  · obtain ⟨ms, v_self, v_other, x_self, x_other, KM, rfl, _⟩ := h
    rfl
  · obtain ⟨ms, v_self, v_other, x_self, x_other, KM, rfl, hW, h_self, h_other, hM, hQ⟩ := h
    unfold M_Word_eq at hM
    refine ⟨_, (pss_one (ps_ret (pe_and (pe_callB (call_isiK (K := K) rfl) (by rfl) T.z_isinstance (by decide +kernel) (pa_cons (pv 1) (pa_cons (pe_glob (v := .ref A.c_Word) (by rfl) T.g_Word rfl) pa_nil))) (pe_and (pe_cmpR op_eq (pe_fld (pv 0) rfl) (pe_fld (pv 1) rfl) (nomark _)) (pe_and (pe_cmpR op_eq (pe_fld (pv 0) rfl) (pe_fld (pv 1) rfl) (nomark _)) (pe_one (pe_cmpR op_eq (pe_fld (pv 0) rfl) (pe_fld (pv 1) rfl) (nomark _)))))))), ?_⟩
    refine ⟨_, rfl, ?_⟩
    apply rep_isi h_other T.ic_Word
    refine ⟨_, rfl, ?_⟩
    refine iteT ?_
    refine ⟨_, rfl, ?_⟩
    apply rep_fld (j := 0) h_self T.cl_Word T.na_Word__head nd_Word rfl rfl
    intro u2 h1
    obtain rfl := of_v h1
    refine ⟨_, rfl, ?_⟩
    apply rep_fld (j := 0) h_other T.cl_Word T.na_Word__head nd_Word rfl rfl
    intro u4 h3
    obtain rfl := of_v h3
    refine ⟨rfl, ?_⟩
    refine ⟨_, rfl, ?_⟩
    refine ite3 hM (fun hM => ?_) (fun hM => ?_)
    · skip
      refine ⟨_, rfl, ?_⟩
      apply rep_fld (j := 1) h_self T.cl_Word T.na_Word__middle nd_Word rfl rfl
      intro u6 h5
      obtain rfl := of_v h5
      refine ⟨_, rfl, ?_⟩
      apply rep_fld (j := 1) h_other T.cl_Word T.na_Word__middle nd_Word rfl rfl
      intro u8 h7
      obtain rfl := of_v h7
      refine ⟨rfl, ?_⟩
      refine ⟨_, rfl, ?_⟩
      refine ite3 hM (fun hM => ?_) (fun hM => ?_)
      · skip
        refine ⟨_, rfl, ?_⟩
        apply rep_fld (j := 2) h_self T.cl_Word T.na_Word__tail nd_Word rfl rfl
        intro u10 h9
        obtain rfl := of_v h9
        refine ⟨_, rfl, ?_⟩
        apply rep_fld (j := 2) h_other T.cl_Word T.na_Word__tail nd_Word rfl rfl
        intro u12 h11
        obtain rfl := of_v h11
        refine ⟨rfl, ?_⟩
        exact hQ (decide (V.str x_self.2.2 = V.str x_other.2.2)) _ _ hM hW.out rep_v
      · skip
        exact hQ false _ _ hM hW.out rep_v
    · skip
      exact hQ false _ _ hM hW.out rep_v
def M_same_rows (x_one : (Str × Str × Str)) (x_other : (Str × Str × Str)) (KM : Bool → Prop) : Prop :=
  (M_Word_reduced x_one fun r1 => (M_Word_reduced x_other fun r6 => (M_Word_eq r1 r6 fun r11 => (KM r11))))
def sp_same_rows (A : Ad) : Sp := fun vs H Q _ => ∃ (ms : List Addr) (v_one : V) (v_other : V) (x_one : (Str × Str × Str)) (x_other : (Str × Str × Str)) (KM : Bool → Prop), vs = [v_one, v_other] ∧ Wd ms [] [] H H ∧ rep ms H (eWord A x_one) v_one ∧ rep ms H (eWord A x_other) v_other ∧ M_same_rows x_one x_other KM ∧ ∀ (r : Bool) (u : V) (H1 : Hp), KM r → Ret [] H H1 → rep ms H1 (D.v (V.bl r)) u → Q u H1
set_option maxHeartbeats 16000000 in
theorem ok_same_rows {P : Program} {w : World} {K : PySem.W.Frag} {mg : Str → Option Value} {base : Heap} {A : Ad} (T : Txt w K mg A) : FnOk P w K mg base CX0 6 A.a_same_rows A.d_same_rows ["one", "other"] (sp_same_rows A) := by
  refine T.F_same_rows.ok sc_same_rows (fun vs H Q E h => ?_) (fun cdv A_ outer s_ H_0 vs Q E hr h => ?_)
  · obtain ⟨ms, v_one, v_other, x_one, x_other, KM, rfl, _⟩ := h
    rfl
  · obtain ⟨ms, v_one, v_other, x_one, x_other, KM, rfl, hW, h_one, h_other, hM, hQ⟩ := h
    unfold M_same_rows at hM
    refine ⟨_, (pss_one (ps_ret (pe_cmpR (op_eqOwn (ok_Word_eq T) (hr.mono (by decide)) T.oe_Word T.b_Word_eq pass0) (pe_meth0 (pv 0) T.cl_Word T.m_Word_reduced (ok_Word_reduced T) (hr.mono (by decide)) T.b_Word_reduced .nil pass0) (pe_meth0 (pv 1) T.cl_Word T.m_Word_reduced (ok_Word_reduced T) (hr.mono (by decide)) T.b_Word_reduced .nil pass0) (nomark _)))), ?_⟩
    refine ⟨_, rfl, ?_⟩
    apply rep_meth (m := "reduced") h_one (by decide +kernel)
    refine ⟨ms, _, x_one, _, rfl, hW.enter0, h_one, hM, fun r1 u4 H5 hM e3 h2 => ?_⟩
    replace h_one := rep_ext e3 h_one
    replace h_other := rep_ext e3 h_other
    replace hW := hW.ret0 e3
    refine ⟨_, rfl, ?_⟩
    apply rep_meth (m := "reduced") h_other (by decide +kernel)
    refine ⟨ms, _, x_other, _, rfl, hW.enter0, h_other, hM, fun r6 u9 H10 hM e8 h7 => ?_⟩
    replace h_one := rep_ext e8 h_one
    replace h_other := rep_ext e8 h_other
    replace h2 := rep_ext e8 h2
    replace hW := hW.ret0 e8
    apply rep_eqOwn h2 h7
    refine ⟨ms, _, _, r1, r6, _, rfl, hW.enter0, h2, h7, hM, fun r11 u14 H15 hM e13 h12 => ?_⟩
    replace h_one := rep_ext e13 h_one
    replace h_other := rep_ext e13 h_other
    replace h2 := rep_ext e13 h2
    replace h7 := rep_ext e13 h7
    replace hW := hW.ret0 e13
    obtain rfl := of_v h12
    refine ⟨_, rfl, ?_⟩
    exact hQ r11 _ _ hM hW.out rep_v
def M_Word_least (x_self : (Str × Str × Str)) (KM : Int → Prop) : Prop :=
  (x_self.1.length ≤ sizeLine ∧ (x_self.2.2.length ≤ sizeLine ∧ (KM (if ((x_self.1.length : Int) + (x_self.2.2.length : Int)) > (1 : Int) then ((x_self.1.length : Int) + (x_self.2.2.length : Int)) else (1 : Int)))))
def sp_Word_least (A : Ad) : Sp := fun vs H Q _ => ∃ (ms : List Addr) (v_self : V) (x_self : (Str × Str × Str)) (KM : Int → Prop), vs = [v_self] ∧ Wd ms [] [] H H ∧ rep ms H (eWord A x_self) v_self ∧ M_Word_least x_self KM ∧ ∀ (r : Int) (u : V) (H1 : Hp), KM r → Ret [] H H1 → rep ms H1 (D.v (V.int r)) u → Q u H1
set_option maxHeartbeats 16000000 in
theorem ok_Word_least {P : Program} {w : World} {K : PySem.W.Frag} {mg : Str → Option Value} {base : Heap} {A : Ad} (T : Txt w K mg A) : FnOk P w K mg base CX0 1 A.a_Word_least A.d_Word_least ["self"] (sp_Word_least A) := by
  refine T.F_Word_least.ok sc_Word_least (fun vs H Q E h => ?_) (fun cdv A_ outer s_ H_0 vs Q E hr h => ?_)
  · obtain ⟨ms, v_self, x_self, KM, rfl, _⟩ := h
    rfl
  · obtain ⟨ms, v_self, x_self, KM, rfl, hW, h_self, hM, hQ⟩ := h
    unfold M_Word_least at hM
    refine ⟨_, (pss_one (ps_ret (pe_callB (call_max2 rfl) (by rfl) T.z_max (by decide +kernel) (pa_cons pe_int (pa_cons (pe_op op_add (pe_callB call_len_str (by rfl) T.z_len PySem.boot_len (pa_cons (pe_fld (pv 0) rfl) pa_nil)) (pe_callB call_len_str (by rfl) T.z_len PySem.boot_len (pa_cons (pe_fld (pv 0) rfl) pa_nil))) pa_nil))))), ?_⟩
    refine ⟨_, rfl, ?_⟩
    apply rep_fld (j := 0) h_self T.cl_Word T.na_Word__head nd_Word rfl rfl
    intro u2 h1
    obtain rfl := of_v h1
    obtain ⟨g3, hM⟩ := hM
    refine ⟨_, rfl, g3, ?_⟩
    refine ⟨_, rfl, ?_⟩
    apply rep_fld (j := 2) h_self T.cl_Word T.na_Word__tail nd_Word rfl rfl
    intro u5 h4
    obtain rfl := of_v h4
    obtain ⟨g6, hM⟩ := hM
    refine ⟨_, rfl, g6, ?_⟩
    refine ⟨_, _, rfl, rfl, ?_⟩
    refine ⟨_, _, rfl, ?_⟩
    exact hQ (if ((x_self.1.length : Int) + (x_self.2.2.length : Int)) > (1 : Int) then ((x_self.1.length : Int) + (x_self.2.2.length : Int)) else (1 : Int)) _ _ hM hW.out rep_v
def M_is_integer (x_value : Int) (KM : Bool → Prop) : Prop :=
  (KM (!false))
def sp_is_integer (A : Ad) : Sp := fun vs H Q _ => ∃ (ms : List Addr) (x_value : Int) (KM : Bool → Prop), vs = [V.int x_value] ∧ Wd ms [] [] H H ∧ M_is_integer x_value KM ∧ ∀ (r : Bool) (u : V) (H1 : Hp), KM r → Ret [] H H1 → rep ms H1 (D.v (V.bl r)) u → Q u H1
set_option maxHeartbeats 16000000 in
theorem ok_is_integer {P : Program} {w : World} {K : PySem.W.Frag} {mg : Str → Option Value} {base : Heap} {A : Ad} (T : Txt w K mg A) : FnOk P w K mg base CX0 1 A.a_is_integer A.d_is_integer ["value"] (sp_is_integer A) := by
  refine T.F_is_integer.ok sc_is_integer (fun vs H Q E h => ?_) (fun cdv A_ outer s_ H_0 vs Q E hr h => ?_)
  · obtain ⟨ms, x_value, KM, rfl, _⟩ := h
    rfl
  · obtain ⟨ms, x_value, KM, rfl, hW, hM, hQ⟩ := h
    unfold M_is_integer at hM
    refine ⟨_, (pss_one (ps_ret (pe_and (pe_callB (call_isiK (K := K) rfl) (by rfl) T.z_isinstance (by decide +kernel) (pa_cons (pv 0) (pa_cons (pe_bltn (v := .ty "int") (by rfl) T.z_int (by decide +kernel) rfl) pa_nil))) (pe_one (pe_not (pe_callB (call_isiK (K := K) rfl) (by rfl) T.z_isinstance (by decide +kernel) (pa_cons (pv 0) (pa_cons (pe_bltn (v := .ty "bool") (by rfl) T.z_bool (by decide +kernel) rfl) pa_nil)))))))), ?_⟩
    refine ⟨_, rfl, ?_⟩
    refine ⟨_, _, _, _, true, rfl, .ty _, .base (.int _), kit_ty (by decide +kernel), ?_⟩
    refine ⟨_, rfl, ?_⟩
    refine iteT ?_
    refine ⟨_, rfl, ?_⟩
    refine ⟨_, _, _, _, false, rfl, .ty _, .base (.int _), kit_ty (by decide +kernel), ?_⟩
    refine ⟨_, rfl, ?_⟩
    exact hQ (!false) _ _ hM hW.out rep_v
def M_check_places (x_word : (Str × Str × Str)) (x_places : Int) (KM : Unit → Prop) : Prop :=
  (M_is_integer x_places fun r1 => (if (!r1) = true then False else (M_Word_least x_word fun r7 => (if (decide (x_places < r7)) = true then False else (KM ())))))
def sp_check_places (A : Ad) : Sp := fun vs H Q _ => ∃ (ms : List Addr) (v_word : V) (x_word : (Str × Str × Str)) (x_places : Int) (KM : Unit → Prop), vs = [v_word, V.int x_places] ∧ Wd ms [] [] H H ∧ rep ms H (eWord A x_word) v_word ∧ M_check_places x_word x_places KM ∧ ∀ (r : Unit) (u : V) (H1 : Hp), KM r → Ret [] H H1 → rep ms H1 (D.v V.non) u → Q u H1
set_option maxHeartbeats 16000000 in
theorem ok_check_places {P : Program} {w : World} {K : PySem.W.Frag} {mg : Str → Option Value} {base : Heap} {A : Ad} (T : Txt w K mg A) : FnOk P w K mg base CX0 3 A.a_check_places A.d_check_places ["word", "places"] (sp_check_places A) := by
  refine T.F_check_places.ok sc_check_places (fun vs H Q E h => ?_) (fun cdv A_ outer s_ H_0 vs Q E hr h => ?_)
  · obtain ⟨ms, v_word, x_word, x_places, KM, rfl, _⟩ := h
    rfl
  · obtain ⟨ms, v_word, x_word, x_places, KM, rfl, hW, h_word, hM, hQ⟩ := h
    unfold M_check_places at hM
    refine ⟨_, (pss_one (ps_if (PW.pt (pw_or (pt_not (pt_val (pe_call (ok_is_integer T) (hr.mono (by decide)) (by rfl) T.g_is_integer T.F_is_integer.kp T.b_is_integer .nil pass0 (pa_cons (pv 1) pa_nil)))) (pw_or1 (pt_cmpR op_lt (pv 1) (pe_prop (pv 0) T.cl_Word T.p_Word_least (ok_Word_least T) (hr.mono (by decide)) T.b_Word_least .nil pass0 rfl) (nomark _))))) (pss_one ps_never) pss_nil)), ?_⟩
    refine ⟨_, rfl, ?_⟩
    refine ⟨ms, x_places, _, rfl, hW.enter0, hM, fun r1 u4 H5 hM e3 h2 => ?_⟩
    replace h_word := rep_ext e3 h_word
    replace hW := hW.ret0 e3
    obtain rfl := of_v h2
    refine ⟨_, rfl, ?_⟩
    refine ite3 hM (fun hM => ?_) (fun hM => ?_)
    · skip
      refine iteT ?_
      exact hM
    · skip
      refine ⟨_, rfl, ?_⟩
      refine ⟨_, rfl, ?_⟩
      apply rep_prop h_word
      intro _ h6
      refine ⟨ms, _, x_word, _, rfl, hW.enter0, h6, hM, fun r7 u10 H11 hM e9 h8 => ?_⟩
      replace h_word := rep_ext e9 h_word
      replace hW := hW.ret0 e9
      obtain rfl := of_v h8
      refine ⟨_, _, rfl, rfl, ?_⟩
      refine ⟨_, rfl, ?_⟩
      refine ite3 hM (fun hM => ?_) (fun hM => ?_)
      · skip
        exact hM
      · skip
        exact hQ () _ _ hM hW.out rep_v
def M_Word_row (x_self : (Str × Str × Str)) (x_places : Int) (KM : Str → Prop) : Prop :=
  (M_check_places x_self x_places fun r1 => (if (decide ((2000 : Int) < x_places)) = true then False else (x_self.1.length ≤ sizeLine ∧ (x_self.2.2.length ≤ sizeLine ∧ (MulOk x_self.2.1 ((x_places - (x_self.1.length : Int)) - (x_self.2.2.length : Int)) ∧ ((Txt.mul x_self.2.1 ((x_places - (x_self.1.length : Int)) - (x_self.2.2.length : Int))).length ≤ sizeLine ∧ ((x_self.1.length + (cutS (Txt.mul x_self.2.1 ((x_places - (x_self.1.length : Int)) - (x_self.2.2.length : Int))) none (some ((x_places - (x_self.1.length : Int)) - (x_self.2.2.length : Int)))).length ≤ sizeLine) ∧ (((x_self.1 ++ (cutS (Txt.mul x_self.2.1 ((x_places - (x_self.1.length : Int)) - (x_self.2.2.length : Int))) none (some ((x_places - (x_self.1.length : Int)) - (x_self.2.2.length : Int))))).length + x_self.2.2.length ≤ sizeLine) ∧ (KM ((x_self.1 ++ (cutS (Txt.mul x_self.2.1 ((x_places - (x_self.1.length : Int)) - (x_self.2.2.length : Int))) none (some ((x_places - (x_self.1.length : Int)) - (x_self.2.2.length : Int))))) ++ x_self.2.2))))))))))
def sp_Word_row (A : Ad) : Sp := fun vs H Q _ => ∃ (ms : List Addr) (v_self : V) (x_self : (Str × Str × Str)) (x_places : Int) (KM : Str → Prop), vs = [v_self, V.int x_places] ∧ Wd ms [] [] H H ∧ rep ms H (eWord A x_self) v_self ∧ M_Word_row x_self x_places KM ∧ ∀ (r : Str) (u : V) (H1 : Hp), KM r → Ret [] H H1 → rep ms H1 (D.v (V.str r)) u → Q u H1
set_option maxHeartbeats 16000000 in
theorem ok_Word_row {P : Program} {w : World} {K : PySem.W.Frag} {mg : Str → Option Value} {base : Heap} {A : Ad} (T : Txt w K mg A) : FnOk P w K mg base CX0 4 A.a_Word_row A.d_Word_row ["self", "places"] (sp_Word_row A) := by
  refine T.F_Word_row.ok sc_Word_row (fun vs H Q E h => ?_) (fun cdv A_ outer s_ H_0 vs Q E hr h => ?_)
  · obtain ⟨ms, v_self, x_self, x_places, KM, rfl, _⟩ := h
    rfl
  · obtain ⟨ms, v_self, x_self, x_places, KM, rfl, hW, h_self, hM, hQ⟩ := h
    unfold M_Word_row at hM
    refine ⟨_, (pss_cons (ps_expr (pe_call (ok_check_places T) (hr.mono (by decide)) (by rfl) T.g_check_places T.F_check_places.kp T.b_check_places .nil pass0 (pa_cons (pv 0) (pa_cons (pv 1) pa_nil)))) (pss_cons (ps_if (pt_cmpR op_gt (pv 1) (C8.pe_gc (by rfl) T.c_MOST_PLACES) (nomark _)) (pss_one ps_never) pss_nil) (pss_cons (ps_set (i := 2) sc_Word_row.nd rfl (by first | exact Or.inl rfl | exact Or.inr rfl) (pe_op op_sub (pe_op op_sub (pv 1) (pe_callB call_len_str (by rfl) T.z_len PySem.boot_len (pa_cons (pe_fld (pv 0) rfl) pa_nil))) (pe_callB call_len_str (by rfl) T.z_len PySem.boot_len (pa_cons (pe_fld (pv 0) rfl) pa_nil)))) (pss_one (ps_ret (pe_op op_add_str (pe_op op_add_str (pe_fld (pv 0) rfl) (pe_slice sl_str (pe_op op_mulS (pe_fld (pv 0) rfl) (pv 2)) po_none (po_some (pv 2)))) (pe_fld (pv 0) rfl))))))), ?_⟩
    refine ⟨_, rfl, ?_⟩
    refine ⟨_, rfl, ?_⟩
    refine ⟨ms, _, x_self, x_places, _, rfl, hW.enter0, h_self, hM, fun r1 u4 H5 hM e3 h2 => ?_⟩
    replace h_self := rep_ext e3 h_self
    replace hW := hW.ret0 e3
    obtain rfl := of_v h2
    refine ⟨_, rfl, ?_⟩
    refine ⟨_, _, rfl, rfl, ?_⟩
    refine ⟨_, rfl, ?_⟩
    refine ite3 hM (fun hM => ?_) (fun hM => ?_)
    · skip
      exact hM
    · skip
      refine ⟨_, rfl, ?_⟩
      refine ⟨_, rfl, ?_⟩
      apply rep_fld (j := 0) h_self T.cl_Word T.na_Word__head nd_Word rfl rfl
      intro u7 h6
      obtain rfl := of_v h6
      obtain ⟨g8, hM⟩ := hM
      refine ⟨_, rfl, g8, ?_⟩
      refine ⟨_, _, rfl, rfl, ?_⟩
      refine ⟨_, rfl, ?_⟩
      apply rep_fld (j := 2) h_self T.cl_Word T.na_Word__tail nd_Word rfl rfl
      intro u10 h9
      obtain rfl := of_v h9
      obtain ⟨g11, hM⟩ := hM
      refine ⟨_, rfl, g11, ?_⟩
      refine ⟨_, _, rfl, rfl, ?_⟩
      refine ⟨_, rfl, ?_⟩
      apply rep_fld (j := 0) h_self T.cl_Word T.na_Word__head nd_Word rfl rfl
      intro u13 h12
      obtain rfl := of_v h12
      refine ⟨_, rfl, ?_⟩
      apply rep_fld (j := 1) h_self T.cl_Word T.na_Word__middle nd_Word rfl rfl
      intro u15 h14
      obtain rfl := of_v h14
      refine ⟨_, rfl, ?_⟩
      obtain ⟨g16, hM⟩ := hM
      refine ⟨_, _, rfl, rfl, g16, ?_⟩
      refine ⟨_, rfl, ?_⟩
      refine ⟨_, rfl, ?_⟩
      obtain ⟨g17, hM⟩ := hM
      refine ⟨_, rfl, g17, ?_⟩
      obtain ⟨g18, hM⟩ := hM
      refine ⟨_, _, rfl, rfl, g18, ?_⟩
      refine ⟨_, rfl, ?_⟩
      apply rep_fld (j := 2) h_self T.cl_Word T.na_Word__tail nd_Word rfl rfl
      intro u20 h19
      obtain rfl := of_v h19
      obtain ⟨g21, hM⟩ := hM
      refine ⟨_, _, rfl, rfl, g21, ?_⟩
      exact hQ ((x_self.1 ++ (cutS (Txt.mul x_self.2.1 ((x_places - (x_self.1.length : Int)) - (x_self.2.2.length : Int))) none (some ((x_places - (x_self.1.length : Int)) - (x_self.2.2.length : Int))))) ++ x_self.2.2) _ _ hM hW.out rep_v
def M_first_difference (x_row : Str) (x_other : Str) (KM : Int → Prop) : Prop :=
  (∃ fu1, whileC (fun (s2 : Int) (k3 k4 : Int → Prop) => (x_row.length ≤ sizeLine ∧ ∃ c12, atI x_row.cps.toList (s2 - (1 : Int)) = some c12 ∧ (x_other.length ≤ sizeLine ∧ ∃ c14, atI x_other.cps.toList (s2 - (1 : Int)) = some c14 ∧ (if (decide (V.str (Str.mk #[c12]) = V.str (Str.mk #[c14]))) = true then (k3 ((s2 + (1 : Int)))) else (k4 (s2)))))) fu1 ((1 : Int)) fun s15 => (KM s15))
def sp_first_difference (A : Ad) : Sp := fun vs H Q _ => ∃ (ms : List Addr) (x_row : Str) (x_other : Str) (KM : Int → Prop), vs = [V.str x_row, V.str x_other] ∧ Wd ms [] [] H H ∧ M_first_difference x_row x_other KM ∧ ∀ (r : Int) (u : V) (H1 : Hp), KM r → Ret [] H H1 → rep ms H1 (D.v (V.int r)) u → Q u H1
set_option maxHeartbeats 16000000 in
theorem ok_first_difference {P : Program} {w : World} {K : PySem.W.Frag} {mg : Str → Option Value} {base : Heap} {A : Ad} (T : Txt w K mg A) : FnOk P w K mg base CX0 1 A.a_first_difference A.d_first_difference ["row", "other"] (sp_first_difference A) := by
  refine T.F_first_difference.ok sc_first_difference (fun vs H Q E h => ?_) (fun cdv A_ outer s_ H_0 vs Q E hr h => ?_)
  · obtain ⟨ms, x_row, x_other, KM, rfl, _⟩ := h
    rfl
  · obtain ⟨ms, x_row, x_other, KM, rfl, hW, hM, hQ⟩ := h
    unfold M_first_difference at hM
    refine ⟨_, (pss_cons (ps_set (i := 2) sc_first_difference.nd rfl (by first | exact Or.inl rfl | exact Or.inr rfl) pe_int) (pss_cons (ps_while PassesOwn.never (pt_up (pt_cmpR op_eq (pe_ix ix_str (pv 0) (pe_op op_sub (pv 2) pe_int) (fun _ _ => rfl)) (pe_ix ix_str (pv 1) (pe_op op_sub (pv 2) pe_int) (fun _ _ => rfl)) (nomark _))) (pss_one (ps_set (i := 2) sc_first_difference.nd rfl (by first | exact Or.inl rfl | exact Or.inr rfl) (pe_op op_add (pv 2) pe_int)))) (pss_one (ps_ret (pv 2))))), ?_⟩
    obtain ⟨fu1, hM⟩ := hM
    refine while_G (S := Int) (fun (s : Int) σ_ h_ => σ_ = [some (V.str x_row), some (V.str x_other), some (V.int s)] ∧ Wd ms [] [] H_0 h_ ∧ Keep ms H_0 h_) ((1 : Int)) hM ⟨rfl, hW, Keep.refl⟩ ?_ ?_ ?_
    · skip
      rintro s2 k3 k4 _ H10 ⟨rfl, hW, hk5⟩ hM Nx6 Ex7 hN8 hE9
      refine ⟨_, ?_, fun _ _ h_ => h_⟩
      refine ⟨_, rfl, ?_⟩
      refine ⟨_, rfl, ?_⟩
      refine ⟨_, _, rfl, rfl, ?_⟩
      obtain ⟨g11, hM⟩ := hM
      obtain ⟨c12, c12h, hM⟩ := hM
      refine ⟨_, _, _, rfl, rfl, g11, c12h, ?_⟩
      refine ⟨_, rfl, ?_⟩
      refine ⟨_, rfl, ?_⟩
      refine ⟨_, _, rfl, rfl, ?_⟩
      obtain ⟨g13, hM⟩ := hM
      obtain ⟨c14, c14h, hM⟩ := hM
      refine ⟨_, _, _, rfl, rfl, g13, c14h, ?_⟩
      refine ⟨rfl, ?_⟩
      refine ⟨_, rfl, ?_⟩
      refine ite3 hM (fun hM => ?_) (fun hM => ?_)
      · skip
        refine ⟨_, rfl, ?_⟩
        refine ⟨_, _, rfl, rfl, ?_⟩
        exact hN8 ((s2 + (1 : Int))) _ _ hM ⟨rfl, hW, hk5⟩
      · skip
        exact hE9 (s2) _ _ hM ⟨rfl, hW, hk5⟩
    · skip
      rintro s15 _ H17 hM ⟨rfl, hW, hk16⟩
      refine ⟨_, rfl, ?_⟩
      exact hQ s15 _ _ hM hW.out rep_v
    · skip
      exact fun _ _ _ _ m_ ⟨Q_, h_, m1_⟩ => ⟨Q_, h_, fun b_ H_ q_ => m_ b_ H_ (m1_ b_ H_ q_)⟩
def M_first_unlike_place (x_one : (Str × Str × Str)) (x_other : (Str × Str × Str)) (KM : (Option (Int × Int)) → Prop) : Prop :=
  (M_same_rows x_one x_other fun r1 => (if r1 = true then (KM none) else (M_Word_least x_one fun r7 => (M_Word_least x_other fun r13 => (∃ fu18, whileC (fun (s19 : Int) (k20 k21 : Int → Prop) => (M_Word_row x_one s19 fun r28 => (M_Word_row x_other s19 fun r33 => (if (decide (V.str r28 = V.str r33)) = true then (k20 ((s19 + (1 : Int)))) else (k21 (s19)))))) fu18 ((if r13 > r7 then r13 else r7)) fun s38 => (M_Word_row x_one s38 fun r41 => (M_Word_row x_other s38 fun r46 => (M_first_difference r41 r46 fun r51 => (KM (some (s38, r51)))))))))))
def sp_first_unlike_place (A : Ad) : Sp := fun vs H Q _ => ∃ (ms : List Addr) (v_one : V) (v_other : V) (x_one : (Str × Str × Str)) (x_other : (Str × Str × Str)) (KM : (Option (Int × Int)) → Prop), vs = [v_one, v_other] ∧ Wd ms [] [] H H ∧ rep ms H (eWord A x_one) v_one ∧ rep ms H (eWord A x_other) v_other ∧ M_first_unlike_place x_one x_other KM ∧ ∀ (r : (Option (Int × Int))) (u : V) (H1 : Hp), KM r → Ret [] H H1 → rep ms H1 (encO (fun y_ : (Int × Int) => (D.tup [(D.v (V.int y_.1)), (D.v (V.int y_.2))])) r) u → Q u H1
set_option maxHeartbeats 16000000 in
theorem ok_first_unlike_place {P : Program} {w : World} {K : PySem.W.Frag} {mg : Str → Option Value} {base : Heap} {A : Ad} (T : Txt w K mg A) : FnOk P w K mg base CX0 7 A.a_first_unlike_place A.d_first_unlike_place ["one", "other"] (sp_first_unlike_place A) := by
  refine T.F_first_unlike_place.ok sc_first_unlike_place (fun vs H Q E h => ?_) (fun cdv A_ outer s_ H_0 vs Q E hr h => ?_)
  · obtain ⟨ms, v_one, v_other, x_one, x_other, KM, rfl, _⟩ := h
    rfl
  · obtain ⟨ms, v_one, v_other, x_one, x_other, KM, rfl, hW, h_one, h_other, hM, hQ⟩ := h
    unfold M_first_unlike_place at hM
    refine ⟨_, (pss_cons (ps_if (pt_val (pe_call (ok_same_rows T) (hr.mono (by decide)) (by rfl) T.g_same_rows T.F_same_rows.kp T.b_same_rows .nil pass0 (pa_cons (pv 0) (pa_cons (pv 1) pa_nil)))) (pss_one (ps_ret pe_non)) pss_nil) (pss_cons (ps_set (i := 2) sc_first_unlike_place.nd rfl (by first | exact Or.inl rfl | exact Or.inr rfl) (pe_callB (call_max2 rfl) (by rfl) T.z_max (by decide +kernel) (pa_cons (pe_prop (pv 0) T.cl_Word T.p_Word_least (ok_Word_least T) (hr.mono (by decide)) T.b_Word_least .nil pass0 rfl) (pa_cons (pe_prop (pv 1) T.cl_Word T.p_Word_least (ok_Word_least T) (hr.mono (by decide)) T.b_Word_least .nil pass0 rfl) pa_nil)))) (pss_cons (ps_while PassesOwn.never (pt_up (pt_cmpR op_eq (pe_meth (pv 0) T.cl_Word T.m_Word_row (ok_Word_row T) (hr.mono (by decide)) T.b_Word_row .nil pass0 (pa_cons (pv 2) pa_nil)) (pe_meth (pv 1) T.cl_Word T.m_Word_row (ok_Word_row T) (hr.mono (by decide)) T.b_Word_row .nil pass0 (pa_cons (pv 2) pa_nil)) (nomark _))) (pss_one (ps_set (i := 2) sc_first_unlike_place.nd rfl (by first | exact Or.inl rfl | exact Or.inr rfl) (pe_op op_add (pv 2) pe_int)))) (pss_one (ps_ret (pe_tup (pa_cons (pv 2) (pa_cons (pe_call (ok_first_difference T) (hr.mono (by decide)) (by rfl) T.g_first_difference T.F_first_difference.kp T.b_first_difference .nil pass0 (pa_cons (pe_meth (pv 0) T.cl_Word T.m_Word_row (ok_Word_row T) (hr.mono (by decide)) T.b_Word_row .nil pass0 (pa_cons (pv 2) pa_nil)) (pa_cons (pe_meth (pv 1) T.cl_Word T.m_Word_row (ok_Word_row T) (hr.mono (by decide)) T.b_Word_row .nil pass0 (pa_cons (pv 2) pa_nil)) pa_nil))) pa_nil)))))))), ?_⟩
    refine ⟨_, rfl, ?_⟩
    refine ⟨_, rfl, ?_⟩
    refine ⟨ms, _, _, x_one, x_other, _, rfl, hW.enter0, h_one, h_other, hM, fun r1 u4 H5 hM e3 h2 => ?_⟩
    replace h_one := rep_ext e3 h_one
    replace h_other := rep_ext e3 h_other
    replace hW := hW.ret0 e3
    obtain rfl := of_v h2
    refine ⟨_, rfl, ?_⟩
    refine ite3 hM (fun hM => ?_) (fun hM => ?_)
    · skip
      exact hQ none _ _ hM hW.out rep_v
    · skip
      refine ⟨_, rfl, ?_⟩
      apply rep_prop h_one
      intro _ h6
      refine ⟨ms, _, x_one, _, rfl, hW.enter0, h6, hM, fun r7 u10 H11 hM e9 h8 => ?_⟩
      replace h_one := rep_ext e9 h_one
      replace h_other := rep_ext e9 h_other
      replace hW := hW.ret0 e9
      obtain rfl := of_v h8
      refine ⟨_, rfl, ?_⟩
      apply rep_prop h_other
      intro _ h12
      refine ⟨ms, _, x_other, _, rfl, hW.enter0, h12, hM, fun r13 u16 H17 hM e15 h14 => ?_⟩
      replace h_one := rep_ext e15 h_one
      replace h_other := rep_ext e15 h_other
      replace hW := hW.ret0 e15
      obtain rfl := of_v h14
      refine ⟨_, _, rfl, ?_⟩
      obtain ⟨fu18, hM⟩ := hM
      refine while_G (S := Int) (fun (s : Int) σ_ h_ => σ_ = [some v_one, some v_other, some (V.int s)] ∧ Wd ms [] [] H_0 h_ ∧ Keep ms H17 h_) ((if r13 > r7 then r13 else r7)) hM ⟨rfl, hW, Keep.refl⟩ ?_ ?_ ?_
      · skip
        rintro s19 k20 k21 _ H27 ⟨rfl, hW, hk22⟩ hM Nx23 Ex24 hN25 hE26
        replace h_one := rep_keep hk22 h_one
        replace h_other := rep_keep hk22 h_other
        refine ⟨_, ?_, fun _ _ h_ => h_⟩
        refine ⟨_, rfl, ?_⟩
        apply rep_meth (m := "row") h_one (by decide +kernel)
        refine ⟨_, rfl, ?_⟩
        refine ⟨ms, _, x_one, s19, _, rfl, hW.enter0, h_one, hM, fun r28 u31 H32 hM e30 h29 => ?_⟩
        replace h_one := rep_ext e30 h_one
        replace h_other := rep_ext e30 h_other
        replace hk22 := keep_ext e30 hk22
        replace hW := hW.ret0 e30
        obtain rfl := of_v h29
        refine ⟨_, rfl, ?_⟩
        apply rep_meth (m := "row") h_other (by decide +kernel)
        refine ⟨_, rfl, ?_⟩
        refine ⟨ms, _, x_other, s19, _, rfl, hW.enter0, h_other, hM, fun r33 u36 H37 hM e35 h34 => ?_⟩
        replace h_one := rep_ext e35 h_one
        replace h_other := rep_ext e35 h_other
        replace hk22 := keep_ext e35 hk22
        replace hW := hW.ret0 e35
        obtain rfl := of_v h34
        refine ⟨rfl, ?_⟩
        refine ⟨_, rfl, ?_⟩
        refine ite3 hM (fun hM => ?_) (fun hM => ?_)
        · skip
          refine ⟨_, rfl, ?_⟩
          refine ⟨_, _, rfl, rfl, ?_⟩
          exact hN25 ((s19 + (1 : Int))) _ _ hM ⟨rfl, hW, hk22⟩
        · skip
          exact hE26 (s19) _ _ hM ⟨rfl, hW, hk22⟩
      · skip
        rintro s38 _ H40 hM ⟨rfl, hW, hk39⟩
        replace h_one := rep_keep hk39 h_one
        replace h_other := rep_keep hk39 h_other
        refine ⟨_, rfl, ?_⟩
        refine ⟨_, rfl, ?_⟩
        apply rep_meth (m := "row") h_one (by decide +kernel)
        refine ⟨_, rfl, ?_⟩
        refine ⟨ms, _, x_one, s38, _, rfl, hW.enter0, h_one, hM, fun r41 u44 H45 hM e43 h42 => ?_⟩
        replace h_one := rep_ext e43 h_one
        replace h_other := rep_ext e43 h_other
        replace hW := hW.ret0 e43
        obtain rfl := of_v h42
        refine ⟨_, rfl, ?_⟩
        apply rep_meth (m := "row") h_other (by decide +kernel)
        refine ⟨_, rfl, ?_⟩
        refine ⟨ms, _, x_other, s38, _, rfl, hW.enter0, h_other, hM, fun r46 u49 H50 hM e48 h47 => ?_⟩
        replace h_one := rep_ext e48 h_one
        replace h_other := rep_ext e48 h_other
        replace hW := hW.ret0 e48
        obtain rfl := of_v h47
        refine ⟨ms, r41, r46, _, rfl, hW.enter0, hM, fun r51 u54 H55 hM e53 h52 => ?_⟩
        replace h_one := rep_ext e53 h_one
        replace h_other := rep_ext e53 h_other
        replace hW := hW.ret0 e53
        obtain rfl := of_v h52
        refine ⟨(by show 2 ≤ sizeLine; decide), ?_⟩
        intro p56 n60
        have e57 := Rx.Ext.new (H := H55) (o := (HO.tup [V.int s38, V.int r51])) n60
        have hp58 : upd H55 p56 (HO.tup [V.int s38, V.int r51]) p56 = some (HO.tup [V.int s38, V.int r51]) := upd_same
        generalize upd H55 p56 (HO.tup [V.int s38, V.int r51]) = H61 at e57 hp58 ⊢
        have h59 : rep ms H61 (D.tup [(D.v (V.int s38)), (D.v (V.int r51))]) (.ref p56) := rep_tup_mk hW n60 e57 hp58 (repL_cons rep_v (repL_cons rep_v repL_nil))
        replace h_one := rep_ext e57 h_one
        replace h_other := rep_ext e57 h_other
        replace hW := hW.ret0 e57
        exact hQ (some (s38, r51)) _ _ hM hW.out h59
      · skip
        exact fun _ _ _ _ m_ ⟨Q_, h_, m1_⟩ => ⟨Q_, h_, fun b_ H_ q_ => m_ b_ H_ (m1_ b_ H_ q_)⟩
def M_pairs_right (x_made : (List (Str × Str × Str))) (x_some : (List (Str × Str × Str))) (x_pairs : (List (Int × Int))) (KM : Bool → Prop) : Prop :=
  (forC (fun (x6 : (Int × Int)) (s8 : Unit) (k9 : Unit → Prop) => (0 ≤ x6.1 ∧ ∃ g30 : Int.toNat x6.1 < x_some.length, ∀ x32, x32 = x_some[Int.toNat x6.1]'g30 → (0 ≤ x6.2 ∧ ∃ g35 : Int.toNat x6.2 < x_some.length, ∀ x37, x37 = x_some[Int.toNat x6.2]'g35 → (M_due x32 x37 fun r39 => (0 ≤ x6.1 ∧ ∃ g45 : Int.toNat x6.1 < x_made.length, ∀ x47, x47 = x_made[Int.toNat x6.1]'g45 → (0 ≤ x6.2 ∧ ∃ g50 : Int.toNat x6.2 < x_made.length, ∀ x52, x52 = x_made[Int.toNat x6.2]'g50 → (M_first_unlike_place x47 x52 fun r54 => (0 ≤ x6.1 ∧ ∃ g60 : Int.toNat x6.1 < x_made.length, ∀ x62, x62 = x_made[Int.toNat x6.1]'g60 → (0 ≤ x6.2 ∧ ∃ g65 : Int.toNat x6.2 < x_made.length, ∀ x67, x67 = x_made[Int.toNat x6.2]'g65 → (M_same_rows x62 x67 fun r69 => ((plainD (D.lst (([(encO (fun y_ : (Int × Int) => (D.tup [(D.v (V.int y_.1)), (D.v (V.int y_.2))])) r54), (D.v (V.bl r69))] : List D).map (fun y_ : D => y_))) = true ∧ (pyOf (D.lst (([(encO (fun y_ : (Int × Int) => (D.tup [(D.v (V.int y_.1)), (D.v (V.int y_.2))])) r54), (D.v (V.bl r69))] : List D).map (fun y_ : D => y_)))).showable = true ∧ (pyOf (D.lst (([(encO (fun y_ : (Int × Int) => (D.tup [(D.v (V.int y_.1)), (D.v (V.int y_.2))])) r54), (D.v (V.bl r69))] : List D).map (fun y_ : D => y_)))).hasDict = false ∧ (pyOf (D.lst (([(encO (fun y_ : (Int × Int) => (D.tup [(D.v (V.int y_.1)), (D.v (V.int y_.2))])) r54), (D.v (V.bl r69))] : List D).map (fun y_ : D => y_)))).depth ≤ 60 ∧ (pyOf (D.lst (([(encO (fun y_ : (Int × Int) => (D.tup [(D.v (V.int y_.1)), (D.v (V.int y_.2))])) r54), (D.v (V.bl r69))] : List D).map (fun y_ : D => y_)))).shown.length ≤ sizeLine) ∧ ((plainD (D.lst (([(encO (fun y_ : (Int × Int) => (D.tup [(D.v (V.int y_.1)), (D.v (V.int y_.2))])) r39), (D.v (V.bl (Option.isNone r39)))] : List D).map (fun y_ : D => y_))) = true ∧ (pyOf (D.lst (([(encO (fun y_ : (Int × Int) => (D.tup [(D.v (V.int y_.1)), (D.v (V.int y_.2))])) r39), (D.v (V.bl (Option.isNone r39)))] : List D).map (fun y_ : D => y_)))).showable = true ∧ (pyOf (D.lst (([(encO (fun y_ : (Int × Int) => (D.tup [(D.v (V.int y_.1)), (D.v (V.int y_.2))])) r39), (D.v (V.bl (Option.isNone r39)))] : List D).map (fun y_ : D => y_)))).hasDict = false ∧ (pyOf (D.lst (([(encO (fun y_ : (Int × Int) => (D.tup [(D.v (V.int y_.1)), (D.v (V.int y_.2))])) r39), (D.v (V.bl (Option.isNone r39)))] : List D).map (fun y_ : D => y_)))).depth ≤ 60 ∧ (pyOf (D.lst (([(encO (fun y_ : (Int × Int) => (D.tup [(D.v (V.int y_.1)), (D.v (V.int y_.2))])) r39), (D.v (V.bl (Option.isNone r39)))] : List D).map (fun y_ : D => y_)))).shown.length ≤ sizeLine) ∧ (if (!(decide (V.str (pyOf (D.lst (([(encO (fun y_ : (Int × Int) => (D.tup [(D.v (V.int y_.1)), (D.v (V.int y_.2))])) r54), (D.v (V.bl r69))] : List D).map (fun y_ : D => y_)))).shown = V.str (pyOf (D.lst (([(encO (fun y_ : (Int × Int) => (D.tup [(D.v (V.int y_.1)), (D.v (V.int y_.2))])) r39), (D.v (V.bl (Option.isNone r39)))] : List D).map (fun y_ : D => y_)))).shown))) = true then (KM false) else (k9 ())))))))))))))) x_pairs () fun s88 => (KM true))
def sp_pairs_right (A : Ad) : Sp := fun vs H Q _ => ∃ (ms : List Addr) (v_made : V) (v_some : V) (v_pairs : V) (x_made : (List (Str × Str × Str))) (x_some : (List (Str × Str × Str))) (x_pairs : (List (Int × Int))) (KM : Bool → Prop), vs = [v_made, v_some, v_pairs] ∧ Wd ms [] [] H H ∧ rep ms H (D.lst (x_made.map (fun y_ : (Str × Str × Str) => (eWord A y_)))) v_made ∧ rep ms H (D.lst (x_some.map (fun y_ : (Str × Str × Str) => (D.tup [(D.v (V.str y_.1)), (D.v (V.str y_.2.1)), (D.v (V.str y_.2.2))])))) v_some ∧ rep ms H (D.lst (x_pairs.map (fun y_ : (Int × Int) => (D.tup [(D.v (V.int y_.1)), (D.v (V.int y_.2))])))) v_pairs ∧ M_pairs_right x_made x_some x_pairs KM ∧ ∀ (r : Bool) (u : V) (H1 : Hp), KM r → Ret [] H H1 → rep ms H1 (D.v (V.bl r)) u → Q u H1
set_option maxHeartbeats 16000000 in
theorem ok_pairs_right {P : Program} {w : World} {K : PySem.W.Frag} {mg : Str → Option Value} {base : Heap} {A : Ad} (T : Txt w K mg A) : FnG P w K mg base 8 A.a_pairs_right A.d_pairs_right ["_law_made", "_law_some", "_law_pairs"] (sp_pairs_right A) := by
  refine okG T.F_pairs_right sc_pairs_right (fun vs H Q E h => ?_) (fun cdv A_ outer s_ H_0 vs Q E gu hr h => ?_)
  · obtain ⟨ms, v_made, v_some, v_pairs, x_made, x_some, x_pairs, KM, rfl, _⟩ := h
    rfl
  · obtain ⟨ms, v_made, v_some, v_pairs, x_made, x_some, x_pairs, KM, rfl, hW, h_made, h_some, h_pairs, hM, hQ⟩ := h
    unfold M_pairs_right at hM
    refine ⟨_, (pss_cons (ps_for PassesOwn.never rfl (pi_list (pv 2)) (pg_tup rfl (pgs_cons (pg_name (i := 3) sc_pairs_right.nd rfl (by first | exact Or.inl rfl | exact Or.inr rfl)) (pgs_cons (pg_name (i := 4) sc_pairs_right.nd rfl (by first | exact Or.inl rfl | exact Or.inr rfl)) pgs_nil))) (pss_cons (ps_set (i := 5) sc_pairs_right.nd rfl (by first | exact Or.inl rfl | exact Or.inr rfl) (pe_call (ok_due T) (hr.mono (by decide)) (by rfl) T.g_due T.F_due.kp T.b_due .nil pass0 (pa_cons (pe_ix (ix_listK (K := K) rfl) (pv 1) (pv 3) (fun _ _ => rfl)) (pa_cons (pe_ix (ix_listK (K := K) rfl) (pv 1) (pv 4) (fun _ _ => rfl)) pa_nil)))) (pss_cons (ps_set (i := 6) sc_pairs_right.nd rfl (by first | exact Or.inl rfl | exact Or.inr rfl) (pe_lst (pa_cons (pe_call (ok_first_unlike_place T) (hr.mono (by decide)) (by rfl) T.g_first_unlike_place T.F_first_unlike_place.kp T.b_first_unlike_place .nil pass0 (pa_cons (pe_ix (ix_listK (K := K) rfl) (pv 0) (pv 3) (fun _ _ => rfl)) (pa_cons (pe_ix (ix_listK (K := K) rfl) (pv 0) (pv 4) (fun _ _ => rfl)) pa_nil))) (pa_cons (pe_call (ok_same_rows T) (hr.mono (by decide)) (by rfl) T.g_same_rows T.F_same_rows.kp T.b_same_rows .nil pass0 (pa_cons (pe_ix (ix_listK (K := K) rfl) (pv 0) (pv 3) (fun _ _ => rfl)) (pa_cons (pe_ix (ix_listK (K := K) rfl) (pv 0) (pv 4) (fun _ _ => rfl)) pa_nil))) pa_nil)))) (pss_one (ps_if (pt_cmpR op_ne (pe_callB (call_reprAK (K := K) rfl gu hr) (by rfl) T.z_repr (by decide +kernel) (pa_cons (pv 6) pa_nil)) (pe_callB (call_reprAK (K := K) rfl gu hr) (by rfl) T.z_repr (by decide +kernel) (pa_cons (pe_lst (pa_cons (pv 5) (pa_cons (pe_cmpR op_isN (pv 5) pe_non (nomark _)) pa_nil))) pa_nil)) (nomark _)) (pss_one (ps_ret pe_bl)) pss_nil))))) (pss_one (ps_ret pe_bl))), ?_⟩
    refine ⟨_, rfl, ?_⟩
    apply rep_iter h_pairs
    intro a1 xs2 _ an3 hp4 hl5
    refine for_listG (S := Unit) (items := x_pairs) (e := (fun y_ : (Int × Int) => (D.tup [(D.v (V.int y_.1)), (D.v (V.int y_.2))]))) (ms := ms) (fun (s : Unit) σ_ h_ => ∃ (w_0 : Option V), ∃ (w_1 : Option V), ∃ (w_2 : Option V), ∃ (w_3 : Option V), σ_ = [some v_made, some v_some, some v_pairs, w_0, w_1, w_2, w_3] ∧ Wd ms [] [] H_0 h_ ∧ Keep ms H_0 h_) () an3 hp4 hl5 (fun _ _ _ z_ => by obtain ⟨_, _, _, _, _, _, q_⟩ := z_; exact q_) hM ⟨_, _, _, _, rfl, hW, Keep.refl⟩ ?_ ?_
    · skip
      rintro x6 u7 s8 k9 _ H18 ⟨w14, w15, w16, w17, rfl, hW, hk10⟩ h11 hM Nx12 hN13
      replace h_made := rep_keep hk10 h_made
      replace h_some := rep_keep hk10 h_some
      replace h_pairs := rep_keep hk10 h_pairs
      apply rep_gtup h11 rfl
      intro vs19 hv20
      obtain ⟨u21, us22, rfl, h23, hv24⟩ := repL_uncons hv20
      obtain rfl := of_v h23
      obtain ⟨u25, us26, rfl, h27, hv28⟩ := repL_uncons hv24
      obtain rfl := of_v h27
      obtain rfl := repL_empty hv28
      refine ⟨_, _, rfl, ?_⟩
      refine ⟨_, _, rfl, ?_⟩
      refine ⟨rfl, ?_⟩
      refine ⟨_, rfl, ?_⟩
      refine ⟨_, rfl, ?_⟩
      obtain ⟨g29, g30, hM⟩ := hM
      apply rep_ixL (e := (fun y_ : (Str × Str × Str) => (D.tup [(D.v (V.str y_.1)), (D.v (V.str y_.2.1)), (D.v (V.str y_.2.2))]))) (xs := x_some) h_some g29 g30
      intro u33 h31
      obtain ⟨x32, x32e⟩ : ∃ x_, x_ = x_some[Int.toNat x6.1]'g30 := ⟨_, rfl⟩
      rw [← x32e] at h31
      replace hM := hM x32 x32e
      refine ⟨_, rfl, ?_⟩
      refine ⟨_, rfl, ?_⟩
      obtain ⟨g34, g35, hM⟩ := hM
      apply rep_ixL (e := (fun y_ : (Str × Str × Str) => (D.tup [(D.v (V.str y_.1)), (D.v (V.str y_.2.1)), (D.v (V.str y_.2.2))]))) (xs := x_some) h_some g34 g35
      intro u38 h36
      obtain ⟨x37, x37e⟩ : ∃ x_, x_ = x_some[Int.toNat x6.2]'g35 := ⟨_, rfl⟩
      rw [← x37e] at h36
      replace hM := hM x37 x37e
      refine ⟨ms, _, _, x32, x37, _, rfl, hW.enter0, h31, h36, hM, fun r39 u42 H43 hM e41 h40 => ?_⟩
      replace h_made := rep_ext e41 h_made
      replace h_some := rep_ext e41 h_some
      replace h_pairs := rep_ext e41 h_pairs
      replace hk10 := keep_ext e41 hk10
      replace h11 := rep_ext e41 h11
      replace h31 := rep_ext e41 h31
      replace h36 := rep_ext e41 h36
      replace hW := hW.ret0 e41
      refine ⟨_, rfl, ?_⟩
      refine ⟨_, rfl, ?_⟩
      obtain ⟨g44, g45, hM⟩ := hM
      apply rep_ixL (e := (fun y_ : (Str × Str × Str) => (eWord A y_))) (xs := x_made) h_made g44 g45
      intro u48 h46
      obtain ⟨x47, x47e⟩ : ∃ x_, x_ = x_made[Int.toNat x6.1]'g45 := ⟨_, rfl⟩
      rw [← x47e] at h46
      replace hM := hM x47 x47e
      refine ⟨_, rfl, ?_⟩
      refine ⟨_, rfl, ?_⟩
      obtain ⟨g49, g50, hM⟩ := hM
      apply rep_ixL (e := (fun y_ : (Str × Str × Str) => (eWord A y_))) (xs := x_made) h_made g49 g50
      intro u53 h51
      obtain ⟨x52, x52e⟩ : ∃ x_, x_ = x_made[Int.toNat x6.2]'g50 := ⟨_, rfl⟩
      rw [← x52e] at h51
      replace hM := hM x52 x52e
      refine ⟨ms, _, _, x47, x52, _, rfl, hW.enter0, h46, h51, hM, fun r54 u57 H58 hM e56 h55 => ?_⟩
      replace h_made := rep_ext e56 h_made
      replace h_some := rep_ext e56 h_some
      replace h_pairs := rep_ext e56 h_pairs
      replace hk10 := keep_ext e56 hk10
      replace h11 := rep_ext e56 h11
      replace h31 := rep_ext e56 h31
      replace h36 := rep_ext e56 h36
      replace h40 := rep_ext e56 h40
      replace h46 := rep_ext e56 h46
      replace h51 := rep_ext e56 h51
      replace hW := hW.ret0 e56
      refine ⟨_, rfl, ?_⟩
      refine ⟨_, rfl, ?_⟩
      obtain ⟨g59, g60, hM⟩ := hM
      apply rep_ixL (e := (fun y_ : (Str × Str × Str) => (eWord A y_))) (xs := x_made) h_made g59 g60
      intro u63 h61
      obtain ⟨x62, x62e⟩ : ∃ x_, x_ = x_made[Int.toNat x6.1]'g60 := ⟨_, rfl⟩
      rw [← x62e] at h61
      replace hM := hM x62 x62e
      refine ⟨_, rfl, ?_⟩
      refine ⟨_, rfl, ?_⟩
      obtain ⟨g64, g65, hM⟩ := hM
      apply rep_ixL (e := (fun y_ : (Str × Str × Str) => (eWord A y_))) (xs := x_made) h_made g64 g65
      intro u68 h66
      obtain ⟨x67, x67e⟩ : ∃ x_, x_ = x_made[Int.toNat x6.2]'g65 := ⟨_, rfl⟩
      rw [← x67e] at h66
      replace hM := hM x67 x67e
      refine ⟨ms, _, _, x62, x67, _, rfl, hW.enter0, h61, h66, hM, fun r69 u72 H73 hM e71 h70 => ?_⟩
      replace h_made := rep_ext e71 h_made
      replace h_some := rep_ext e71 h_some
      replace h_pairs := rep_ext e71 h_pairs
      replace hk10 := keep_ext e71 hk10
      replace h11 := rep_ext e71 h11
      replace h31 := rep_ext e71 h31
      replace h36 := rep_ext e71 h36
      replace h40 := rep_ext e71 h40
      replace h46 := rep_ext e71 h46
      replace h51 := rep_ext e71 h51
      replace h55 := rep_ext e71 h55
      replace h61 := rep_ext e71 h61
      replace h66 := rep_ext e71 h66
      replace hW := hW.ret0 e71
      obtain rfl := of_v h70
      refine ⟨(by show 2 ≤ sizeLine; decide), ?_⟩
      intro p74 n78
      have e75 := Rx.Ext.new (H := H73) (o := (HO.lst [u57, V.bl r69])) n78
      have hp76 : upd H73 p74 (HO.lst [u57, V.bl r69]) p74 = some (HO.lst [u57, V.bl r69]) := upd_same
      generalize upd H73 p74 (HO.lst [u57, V.bl r69]) = H79 at e75 hp76 ⊢
      have h77 : rep ms H79 (D.lst (([(encO (fun y_ : (Int × Int) => (D.tup [(D.v (V.int y_.1)), (D.v (V.int y_.2))])) r54), (D.v (V.bl r69))] : List D).map (fun y_ : D => y_))) (.ref p74) := rep_lst_mk hW n78 e75 hp76 (repL_cons h55 (repL_cons rep_v repL_nil))
      replace h_made := rep_ext e75 h_made
      replace h_some := rep_ext e75 h_some
      replace h_pairs := rep_ext e75 h_pairs
      replace hk10 := keep_ext e75 hk10
      replace h11 := rep_ext e75 h11
      replace h31 := rep_ext e75 h31
      replace h36 := rep_ext e75 h36
      replace h40 := rep_ext e75 h40
      replace h46 := rep_ext e75 h46
      replace h51 := rep_ext e75 h51
      replace h55 := rep_ext e75 h55
      replace h61 := rep_ext e75 h61
      replace h66 := rep_ext e75 h66
      replace hW := hW.ret0 e75
      refine ⟨_, rfl, ?_⟩
      obtain ⟨g80, hM⟩ := hM
      apply rep_repr (d := (D.lst (([(encO (fun y_ : (Int × Int) => (D.tup [(D.v (V.int y_.1)), (D.v (V.int y_.2))])) r54), (D.v (V.bl r69))] : List D).map (fun y_ : D => y_)))) h77 g80.1 g80.2.1 g80.2.2.1 g80.2.2.2.1 g80.2.2.2.2
      refine ⟨_, rfl, ?_⟩
      refine ⟨_, rfl, ?_⟩
      refine ⟨rfl, ?_⟩
      rw [rep_isN (fun _ => ⟨_, rfl⟩) h40]
      refine ⟨(by show 2 ≤ sizeLine; decide), ?_⟩
      intro p81 n85
      have e82 := Rx.Ext.new (H := H79) (o := (HO.lst [u42, V.bl (Option.isNone r39)])) n85
      have hp83 : upd H79 p81 (HO.lst [u42, V.bl (Option.isNone r39)]) p81 = some (HO.lst [u42, V.bl (Option.isNone r39)]) := upd_same
      generalize upd H79 p81 (HO.lst [u42, V.bl (Option.isNone r39)]) = H86 at e82 hp83 ⊢
      have h84 : rep ms H86 (D.lst (([(encO (fun y_ : (Int × Int) => (D.tup [(D.v (V.int y_.1)), (D.v (V.int y_.2))])) r39), (D.v (V.bl (Option.isNone r39)))] : List D).map (fun y_ : D => y_))) (.ref p81) := rep_lst_mk hW n85 e82 hp83 (repL_cons h40 (repL_cons rep_v repL_nil))
      replace h_made := rep_ext e82 h_made
      replace h_some := rep_ext e82 h_some
      replace h_pairs := rep_ext e82 h_pairs
      replace hk10 := keep_ext e82 hk10
      replace h11 := rep_ext e82 h11
      replace h31 := rep_ext e82 h31
      replace h36 := rep_ext e82 h36
      replace h40 := rep_ext e82 h40
      replace h46 := rep_ext e82 h46
      replace h51 := rep_ext e82 h51
      replace h55 := rep_ext e82 h55
      replace h61 := rep_ext e82 h61
      replace h66 := rep_ext e82 h66
      replace h77 := rep_ext e82 h77
      replace hW := hW.ret0 e82
      obtain ⟨g87, hM⟩ := hM
      apply rep_repr (d := (D.lst (([(encO (fun y_ : (Int × Int) => (D.tup [(D.v (V.int y_.1)), (D.v (V.int y_.2))])) r39), (D.v (V.bl (Option.isNone r39)))] : List D).map (fun y_ : D => y_)))) h84 g87.1 g87.2.1 g87.2.2.1 g87.2.2.2.1 g87.2.2.2.2
      refine ⟨rfl, ?_⟩
      refine ⟨_, rfl, ?_⟩
      refine ite3 hM (fun hM => ?_) (fun hM => ?_)
      · skip
        exact hQ false _ _ hM hW.out rep_v
      · skip
        exact hN13 () _ _ hM ⟨_, _, _, _, rfl, hW, hk10⟩
    · skip
      rintro s88 _ H94 hM ⟨w90, w91, w92, w93, rfl, hW, hk89⟩
      replace h_made := rep_keep hk89 h_made
      replace h_some := rep_keep hk89 h_some
      replace h_pairs := rep_keep hk89 h_pairs
      exact hQ true _ _ hM hW.out rep_v
def M_right (KM : Bool → Prop) : Prop :=
  (M_late  fun r1 => (0 ≤ (0 : Int) ∧ ∃ g7 : Int.toNat (0 : Int) < r1.length, ∀ x9, x9 = r1[Int.toNat (0 : Int)]'g7 → (M_alike x9 fun r11 => (0 ≤ (1 : Int) ∧ ∃ g17 : Int.toNat (1 : Int) < r1.length, ∀ x19, x19 = r1[Int.toNat (1 : Int)]'g17 → (M_alike x19 fun r21 => (M_alike r21 fun r26 => (r1.length + ([r11, r26] : List (Str × Str × Str)).length ≤ sizeLine ∧ (M_pick_pltsss (r1 ++ ([r11, r26] : List (Str × Str × Str))) fun r47 => (M_bent r47 fun r52 => ((r1 ++ ([r11, r26] : List (Str × Str × Str))).length < 16777216 ∧ (M_pick_pls ([("h" : Str), ("a" : Str)] : List Str) fun r70 => (M_pick_pli ([(4 : Int), (4 : Int), (3 : Int), (0 : Int)] : List Int) fun r81 => (M_draw (4 : Int) fun r86 => (M_pick_pli ([(4 : Int), (4 : Int), (2 : Int), (0 : Int)] : List Int) fun r97 => (0 ≤ (0 : Int) ∧ ∃ g109 : Int.toNat (0 : Int) < ([r81, ((1 : Int) + r86), r97] : List Int).length, ∀ x111, x111 = ([r81, ((1 : Int) + r86), r97] : List Int)[Int.toNat (0 : Int)]'g109 → (MulOk r70 x111 ∧ (0 ≤ (1 : Int) ∧ ∃ g115 : Int.toNat (1 : Int) < ([r81, ((1 : Int) + r86), r97] : List Int).length, ∀ x117, x117 = ([r81, ((1 : Int) + r86), r97] : List Int)[Int.toNat (1 : Int)]'g115 → (MulOk r70 x117 ∧ (0 ≤ (2 : Int) ∧ ∃ g121 : Int.toNat (2 : Int) < ([r81, ((1 : Int) + r86), r97] : List Int).length, ∀ x123, x123 = ([r81, ((1 : Int) + r86), r97] : List Int)[Int.toNat (2 : Int)]'g121 → (MulOk r70 x123 ∧ (((r1 ++ ([r11, r26] : List (Str × Str × Str))) ++ [r52]).length < 16777216 ∧ ((((r1 ++ ([r11, r26] : List (Str × Str × Str))) ++ [r52]) ++ [((Txt.mul r70 x111), (Txt.mul r70 x117), (Txt.mul r70 x123))]).length < 100000 ∧ mapC (fun (x156 : (Str × Str × Str)) (k149 : (Str × Str × Str) → Prop) => (M_Word_init x156.1 x156.2.1 x156.2.2 ∧ (k149 (x156.1, x156.2.1, x156.2.2)))) (((r1 ++ ([r11, r26] : List (Str × Str × Str))) ++ [r52]) ++ [((Txt.mul r70 x111), (Txt.mul r70 x117), (Txt.mul r70 x123))]) [] fun ys177 => (ys177.length < 100000 ∧ mapC (fun (x196 : (Str × Str × Str)) (k189 : Str → Prop) => (M_Word_reduced x196 fun r202 => (M_Word_repr r202 fun r207 => (k189 r207)))) ys177 [] fun ys217 => (∃ y220, atI ys217 (-(1 : Int)) = some y220 ∧ ((plainD (D.tup [(D.v (V.str (("" : Str), r70, ("" : Str)).1)), (D.v (V.str (("" : Str), r70, ("" : Str)).2.1)), (D.v (V.str (("" : Str), r70, ("" : Str)).2.2))]) = true ∧ (pyOf (D.tup [(D.v (V.str (("" : Str), r70, ("" : Str)).1)), (D.v (V.str (("" : Str), r70, ("" : Str)).2.1)), (D.v (V.str (("" : Str), r70, ("" : Str)).2.2))])).showable = true ∧ (pyOf (D.tup [(D.v (V.str (("" : Str), r70, ("" : Str)).1)), (D.v (V.str (("" : Str), r70, ("" : Str)).2.1)), (D.v (V.str (("" : Str), r70, ("" : Str)).2.2))])).hasDict = false ∧ (pyOf (D.tup [(D.v (V.str (("" : Str), r70, ("" : Str)).1)), (D.v (V.str (("" : Str), r70, ("" : Str)).2.1)), (D.v (V.str (("" : Str), r70, ("" : Str)).2.2))])).depth ≤ 60 ∧ (pyOf (D.tup [(D.v (V.str (("" : Str), r70, ("" : Str)).1)), (D.v (V.str (("" : Str), r70, ("" : Str)).2.1)), (D.v (V.str (("" : Str), r70, ("" : Str)).2.2))])).shown.length ≤ sizeLine) ∧ ((("Word" : Str).length + (pyOf (D.tup [(D.v (V.str (("" : Str), r70, ("" : Str)).1)), (D.v (V.str (("" : Str), r70, ("" : Str)).2.1)), (D.v (V.str (("" : Str), r70, ("" : Str)).2.2))])).shown.length ≤ sizeLine) ∧ (if (!(decide (V.str y220 = V.str (("Word" : Str) ++ (pyOf (D.tup [(D.v (V.str (("" : Str), r70, ("" : Str)).1)), (D.v (V.str (("" : Str), r70, ("" : Str)).2.1)), (D.v (V.str (("" : Str), r70, ("" : Str)).2.2))])).shown)))) = true then (KM false) else (0 ≤ (0 : Int) ∧ ∃ g233 : Int.toNat (0 : Int) < ys217.length, ∀ x235, x235 = ys217[Int.toNat (0 : Int)]'g233 → (0 ≤ (2 : Int) ∧ ∃ g238 : Int.toNat (2 : Int) < ys217.length, ∀ x240, x240 = ys217[Int.toNat (2 : Int)]'g238 → (if (!(decide (V.str x235 = V.str x240))) = true then (KM false) else (0 ≤ (1 : Int) ∧ ∃ g243 : Int.toNat (1 : Int) < ys217.length, ∀ x245, x245 = ys217[Int.toNat (1 : Int)]'g243 → (0 ≤ (3 : Int) ∧ ∃ g248 : Int.toNat (3 : Int) < ys217.length, ∀ x250, x250 = ys217[Int.toNat (3 : Int)]'g248 → (if (!(decide (V.str x245 = V.str x250))) = true then (KM false) else (forC (fun (x257 : Int) (s259 : (List (Int × Int))) (k260 : ((List (Int × Int))) → Prop) => ((rangeI (0 : Int) ((((r1 ++ ([r11, r26] : List (Str × Str × Str))) ++ [r52]) ++ [((Txt.mul r70 x111), (Txt.mul r70 x117), (Txt.mul r70 x123))]).length : Int)).length < 100000 ∧ mapC (fun (x279 : Int) (k272 : (Int × Int) → Prop) => (k272 (x257, x279))) (rangeI (0 : Int) ((((r1 ++ ([r11, r26] : List (Str × Str × Str))) ++ [r52]) ++ [((Txt.mul r70 x111), (Txt.mul r70 x117), (Txt.mul r70 x123))]).length : Int)) [] fun ys299 => (s259.length + ys299.length ≤ 16777216 ∧ (k260 ((s259 ++ ys299)))))) (rangeI (0 : Int) ((((r1 ++ ([r11, r26] : List (Str × Str × Str))) ++ [r52]) ++ [((Txt.mul r70 x111), (Txt.mul r70 x117), (Txt.mul r70 x123))]).length : Int)) (([] : List (Int × Int))) fun s310 => (M_mixed s310 fun r316 => (M_pairs_right ys177 (((r1 ++ ([r11, r26] : List (Str × Str × Str))) ++ [r52]) ++ [((Txt.mul r70 x111), (Txt.mul r70 x117), (Txt.mul r70 x123))]) r316 fun r321 => (if (!r321) = true then (KM false) else (M_pairs_right ys177 (((r1 ++ ([r11, r26] : List (Str × Str × Str))) ++ [r52]) ++ [((Txt.mul r70 x111), (Txt.mul r70 x117), (Txt.mul r70 x123))]) (r316.reverse) fun r334 => (if (!r334) = true then (KM false) else (0 ≤ (0 : Int) ∧ ∃ g340 : Int.toNat (0 : Int) < ys177.length, ∀ x342, x342 = ys177[Int.toNat (0 : Int)]'g340 → (0 ≤ (1 : Int) ∧ ∃ g345 : Int.toNat (1 : Int) < ys177.length, ∀ x347, x347 = ys177[Int.toNat (1 : Int)]'g345 → (M_first_unlike_place x342 x347 fun r349 => (if (Option.isNone r349) = true then (KM false) else (ys177.length < 100000 ∧ mapC (fun (x370 : (Str × Str × Str)) (k363 : Str → Prop) => (M_Word_reduced x370 fun r376 => (M_Word_repr r376 fun r381 => (k363 r381)))) ys177 [] fun ys391 => (((plainD (D.lst (ys391.map (fun y_ : Str => (D.v (V.str y_))))) = true ∧ plainD (D.lst (ys217.map (fun y_ : Str => (D.v (V.str y_))))) = true ∧ SeqAt.shaped (pyOf (D.lst (ys391.map (fun y_ : Str => (D.v (V.str y_)))))) = true ∧ SeqAt.shaped (pyOf (D.lst (ys217.map (fun y_ : Str => (D.v (V.str y_)))))) = true)) ∧ (KM (PyData.eqv (pyOf (D.lst (ys391.map (fun y_ : Str => (D.v (V.str y_)))))) (pyOf (D.lst (ys217.map (fun y_ : Str => (D.v (V.str y_)))))))))))))))))))))))))))))))))))))))))))))))))))))
def sp_right (A : Ad) : Sp := fun vs H Q _ => ∃ (ms : List Addr) (ap : Addr) (KM : Bool → Prop), vs = [.ref ap] ∧ Wd ms [ap] [] H H ∧ M_right  KM ∧ ∀ (r : Bool) (u : V) (H1 : Hp), KM r → Ret [ap] H H1 → rep ms H1 (D.v (V.bl r)) u → Q u H1
set_option maxHeartbeats 16000000 in
theorem ok_right {P : Program} {w : World} {K : PySem.W.Frag} {mg : Str → Option Value} {base : Heap} {A : Ad} (T : Txt w K mg A) : FnG P w K mg base 9 A.a_right A.d_right ["_law_pot_here"] (sp_right A) := by
  refine okG T.F_right sc_right (fun vs H Q E h => ?_) (fun cdv A_ outer s_ H_0 vs Q E gu hr h => ?_)
  · obtain ⟨ms, ap, KM, rfl, _⟩ := h
    rfl
  · obtain ⟨ms, ap, KM, rfl, hW, hM, hQ⟩ := h
    unfold M_right at hM
    refine ⟨_, (pss_cons (ps_set (i := 1) sc_right.nd rfl (by first | exact Or.inl rfl | exact Or.inr rfl) (pe_call (ok_late T) (hr.mono (by decide)) (by rfl) T.g_late T.F_late.kp T.b_late .nil pass0 (pa_cons (pv 0) pa_nil))) (pss_cons (ps_set (i := 1) sc_right.nd rfl (by first | exact Or.inl rfl | exact Or.inr rfl) (pe_op op_cat (pv 1) (pe_lst (pa_cons (pe_call (ok_alike T) (hr.mono (by decide)) (by rfl) T.g_alike T.F_alike.kp T.b_alike .nil pass0 (pa_cons (pv 0) (pa_cons (pe_ix (ix_listK (K := K) rfl) (pv 1) pe_int (fun _ _ => rfl)) pa_nil))) (pa_cons (pe_call (ok_alike T) (hr.mono (by decide)) (by rfl) T.g_alike T.F_alike.kp T.b_alike .nil pass0 (pa_cons (pv 0) (pa_cons (pe_call (ok_alike T) (hr.mono (by decide)) (by rfl) T.g_alike T.F_alike.kp T.b_alike .nil pass0 (pa_cons (pv 0) (pa_cons (pe_ix (ix_listK (K := K) rfl) (pv 1) pe_int (fun _ _ => rfl)) pa_nil))) pa_nil))) pa_nil))))) (pss_cons (ps_expr (pe_bmK (K := K) rfl PySem.F.plainAttrs_list PySem.F.slot_list_append PySem.F.type_list_append mt_append (pv 1) (pa_cons (pe_call (ok_bent T) (hr.mono (by decide)) (by rfl) T.g_bent T.F_bent.kp T.b_bent .nil pass0 (pa_cons (pv 0) (pa_cons (pe_call (ok_pick_pltsss T) (hr.mono (by decide)) (by rfl) T.g_pick T.F_pick.kp T.b_pick .nil pass0 (pa_cons (pv 0) (pa_cons (pv 1) pa_nil))) pa_nil))) pa_nil))) (pss_cons (ps_set (i := 2) sc_right.nd rfl (by first | exact Or.inl rfl | exact Or.inr rfl) (pe_call (ok_pick_pls T) (hr.mono (by decide)) (by rfl) T.g_pick T.F_pick.kp T.b_pick .nil pass0 (pa_cons (pv 0) (pa_cons (pe_lst (pa_cons pe_str (pa_cons pe_str pa_nil))) pa_nil)))) (pss_cons (ps_set (i := 3) sc_right.nd rfl (by first | exact Or.inl rfl | exact Or.inr rfl) (pe_lst (pa_cons (pe_call (ok_pick_pli T) (hr.mono (by decide)) (by rfl) T.g_pick T.F_pick.kp T.b_pick .nil pass0 (pa_cons (pv 0) (pa_cons (pe_lst (pa_cons pe_int (pa_cons pe_int (pa_cons pe_int (pa_cons pe_int pa_nil))))) pa_nil))) (pa_cons (pe_op op_add pe_int (pe_call (ok_draw T) (hr.mono (by decide)) (by rfl) T.g_draw T.F_draw.kp T.b_draw .nil pass0 (pa_cons (pv 0) (pa_cons pe_int pa_nil)))) (pa_cons (pe_call (ok_pick_pli T) (hr.mono (by decide)) (by rfl) T.g_pick T.F_pick.kp T.b_pick .nil pass0 (pa_cons (pv 0) (pa_cons (pe_lst (pa_cons pe_int (pa_cons pe_int (pa_cons pe_int (pa_cons pe_int pa_nil))))) pa_nil))) pa_nil))))) (pss_cons (ps_expr (pe_bmK (K := K) rfl PySem.F.plainAttrs_list PySem.F.slot_list_append PySem.F.type_list_append mt_append (pv 1) (pa_cons (pe_tup (pa_cons (pe_op op_mulS (pv 2) (pe_ix (ix_listK (K := K) rfl) (pv 3) pe_int (fun _ _ => rfl))) (pa_cons (pe_op op_mulS (pv 2) (pe_ix (ix_listK (K := K) rfl) (pv 3) pe_int (fun _ _ => rfl))) (pa_cons (pe_op op_mulS (pv 2) (pe_ix (ix_listK (K := K) rfl) (pv 3) pe_int (fun _ _ => rfl))) pa_nil)))) pa_nil))) (pss_cons (ps_setLc (i := 4) (own := [("_law_parts_here", 8)]) (g := gName 8) rfl sc_right.nd rfl rfl (sw_true rfl rfl rfl (by decide +kernel)) (pi_list (pv 1)) (blkOk_by (N := ["_law_pot_here", "_law_some", "_law_sign", "_law_sizes", "_law_made", "_law_kept", "_law_pairs", "_law_k", "_law_parts_here", "_law_one", "_law_j"]) (sc := defScope s_right) (by decide +kernel)) (fun _ _ _ _ _ => pg_name (i := 8) sc_right.nd rfl (by first | exact Or.inl rfl | exact Or.inr rfl)) (fun _ _ _ _ _ => pts_nil) (fun _ _ _ _ _ => (pe_make T.mk_Word (ok_Word_init T) (hr.mono (by decide)) (by rfl) T.g_Word T.b_Word_init .nil pass0 (pa_cons (pe_ix (ix_tupK (K := K) rfl) (pv 8) pe_int (fun _ _ => rfl)) (pa_cons (pe_ix (ix_tupK (K := K) rfl) (pv 8) pe_int (fun _ _ => rfl)) (pa_cons (pe_ix (ix_tupK (K := K) rfl) (pv 8) pe_int (fun _ _ => rfl)) pa_nil)))))) (pss_cons (ps_setLc (i := 5) (own := [("_law_one", 9)]) (g := gName 9) rfl sc_right.nd rfl rfl (sw_true rfl rfl rfl (by decide +kernel)) (pi_list (pv 4)) (blkOk_by (N := ["_law_pot_here", "_law_some", "_law_sign", "_law_sizes", "_law_made", "_law_kept", "_law_pairs", "_law_k", "_law_parts_here", "_law_one", "_law_j"]) (sc := defScope s_right) (by decide +kernel)) (fun _ _ _ _ _ => pg_name (i := 9) sc_right.nd rfl (by first | exact Or.inl rfl | exact Or.inr rfl)) (fun _ _ _ _ _ => pts_nil) (fun _ _ _ _ _ => (pe_callB (call_reprOwn (ok_Word_repr T) (hr.mono (by decide)) T.ow_Word_repr T.b_Word_repr pass0) (by rfl) T.z_repr (by decide +kernel) (pa_cons (pe_meth0 (pv 9) T.cl_Word T.m_Word_reduced (ok_Word_reduced T) (hr.mono (by decide)) T.b_Word_reduced .nil pass0) pa_nil)))) (pss_cons (ps_if (PW.pt (pw_or (pt_cmpR op_ne (pe_ix (ix_listK (K := K) rfl) (pv 5) (pe_un un_neg pe_int) (fun _ _ => rfl)) (pe_op op_add_str pe_str (pe_callB (call_reprAK (K := K) rfl gu hr) (by rfl) T.z_repr (by decide +kernel) (pa_cons (pe_tup (pa_cons pe_str (pa_cons (pv 2) (pa_cons pe_str pa_nil)))) pa_nil))) (nomark _)) (pw_or (pt_cmpR op_ne (pe_ix (ix_listK (K := K) rfl) (pv 5) pe_int (fun _ _ => rfl)) (pe_ix (ix_listK (K := K) rfl) (pv 5) pe_int (fun _ _ => rfl)) (nomark _)) (pw_or1 (pt_cmpR op_ne (pe_ix (ix_listK (K := K) rfl) (pv 5) pe_int (fun _ _ => rfl)) (pe_ix (ix_listK (K := K) rfl) (pv 5) pe_int (fun _ _ => rfl)) (nomark _)))))) (pss_one (ps_ret pe_bl)) pss_nil) (pss_cons (ps_set (i := 6) sc_right.nd rfl (by first | exact Or.inl rfl | exact Or.inr rfl) (pe_lst pa_nil)) (pss_cons (ps_for PassesOwn.never rfl (pi_rangeW1 (by rfl) T.z_range (pa_cons (pe_callB (call_lenK (K := K) rfl) (by rfl) T.z_len PySem.boot_len (pa_cons (pv 1) pa_nil)) pa_nil)) (pg_name (i := 7) sc_right.nd rfl (by first | exact Or.inl rfl | exact Or.inr rfl)) (pss_one (ps_expr (pe_bmK (K := K) rfl PySem.F.plainAttrs_list PySem.F.slot_list_extend PySem.F.type_list_extend mt_extend (pv 6) (pa_cons (pe_lc (own := [("_law_j", 10)]) (g := gName 10) rfl sc_right.nd (pi_rangeW1 (by rfl) T.z_range (pa_cons (pe_callB (call_lenK (K := K) rfl) (by rfl) T.z_len PySem.boot_len (pa_cons (pv 1) pa_nil)) pa_nil)) (blkOk_by (N := ["_law_pot_here", "_law_some", "_law_sign", "_law_sizes", "_law_made", "_law_kept", "_law_pairs", "_law_k", "_law_parts_here", "_law_one", "_law_j"]) (sc := defScope s_right) (by decide +kernel)) (fun _ _ _ _ _ => pg_name (i := 10) sc_right.nd rfl (by first | exact Or.inl rfl | exact Or.inr rfl)) (fun _ _ _ _ _ => pts_nil) (fun _ _ _ _ _ => (pe_tup (pa_cons (pv 7) (pa_cons (pv 10) pa_nil))))) pa_nil))))) (pss_cons (ps_set (i := 6) sc_right.nd rfl (by first | exact Or.inl rfl | exact Or.inr rfl) (pe_call (ok_mixed T) (hr.mono (by decide)) (by rfl) T.g_mixed T.F_mixed.kp T.b_mixed .nil pass0 (pa_cons (pv 0) (pa_cons (pv 6) pa_nil)))) (pss_cons (ps_if (PW.pt (pw_or (pt_not (pt_val (pe_callG (ok_pairs_right T) gu (hr.mono (by decide)) (by rfl) T.g_pairs_right T.F_pairs_right.kp T.b_pairs_right (pa_cons (pv 4) (pa_cons (pv 1) (pa_cons (pv 6) pa_nil)))))) (pw_or1 (pt_not (pt_val (pe_callG (ok_pairs_right T) gu (hr.mono (by decide)) (by rfl) T.g_pairs_right T.F_pairs_right.kp T.b_pairs_right (pa_cons (pv 4) (pa_cons (pv 1) (pa_cons (pe_revL (pv 6)) pa_nil))))))))) (pss_one (ps_ret pe_bl)) pss_nil) (pss_cons (ps_if (pt_cmpR op_isN (pe_call (ok_first_unlike_place T) (hr.mono (by decide)) (by rfl) T.g_first_unlike_place T.F_first_unlike_place.kp T.b_first_unlike_place .nil pass0 (pa_cons (pe_ix (ix_listK (K := K) rfl) (pv 4) pe_int (fun _ _ => rfl)) (pa_cons (pe_ix (ix_listK (K := K) rfl) (pv 4) pe_int (fun _ _ => rfl)) pa_nil))) pe_non (nomark _)) (pss_one (ps_ret pe_bl)) pss_nil) (pss_one (ps_ret (pe_cmpR (op_eqDK (K := K) rfl hr.units) (pe_lc (own := [("_law_one", 9)]) (g := gName 9) rfl sc_right.nd (pi_list (pv 4)) (blkOk_by (N := ["_law_pot_here", "_law_some", "_law_sign", "_law_sizes", "_law_made", "_law_kept", "_law_pairs", "_law_k", "_law_parts_here", "_law_one", "_law_j"]) (sc := defScope s_right) (by decide +kernel)) (fun _ _ _ _ _ => pg_name (i := 9) sc_right.nd rfl (by first | exact Or.inl rfl | exact Or.inr rfl)) (fun _ _ _ _ _ => pts_nil) (fun _ _ _ _ _ => (pe_callB (call_reprOwn (ok_Word_repr T) (hr.mono (by decide)) T.ow_Word_repr T.b_Word_repr pass0) (by rfl) T.z_repr (by decide +kernel) (pa_cons (pe_meth0 (pv 9) T.cl_Word T.m_Word_reduced (ok_Word_reduced T) (hr.mono (by decide)) T.b_Word_reduced .nil pass0) pa_nil)))) (pv 5) (nomark _)))))))))))))))))), ?_⟩
    refine ⟨_, rfl, ?_⟩
    refine ⟨ms, ap, _, rfl, hW.enterP, hM, fun r1 u4 H5 hM e3 h2 => ?_⟩
    replace hW := hW.retP e3
    refine ⟨_, rfl, ?_⟩
    refine ⟨_, rfl, ?_⟩
    refine ⟨_, rfl, ?_⟩
    obtain ⟨g6, g7, hM⟩ := hM
    apply rep_ixL (e := (fun y_ : (Str × Str × Str) => (D.tup [(D.v (V.str y_.1)), (D.v (V.str y_.2.1)), (D.v (V.str y_.2.2))]))) (xs := r1) h2 g6 g7
    intro u10 h8
    obtain ⟨x9, x9e⟩ : ∃ x_, x_ = r1[Int.toNat (0 : Int)]'g7 := ⟨_, rfl⟩
    rw [← x9e] at h8
    replace hM := hM x9 x9e
    refine ⟨ms, ap, _, x9, _, rfl, hW.enterP, h8, hM, fun r11 u14 H15 hM e13 h12 => ?_⟩
    replace h2 := rep_ret hW e13 h2
    replace h8 := rep_ret hW e13 h8
    replace hW := hW.retP e13
    refine ⟨_, rfl, ?_⟩
    refine ⟨_, rfl, ?_⟩
    refine ⟨_, rfl, ?_⟩
    obtain ⟨g16, g17, hM⟩ := hM
    apply rep_ixL (e := (fun y_ : (Str × Str × Str) => (D.tup [(D.v (V.str y_.1)), (D.v (V.str y_.2.1)), (D.v (V.str y_.2.2))]))) (xs := r1) h2 g16 g17
    intro u20 h18
    obtain ⟨x19, x19e⟩ : ∃ x_, x_ = r1[Int.toNat (1 : Int)]'g17 := ⟨_, rfl⟩
    rw [← x19e] at h18
    replace hM := hM x19 x19e
    refine ⟨ms, ap, _, x19, _, rfl, hW.enterP, h18, hM, fun r21 u24 H25 hM e23 h22 => ?_⟩
    replace h2 := rep_ret hW e23 h2
    replace h8 := rep_ret hW e23 h8
    replace h12 := rep_ret hW e23 h12
    replace h18 := rep_ret hW e23 h18
    replace hW := hW.retP e23
    refine ⟨ms, ap, _, r21, _, rfl, hW.enterP, h22, hM, fun r26 u29 H30 hM e28 h27 => ?_⟩
    replace h2 := rep_ret hW e28 h2
    replace h8 := rep_ret hW e28 h8
    replace h12 := rep_ret hW e28 h12
    replace h18 := rep_ret hW e28 h18
    replace h22 := rep_ret hW e28 h22
    replace hW := hW.retP e28
    refine ⟨(by show 2 ≤ sizeLine; decide), ?_⟩
    intro p31 n35
    have e32 := Rx.Ext.new (H := H30) (o := (HO.lst [u14, u29])) n35
    have hp33 : upd H30 p31 (HO.lst [u14, u29]) p31 = some (HO.lst [u14, u29]) := upd_same
    generalize upd H30 p31 (HO.lst [u14, u29]) = H36 at e32 hp33 ⊢
    have h34 : rep ms H36 (D.lst (([r11, r26] : List (Str × Str × Str)).map (fun y_ : (Str × Str × Str) => (D.tup [(D.v (V.str y_.1)), (D.v (V.str y_.2.1)), (D.v (V.str y_.2.2))])))) (.ref p31) := rep_lst_mk hW n35 e32 hp33 (repL_cons h12 (repL_cons h27 repL_nil))
    replace h2 := rep_ext e32 h2
    replace h8 := rep_ext e32 h8
    replace h12 := rep_ext e32 h12
    replace h18 := rep_ext e32 h18
    replace h22 := rep_ext e32 h22
    replace h27 := rep_ext e32 h27
    replace hW := hW.ret0 e32
    obtain ⟨g37, hM⟩ := hM
    apply rep_catU (xs := r1) (ys := ([r11, r26] : List (Str × Str × Str))) (e := (fun y_ : (Str × Str × Str) => (D.tup [(D.v (V.str y_.1)), (D.v (V.str y_.2.1)), (D.v (V.str y_.2.2))]))) h2 h34 g37
    intro vs40 us41 h42 h43 L38 nl39
    have nm44 := nm_new hW nl39
    have mu45 := mo_newL (ds := (r1 ++ ([r11, r26] : List (Str × Str × Str))).map (fun y_ : (Str × Str × Str) => (D.tup [(D.v (V.str y_.1)), (D.v (V.str y_.2.1)), (D.v (V.str y_.2.2))]))) (vs := vs40 ++ us41) hW nl39 (repL_cat (e := (fun y_ : (Str × Str × Str) => (D.tup [(D.v (V.str y_.1)), (D.v (V.str y_.2.1)), (D.v (V.str y_.2.2))]))) (xs := r1) (ys := ([r11, r26] : List (Str × Str × Str))) h42 h43)
    replace h2 := rep_cell (o := .lst (vs40 ++ us41)) nl39 h2
    replace h8 := rep_cell (o := .lst (vs40 ++ us41)) nl39 h8
    replace h12 := rep_cell (o := .lst (vs40 ++ us41)) nl39 h12
    replace h18 := rep_cell (o := .lst (vs40 ++ us41)) nl39 h18
    replace h22 := rep_cell (o := .lst (vs40 ++ us41)) nl39 h22
    replace h27 := rep_cell (o := .lst (vs40 ++ us41)) nl39 h27
    replace h34 := rep_cell (o := .lst (vs40 ++ us41)) nl39 h34
    replace hW := wd_cell (o := .lst (vs40 ++ us41)) hW nl39
    generalize upd H36 L38 (.lst (vs40 ++ us41)) = H46 at *
    replace mu45 : MutO (L38 :: ms) [ap] H_0 H46 L38 (D.lst ((r1 ++ ([r11, r26] : List (Str × Str × Str))).map (fun y_ : (Str × Str × Str) => (D.tup [(D.v (V.str y_.1)), (D.v (V.str y_.2.1)), (D.v (V.str y_.2.2))])))) := mu45
    refine ⟨_, rfl, ?_⟩
    refine ⟨mo_tyL mu45, ?_⟩
    refine ⟨_, rfl, ?_⟩
    refine ⟨_, rfl, ?_⟩
    refine ⟨_, rfl, ?_⟩
    have hfz := mo_rep_dr dr_here nm44 mu45
    have hWz := wd_dr dr_here mu45.hp hW
    refine ⟨ms, ap, _, (r1 ++ ([r11, r26] : List (Str × Str × Str))), _, rfl, hWz.enterP, hfz, hM, fun r47 u50 H51 hM e49 h48 => ?_⟩
    clear hfz hWz
    replace h2 := rep_ret hW e49 h2
    replace h8 := rep_ret hW e49 h8
    replace h12 := rep_ret hW e49 h12
    replace h18 := rep_ret hW e49 h18
    replace h22 := rep_ret hW e49 h22
    replace h27 := rep_ret hW e49 h27
    replace h34 := rep_ret hW e49 h34
    replace mu45 := mo_ret hW e49 mu45
    replace hW := hW.retP e49
    replace h48 := rep_liftO dr_here (MutO.isMo mu45) _ _ (by rfl) h48
    refine ⟨(L38 :: ms), ap, _, r47, _, rfl, hW.enterP, h48, hM, fun r52 u55 H56 hM e54 h53 => ?_⟩
    replace h2 := rep_ret hW e54 h2
    replace h8 := rep_ret hW e54 h8
    replace h12 := rep_ret hW e54 h12
    replace h18 := rep_ret hW e54 h18
    replace h22 := rep_ret hW e54 h22
    replace h27 := rep_ret hW e54 h27
    replace h34 := rep_ret hW e54 h34
    replace h48 := rep_ret hW e54 h48
    replace mu45 := mo_ret hW e54 mu45
    replace hW := hW.retP e54
    obtain ⟨g57, hM⟩ := hM
    apply mo_appU mu45 (by rw [List.length_map]; exact g57)
    intro vs58 hr60
    have mk62 := mo_setL mu45 (repL_snoc (e := (fun y_ : (Str × Str × Str) => (D.tup [(D.v (V.str y_.1)), (D.v (V.str y_.2.1)), (D.v (V.str y_.2.2))]))) (xs := (r1 ++ ([r11, r26] : List (Str × Str × Str)))) (y := r52) hr60 h53)
    replace h2 := rep_put (o := .lst (vs58 ++ [u55])) mu45.im h2
    replace h8 := rep_put (o := .lst (vs58 ++ [u55])) mu45.im h8
    replace h12 := rep_put (o := .lst (vs58 ++ [u55])) mu45.im h12
    replace h18 := rep_put (o := .lst (vs58 ++ [u55])) mu45.im h18
    replace h22 := rep_put (o := .lst (vs58 ++ [u55])) mu45.im h22
    replace h27 := rep_put (o := .lst (vs58 ++ [u55])) mu45.im h27
    replace h34 := rep_put (o := .lst (vs58 ++ [u55])) mu45.im h34
    replace h48 := rep_put (o := .lst (vs58 ++ [u55])) mu45.im h48
    replace h53 := rep_put (o := .lst (vs58 ++ [u55])) mu45.im h53
    replace hW := wd_put (o := .lst (vs58 ++ [u55])) hW mu45
    replace mu45 := mk62
    generalize upd H56 L38 (.lst (vs58 ++ [u55])) = H63 at *
    replace mu45 : MutO (L38 :: ms) [ap] H_0 H63 L38 (D.lst (((r1 ++ ([r11, r26] : List (Str × Str × Str))) ++ [r52]).map (fun y_ : (Str × Str × Str) => (D.tup [(D.v (V.str y_.1)), (D.v (V.str y_.2.1)), (D.v (V.str y_.2.2))])))) := mu45
    clear mk62
    refine ⟨_, rfl, ?_⟩
    refine ⟨(by show 2 ≤ sizeLine; decide), ?_⟩
    intro p64 n68
    have e65 := Rx.Ext.new (H := H63) (o := (HO.lst [V.str ("h" : Str), V.str ("a" : Str)])) n68
    have hp66 : upd H63 p64 (HO.lst [V.str ("h" : Str), V.str ("a" : Str)]) p64 = some (HO.lst [V.str ("h" : Str), V.str ("a" : Str)]) := upd_same
    generalize upd H63 p64 (HO.lst [V.str ("h" : Str), V.str ("a" : Str)]) = H69 at e65 hp66 ⊢
    have h67 : rep (L38 :: ms) H69 (D.lst (([("h" : Str), ("a" : Str)] : List Str).map (fun y_ : Str => (D.v (V.str y_))))) (.ref p64) := rep_lst_mk hW n68 e65 hp66 (repL_cons rep_v (repL_cons rep_v repL_nil))
    replace h2 := rep_ext e65 h2
    replace h8 := rep_ext e65 h8
    replace h12 := rep_ext e65 h12
    replace h18 := rep_ext e65 h18
    replace h22 := rep_ext e65 h22
    replace h27 := rep_ext e65 h27
    replace h34 := rep_ext e65 h34
    replace h48 := rep_ext e65 h48
    replace h53 := rep_ext e65 h53
    replace mu45 := mo_ext e65 mu45
    replace hW := hW.ret0 e65
    refine ⟨(L38 :: ms), ap, _, ([("h" : Str), ("a" : Str)] : List Str), _, rfl, hW.enterP, h67, hM, fun r70 u73 H74 hM e72 h71 => ?_⟩
    replace h2 := rep_ret hW e72 h2
    replace h8 := rep_ret hW e72 h8
    replace h12 := rep_ret hW e72 h12
    replace h18 := rep_ret hW e72 h18
    replace h22 := rep_ret hW e72 h22
    replace h27 := rep_ret hW e72 h27
    replace h34 := rep_ret hW e72 h34
    replace h48 := rep_ret hW e72 h48
    replace h53 := rep_ret hW e72 h53
    replace h67 := rep_ret hW e72 h67
    replace mu45 := mo_ret hW e72 mu45
    replace hW := hW.retP e72
    obtain rfl := of_v h71
    refine ⟨_, rfl, ?_⟩
    refine ⟨(by show 4 ≤ sizeLine; decide), ?_⟩
    intro p75 n79
    have e76 := Rx.Ext.new (H := H74) (o := (HO.lst [V.int (4 : Int), V.int (4 : Int), V.int (3 : Int), V.int (0 : Int)])) n79
    have hp77 : upd H74 p75 (HO.lst [V.int (4 : Int), V.int (4 : Int), V.int (3 : Int), V.int (0 : Int)]) p75 = some (HO.lst [V.int (4 : Int), V.int (4 : Int), V.int (3 : Int), V.int (0 : Int)]) := upd_same
    generalize upd H74 p75 (HO.lst [V.int (4 : Int), V.int (4 : Int), V.int (3 : Int), V.int (0 : Int)]) = H80 at e76 hp77 ⊢
    have h78 : rep (L38 :: ms) H80 (D.lst (([(4 : Int), (4 : Int), (3 : Int), (0 : Int)] : List Int).map (fun y_ : Int => (D.v (V.int y_))))) (.ref p75) := rep_lst_mk hW n79 e76 hp77 (repL_cons rep_v (repL_cons rep_v (repL_cons rep_v (repL_cons rep_v repL_nil))))
    replace h2 := rep_ext e76 h2
    replace h8 := rep_ext e76 h8
    replace h12 := rep_ext e76 h12
    replace h18 := rep_ext e76 h18
    replace h22 := rep_ext e76 h22
    replace h27 := rep_ext e76 h27
    replace h34 := rep_ext e76 h34
    replace h48 := rep_ext e76 h48
    replace h53 := rep_ext e76 h53
    replace h67 := rep_ext e76 h67
    replace mu45 := mo_ext e76 mu45
    replace hW := hW.ret0 e76
    refine ⟨(L38 :: ms), ap, _, ([(4 : Int), (4 : Int), (3 : Int), (0 : Int)] : List Int), _, rfl, hW.enterP, h78, hM, fun r81 u84 H85 hM e83 h82 => ?_⟩
    replace h2 := rep_ret hW e83 h2
    replace h8 := rep_ret hW e83 h8
    replace h12 := rep_ret hW e83 h12
    replace h18 := rep_ret hW e83 h18
    replace h22 := rep_ret hW e83 h22
    replace h27 := rep_ret hW e83 h27
    replace h34 := rep_ret hW e83 h34
    replace h48 := rep_ret hW e83 h48
    replace h53 := rep_ret hW e83 h53
    replace h67 := rep_ret hW e83 h67
    replace h78 := rep_ret hW e83 h78
    replace mu45 := mo_ret hW e83 mu45
    replace hW := hW.retP e83
    obtain rfl := of_v h82
    refine ⟨_, rfl, ?_⟩
    refine ⟨(L38 :: ms), ap, (4 : Int), _, rfl, hW.enterP, hM, fun r86 u89 H90 hM e88 h87 => ?_⟩
    replace h2 := rep_ret hW e88 h2
    replace h8 := rep_ret hW e88 h8
    replace h12 := rep_ret hW e88 h12
    replace h18 := rep_ret hW e88 h18
    replace h22 := rep_ret hW e88 h22
    replace h27 := rep_ret hW e88 h27
    replace h34 := rep_ret hW e88 h34
    replace h48 := rep_ret hW e88 h48
    replace h53 := rep_ret hW e88 h53
    replace h67 := rep_ret hW e88 h67
    replace h78 := rep_ret hW e88 h78
    replace mu45 := mo_ret hW e88 mu45
    replace hW := hW.retP e88
    obtain rfl := of_v h87
    refine ⟨_, _, rfl, rfl, ?_⟩
    refine ⟨_, rfl, ?_⟩
    refine ⟨(by show 4 ≤ sizeLine; decide), ?_⟩
    intro p91 n95
    have e92 := Rx.Ext.new (H := H90) (o := (HO.lst [V.int (4 : Int), V.int (4 : Int), V.int (2 : Int), V.int (0 : Int)])) n95
    have hp93 : upd H90 p91 (HO.lst [V.int (4 : Int), V.int (4 : Int), V.int (2 : Int), V.int (0 : Int)]) p91 = some (HO.lst [V.int (4 : Int), V.int (4 : Int), V.int (2 : Int), V.int (0 : Int)]) := upd_same
    generalize upd H90 p91 (HO.lst [V.int (4 : Int), V.int (4 : Int), V.int (2 : Int), V.int (0 : Int)]) = H96 at e92 hp93 ⊢
    have h94 : rep (L38 :: ms) H96 (D.lst (([(4 : Int), (4 : Int), (2 : Int), (0 : Int)] : List Int).map (fun y_ : Int => (D.v (V.int y_))))) (.ref p91) := rep_lst_mk hW n95 e92 hp93 (repL_cons rep_v (repL_cons rep_v (repL_cons rep_v (repL_cons rep_v repL_nil))))
    replace h2 := rep_ext e92 h2
    replace h8 := rep_ext e92 h8
    replace h12 := rep_ext e92 h12
    replace h18 := rep_ext e92 h18
    replace h22 := rep_ext e92 h22
    replace h27 := rep_ext e92 h27
    replace h34 := rep_ext e92 h34
    replace h48 := rep_ext e92 h48
    replace h53 := rep_ext e92 h53
    replace h67 := rep_ext e92 h67
    replace h78 := rep_ext e92 h78
    replace mu45 := mo_ext e92 mu45
    replace hW := hW.ret0 e92
    refine ⟨(L38 :: ms), ap, _, ([(4 : Int), (4 : Int), (2 : Int), (0 : Int)] : List Int), _, rfl, hW.enterP, h94, hM, fun r97 u100 H101 hM e99 h98 => ?_⟩
    replace h2 := rep_ret hW e99 h2
    replace h8 := rep_ret hW e99 h8
    replace h12 := rep_ret hW e99 h12
    replace h18 := rep_ret hW e99 h18
    replace h22 := rep_ret hW e99 h22
    replace h27 := rep_ret hW e99 h27
    replace h34 := rep_ret hW e99 h34
    replace h48 := rep_ret hW e99 h48
    replace h53 := rep_ret hW e99 h53
    replace h67 := rep_ret hW e99 h67
    replace h78 := rep_ret hW e99 h78
    replace h94 := rep_ret hW e99 h94
    replace mu45 := mo_ret hW e99 mu45
    replace hW := hW.retP e99
    obtain rfl := of_v h98
    refine ⟨(by show 3 ≤ sizeLine; decide), ?_⟩
    intro p102 n106
    have e103 := Rx.Ext.new (H := H101) (o := (HO.lst [V.int r81, V.int ((1 : Int) + r86), V.int r97])) n106
    have hp104 : upd H101 p102 (HO.lst [V.int r81, V.int ((1 : Int) + r86), V.int r97]) p102 = some (HO.lst [V.int r81, V.int ((1 : Int) + r86), V.int r97]) := upd_same
    generalize upd H101 p102 (HO.lst [V.int r81, V.int ((1 : Int) + r86), V.int r97]) = H107 at e103 hp104 ⊢
    have h105 : rep (L38 :: ms) H107 (D.lst (([r81, ((1 : Int) + r86), r97] : List Int).map (fun y_ : Int => (D.v (V.int y_))))) (.ref p102) := rep_lst_mk hW n106 e103 hp104 (repL_cons rep_v (repL_cons rep_v (repL_cons rep_v repL_nil)))
    replace h2 := rep_ext e103 h2
    replace h8 := rep_ext e103 h8
    replace h12 := rep_ext e103 h12
    replace h18 := rep_ext e103 h18
    replace h22 := rep_ext e103 h22
    replace h27 := rep_ext e103 h27
    replace h34 := rep_ext e103 h34
    replace h48 := rep_ext e103 h48
    replace h53 := rep_ext e103 h53
    replace h67 := rep_ext e103 h67
    replace h78 := rep_ext e103 h78
    replace h94 := rep_ext e103 h94
    replace mu45 := mo_ext e103 mu45
    replace hW := hW.ret0 e103
    refine ⟨_, rfl, ?_⟩
    refine ⟨mo_tyL mu45, ?_⟩
    refine ⟨_, rfl, ?_⟩
    refine ⟨_, rfl, ?_⟩
    obtain ⟨g108, g109, hM⟩ := hM
    apply rep_ixL (e := (fun y_ : Int => (D.v (V.int y_)))) (xs := ([r81, ((1 : Int) + r86), r97] : List Int)) h105 g108 g109
    intro u112 h110
    obtain ⟨x111, x111e⟩ : ∃ x_, x_ = ([r81, ((1 : Int) + r86), r97] : List Int)[Int.toNat (0 : Int)]'g109 := ⟨_, rfl⟩
    rw [← x111e] at h110
    replace hM := hM x111 x111e
    obtain rfl := of_v h110
    obtain ⟨g113, hM⟩ := hM
    refine ⟨_, _, rfl, rfl, g113, ?_⟩
    refine ⟨_, rfl, ?_⟩
    refine ⟨_, rfl, ?_⟩
    obtain ⟨g114, g115, hM⟩ := hM
    apply rep_ixL (e := (fun y_ : Int => (D.v (V.int y_)))) (xs := ([r81, ((1 : Int) + r86), r97] : List Int)) h105 g114 g115
    intro u118 h116
    obtain ⟨x117, x117e⟩ : ∃ x_, x_ = ([r81, ((1 : Int) + r86), r97] : List Int)[Int.toNat (1 : Int)]'g115 := ⟨_, rfl⟩
    rw [← x117e] at h116
    replace hM := hM x117 x117e
    obtain rfl := of_v h116
    obtain ⟨g119, hM⟩ := hM
    refine ⟨_, _, rfl, rfl, g119, ?_⟩
    refine ⟨_, rfl, ?_⟩
    refine ⟨_, rfl, ?_⟩
    obtain ⟨g120, g121, hM⟩ := hM
    apply rep_ixL (e := (fun y_ : Int => (D.v (V.int y_)))) (xs := ([r81, ((1 : Int) + r86), r97] : List Int)) h105 g120 g121
    intro u124 h122
    obtain ⟨x123, x123e⟩ : ∃ x_, x_ = ([r81, ((1 : Int) + r86), r97] : List Int)[Int.toNat (2 : Int)]'g121 := ⟨_, rfl⟩
    rw [← x123e] at h122
    replace hM := hM x123 x123e
    obtain rfl := of_v h122
    obtain ⟨g125, hM⟩ := hM
    refine ⟨_, _, rfl, rfl, g125, ?_⟩
    refine ⟨(by show 3 ≤ sizeLine; decide), ?_⟩
    intro p126 n130
    have e127 := Rx.Ext.new (H := H107) (o := (HO.tup [V.str (Txt.mul r70 x111), V.str (Txt.mul r70 x117), V.str (Txt.mul r70 x123)])) n130
    have hp128 : upd H107 p126 (HO.tup [V.str (Txt.mul r70 x111), V.str (Txt.mul r70 x117), V.str (Txt.mul r70 x123)]) p126 = some (HO.tup [V.str (Txt.mul r70 x111), V.str (Txt.mul r70 x117), V.str (Txt.mul r70 x123)]) := upd_same
    generalize upd H107 p126 (HO.tup [V.str (Txt.mul r70 x111), V.str (Txt.mul r70 x117), V.str (Txt.mul r70 x123)]) = H131 at e127 hp128 ⊢
    have h129 : rep (L38 :: ms) H131 (D.tup [(D.v (V.str (Txt.mul r70 x111))), (D.v (V.str (Txt.mul r70 x117))), (D.v (V.str (Txt.mul r70 x123)))]) (.ref p126) := rep_tup_mk hW n130 e127 hp128 (repL_cons rep_v (repL_cons rep_v (repL_cons rep_v repL_nil)))
    replace h2 := rep_ext e127 h2
    replace h8 := rep_ext e127 h8
    replace h12 := rep_ext e127 h12
    replace h18 := rep_ext e127 h18
    replace h22 := rep_ext e127 h22
    replace h27 := rep_ext e127 h27
    replace h34 := rep_ext e127 h34
    replace h48 := rep_ext e127 h48
    replace h53 := rep_ext e127 h53
    replace h67 := rep_ext e127 h67
    replace h78 := rep_ext e127 h78
    replace h94 := rep_ext e127 h94
    replace h105 := rep_ext e127 h105
    replace mu45 := mo_ext e127 mu45
    replace hW := hW.ret0 e127
    obtain ⟨g132, hM⟩ := hM
    apply mo_appU mu45 (by rw [List.length_map]; exact g132)
    intro vs133 hr135
    have mk137 := mo_setL mu45 (repL_snoc (e := (fun y_ : (Str × Str × Str) => (D.tup [(D.v (V.str y_.1)), (D.v (V.str y_.2.1)), (D.v (V.str y_.2.2))]))) (xs := ((r1 ++ ([r11, r26] : List (Str × Str × Str))) ++ [r52])) (y := ((Txt.mul r70 x111), (Txt.mul r70 x117), (Txt.mul r70 x123))) hr135 h129)
    replace h2 := rep_put (o := .lst (vs133 ++ [(V.ref p126)])) mu45.im h2
    replace h8 := rep_put (o := .lst (vs133 ++ [(V.ref p126)])) mu45.im h8
    replace h12 := rep_put (o := .lst (vs133 ++ [(V.ref p126)])) mu45.im h12
    replace h18 := rep_put (o := .lst (vs133 ++ [(V.ref p126)])) mu45.im h18
    replace h22 := rep_put (o := .lst (vs133 ++ [(V.ref p126)])) mu45.im h22
    replace h27 := rep_put (o := .lst (vs133 ++ [(V.ref p126)])) mu45.im h27
    replace h34 := rep_put (o := .lst (vs133 ++ [(V.ref p126)])) mu45.im h34
    replace h48 := rep_put (o := .lst (vs133 ++ [(V.ref p126)])) mu45.im h48
    replace h53 := rep_put (o := .lst (vs133 ++ [(V.ref p126)])) mu45.im h53
    replace h67 := rep_put (o := .lst (vs133 ++ [(V.ref p126)])) mu45.im h67
    replace h78 := rep_put (o := .lst (vs133 ++ [(V.ref p126)])) mu45.im h78
    replace h94 := rep_put (o := .lst (vs133 ++ [(V.ref p126)])) mu45.im h94
    replace h105 := rep_put (o := .lst (vs133 ++ [(V.ref p126)])) mu45.im h105
    replace h129 := rep_put (o := .lst (vs133 ++ [(V.ref p126)])) mu45.im h129
    replace hW := wd_put (o := .lst (vs133 ++ [(V.ref p126)])) hW mu45
    replace mu45 := mk137
    generalize upd H131 L38 (.lst (vs133 ++ [(V.ref p126)])) = H138 at *
    replace mu45 : MutO (L38 :: ms) [ap] H_0 H138 L38 (D.lst ((((r1 ++ ([r11, r26] : List (Str × Str × Str))) ++ [r52]) ++ [((Txt.mul r70 x111), (Txt.mul r70 x117), (Txt.mul r70 x123))]).map (fun y_ : (Str × Str × Str) => (D.tup [(D.v (V.str y_.1)), (D.v (V.str y_.2.1)), (D.v (V.str y_.2.2))])))) := mu45
    clear mk137
    have h139 := mo_rep_dr dr_here nm44 mu45
    replace hW := wd_dr dr_here mu45.hp hW
    replace h2 := rep_dr dr_here h2
    replace h8 := rep_dr dr_here h8
    replace h12 := rep_dr dr_here h12
    replace h18 := rep_dr dr_here h18
    replace h22 := rep_dr dr_here h22
    replace h27 := rep_dr dr_here h27
    replace h34 := rep_dr dr_here h34
    replace h48 := rep_dr dr_here h48
    replace h53 := rep_dr dr_here h53
    replace h67 := rep_dr dr_here h67
    replace h78 := rep_dr dr_here h78
    replace h94 := rep_dr dr_here h94
    replace h105 := rep_dr dr_here h105
    replace h129 := rep_dr dr_here h129
    clear mu45
    refine ⟨_, rfl, ?_⟩
    apply rep_iter h139
    intro a140 xs141 _ an142 hp143 hl144
    refine fun L145 nl146 => ?_
    have nm160 := nm_new hW nl146
    refine lc_listG (L := L145) (fun n_ ys_ h_ => Wd (L145 :: ms) [ap] [] H_0 h_ ∧ Keep (L145 :: ms) H138 h_ ∧ MutO (L145 :: ms) [ap] H_0 h_ L145 (D.lst (ys_.map (fun y_ : (Str × Str × Str) => (eWord A y_)))) ∧ ys_.length ≤ n_) (items := (((r1 ++ ([r11, r26] : List (Str × Str × Str))) ++ [r52]) ++ [((Txt.mul r70 x111), (Txt.mul r70 x117), (Txt.mul r70 x123))])) (e := (fun y_ : (Str × Str × Str) => (D.tup [(D.v (V.str y_.1)), (D.v (V.str y_.2.1)), (D.v (V.str y_.2.2))]))) an142 hp143 hl144 nl146 (fun _ _ _ q_ => q_.2.1) hM ⟨wd_cell hW nl146, keep_cell nl146 Keep.refl, mo_newL (ds := []) hW nl146 repL_nil, Nat.le_refl _⟩ ?_ ?_
    · skip
      rintro x156 u157 n147 ys148 k149 H161 hn ⟨hW, hk150, mu151, ln152⟩ h158 hM Nx155 hN153
      replace h2 := rep_keep hk150 (rep_new nl146 h2)
      replace h8 := rep_keep hk150 (rep_new nl146 h8)
      replace h12 := rep_keep hk150 (rep_new nl146 h12)
      replace h18 := rep_keep hk150 (rep_new nl146 h18)
      replace h22 := rep_keep hk150 (rep_new nl146 h22)
      replace h27 := rep_keep hk150 (rep_new nl146 h27)
      replace h34 := rep_keep hk150 (rep_new nl146 h34)
      replace h48 := rep_keep hk150 (rep_new nl146 h48)
      replace h53 := rep_keep hk150 (rep_new nl146 h53)
      replace h67 := rep_keep hk150 (rep_new nl146 h67)
      replace h78 := rep_keep hk150 (rep_new nl146 h78)
      replace h94 := rep_keep hk150 (rep_new nl146 h94)
      replace h105 := rep_keep hk150 (rep_new nl146 h105)
      replace h129 := rep_keep hk150 (rep_new nl146 h129)
      replace h139 := rep_keep hk150 (rep_new nl146 h139)
      refine ⟨rfl, ?_⟩
      refine tyes_of ?_
      refine ⟨_, rfl, ?_⟩
      apply rep_ixT 0 h158 rfl rfl
      intro u163 h162
      obtain rfl := of_v h162
      refine ⟨_, rfl, ?_⟩
      apply rep_ixT 1 h158 rfl rfl
      intro u165 h164
      obtain rfl := of_v h164
      refine ⟨_, rfl, ?_⟩
      apply rep_ixT 2 h158 rfl rfl
      intro u167 h166
      obtain rfl := of_v h166
      conv => whnf
      apply make_Word hW hM
      intro p168 H171 hM e170 h169
      replace h2 := rep_ext e170 h2
      replace h8 := rep_ext e170 h8
      replace h12 := rep_ext e170 h12
      replace h18 := rep_ext e170 h18
      replace h22 := rep_ext e170 h22
      replace h27 := rep_ext e170 h27
      replace h34 := rep_ext e170 h34
      replace h48 := rep_ext e170 h48
      replace h53 := rep_ext e170 h53
      replace h67 := rep_ext e170 h67
      replace h78 := rep_ext e170 h78
      replace h94 := rep_ext e170 h94
      replace h105 := rep_ext e170 h105
      replace h129 := rep_ext e170 h129
      replace h139 := rep_ext e170 h139
      replace hk150 := keep_ext e170 hk150
      replace h158 := rep_ext e170 h158
      replace mu151 := mo_ext e170 mu151
      replace hW := hW.ret0 e170
      refine mo_end mu151 hn (by rw [List.length_map]; exact ln152) fun vs172 hr173 => ?_
      have mk175 := mo_setL mu151 (repL_snoc (e := (fun y_ : (Str × Str × Str) => (eWord A y_))) (xs := ys148) (y := (x156.1, x156.2.1, x156.2.2)) hr173 h169)
      replace h2 := rep_put (o := .lst (vs172 ++ [(V.ref p168)])) mu151.im h2
      replace h8 := rep_put (o := .lst (vs172 ++ [(V.ref p168)])) mu151.im h8
      replace h12 := rep_put (o := .lst (vs172 ++ [(V.ref p168)])) mu151.im h12
      replace h18 := rep_put (o := .lst (vs172 ++ [(V.ref p168)])) mu151.im h18
      replace h22 := rep_put (o := .lst (vs172 ++ [(V.ref p168)])) mu151.im h22
      replace h27 := rep_put (o := .lst (vs172 ++ [(V.ref p168)])) mu151.im h27
      replace h34 := rep_put (o := .lst (vs172 ++ [(V.ref p168)])) mu151.im h34
      replace h48 := rep_put (o := .lst (vs172 ++ [(V.ref p168)])) mu151.im h48
      replace h53 := rep_put (o := .lst (vs172 ++ [(V.ref p168)])) mu151.im h53
      replace h67 := rep_put (o := .lst (vs172 ++ [(V.ref p168)])) mu151.im h67
      replace h78 := rep_put (o := .lst (vs172 ++ [(V.ref p168)])) mu151.im h78
      replace h94 := rep_put (o := .lst (vs172 ++ [(V.ref p168)])) mu151.im h94
      replace h105 := rep_put (o := .lst (vs172 ++ [(V.ref p168)])) mu151.im h105
      replace h129 := rep_put (o := .lst (vs172 ++ [(V.ref p168)])) mu151.im h129
      replace h139 := rep_put (o := .lst (vs172 ++ [(V.ref p168)])) mu151.im h139
      replace hk150 := keep_put (o := .lst (vs172 ++ [(V.ref p168)])) mu151.im hk150
      replace h158 := rep_put (o := .lst (vs172 ++ [(V.ref p168)])) mu151.im h158
      replace h169 := rep_put (o := .lst (vs172 ++ [(V.ref p168)])) mu151.im h169
      replace hW := wd_put (o := .lst (vs172 ++ [(V.ref p168)])) hW mu151
      replace mu151 := mk175
      generalize upd H171 L145 (.lst (vs172 ++ [(V.ref p168)])) = H176 at *
      replace mu151 : MutO (L145 :: ms) [ap] H_0 H176 L145 (D.lst ((ys148 ++ [(x156.1, x156.2.1, x156.2.2)]).map (fun y_ : (Str × Str × Str) => (eWord A y_)))) := mu151
      clear mk175
      exact hN153 (x156.1, x156.2.1, x156.2.2) _ hM ⟨hW, hk150, mu151, by rw [List.length_append]; exact Nat.add_le_add_right ln152 1⟩
    · skip
      rintro n147 ys177 H178 hM ⟨hW, hk150, mu151, ln152⟩
      replace h2 := rep_keep hk150 (rep_new nl146 h2)
      replace h8 := rep_keep hk150 (rep_new nl146 h8)
      replace h12 := rep_keep hk150 (rep_new nl146 h12)
      replace h18 := rep_keep hk150 (rep_new nl146 h18)
      replace h22 := rep_keep hk150 (rep_new nl146 h22)
      replace h27 := rep_keep hk150 (rep_new nl146 h27)
      replace h34 := rep_keep hk150 (rep_new nl146 h34)
      replace h48 := rep_keep hk150 (rep_new nl146 h48)
      replace h53 := rep_keep hk150 (rep_new nl146 h53)
      replace h67 := rep_keep hk150 (rep_new nl146 h67)
      replace h78 := rep_keep hk150 (rep_new nl146 h78)
      replace h94 := rep_keep hk150 (rep_new nl146 h94)
      replace h105 := rep_keep hk150 (rep_new nl146 h105)
      replace h129 := rep_keep hk150 (rep_new nl146 h129)
      replace h139 := rep_keep hk150 (rep_new nl146 h139)
      clear hk150 ln152
      have h179 := mo_rep_dr dr_here nm160 mu151
      replace hW := wd_dr dr_here mu151.hp hW
      replace h2 := rep_dr dr_here h2
      replace h8 := rep_dr dr_here h8
      replace h12 := rep_dr dr_here h12
      replace h18 := rep_dr dr_here h18
      replace h22 := rep_dr dr_here h22
      replace h27 := rep_dr dr_here h27
      replace h34 := rep_dr dr_here h34
      replace h48 := rep_dr dr_here h48
      replace h53 := rep_dr dr_here h53
      replace h67 := rep_dr dr_here h67
      replace h78 := rep_dr dr_here h78
      replace h94 := rep_dr dr_here h94
      replace h105 := rep_dr dr_here h105
      replace h129 := rep_dr dr_here h129
      replace h139 := rep_dr dr_here h139
      clear mu151
      refine ⟨_, rfl, ?_⟩
      apply rep_iter h179
      intro a180 xs181 _ an182 hp183 hl184
      refine fun L185 nl186 => ?_
      have nm200 := nm_new hW nl186
      refine lc_listG (L := L185) (fun n_ ys_ h_ => Wd (L185 :: ms) [ap] [] H_0 h_ ∧ Keep (L185 :: ms) H178 h_ ∧ MutO (L185 :: ms) [ap] H_0 h_ L185 (D.lst (ys_.map (fun y_ : Str => (D.v (V.str y_))))) ∧ ys_.length ≤ n_) (items := ys177) (e := (fun y_ : (Str × Str × Str) => (eWord A y_))) an182 hp183 hl184 nl186 (fun _ _ _ q_ => q_.2.1) hM ⟨wd_cell hW nl186, keep_cell nl186 Keep.refl, mo_newL (ds := []) hW nl186 repL_nil, Nat.le_refl _⟩ ?_ ?_
      · skip
        rintro x196 u197 n187 ys188 k189 H201 hn ⟨hW, hk190, mu191, ln192⟩ h198 hM Nx195 hN193
        replace h2 := rep_keep hk190 (rep_new nl186 h2)
        replace h8 := rep_keep hk190 (rep_new nl186 h8)
        replace h12 := rep_keep hk190 (rep_new nl186 h12)
        replace h18 := rep_keep hk190 (rep_new nl186 h18)
        replace h22 := rep_keep hk190 (rep_new nl186 h22)
        replace h27 := rep_keep hk190 (rep_new nl186 h27)
        replace h34 := rep_keep hk190 (rep_new nl186 h34)
        replace h48 := rep_keep hk190 (rep_new nl186 h48)
        replace h53 := rep_keep hk190 (rep_new nl186 h53)
        replace h67 := rep_keep hk190 (rep_new nl186 h67)
        replace h78 := rep_keep hk190 (rep_new nl186 h78)
        replace h94 := rep_keep hk190 (rep_new nl186 h94)
        replace h105 := rep_keep hk190 (rep_new nl186 h105)
        replace h129 := rep_keep hk190 (rep_new nl186 h129)
        replace h139 := rep_keep hk190 (rep_new nl186 h139)
        replace h179 := rep_keep hk190 (rep_new nl186 h179)
        refine ⟨rfl, ?_⟩
        refine tyes_of ?_
        refine ⟨_, rfl, ?_⟩
        apply rep_meth (m := "reduced") h198 (by decide +kernel)
        refine ⟨(L185 :: ms), _, x196, _, rfl, hW.enter0, h198, hM, fun r202 u205 H206 hM e204 h203 => ?_⟩
        replace h2 := rep_ext e204 h2
        replace h8 := rep_ext e204 h8
        replace h12 := rep_ext e204 h12
        replace h18 := rep_ext e204 h18
        replace h22 := rep_ext e204 h22
        replace h27 := rep_ext e204 h27
        replace h34 := rep_ext e204 h34
        replace h48 := rep_ext e204 h48
        replace h53 := rep_ext e204 h53
        replace h67 := rep_ext e204 h67
        replace h78 := rep_ext e204 h78
        replace h94 := rep_ext e204 h94
        replace h105 := rep_ext e204 h105
        replace h129 := rep_ext e204 h129
        replace h139 := rep_ext e204 h139
        replace h179 := rep_ext e204 h179
        replace hk190 := keep_ext e204 hk190
        replace h198 := rep_ext e204 h198
        replace mu191 := mo_ext e204 mu191
        replace hW := hW.ret0 e204
        apply rep_ownText h203
        refine ⟨(L185 :: ms), _, r202, _, rfl, hW.enter0, h203, hM, fun r207 u210 H211 hM e209 h208 => ?_⟩
        replace h2 := rep_ext e209 h2
        replace h8 := rep_ext e209 h8
        replace h12 := rep_ext e209 h12
        replace h18 := rep_ext e209 h18
        replace h22 := rep_ext e209 h22
        replace h27 := rep_ext e209 h27
        replace h34 := rep_ext e209 h34
        replace h48 := rep_ext e209 h48
        replace h53 := rep_ext e209 h53
        replace h67 := rep_ext e209 h67
        replace h78 := rep_ext e209 h78
        replace h94 := rep_ext e209 h94
        replace h105 := rep_ext e209 h105
        replace h129 := rep_ext e209 h129
        replace h139 := rep_ext e209 h139
        replace h179 := rep_ext e209 h179
        replace hk190 := keep_ext e209 hk190
        replace h198 := rep_ext e209 h198
        replace h203 := rep_ext e209 h203
        replace mu191 := mo_ext e209 mu191
        replace hW := hW.ret0 e209
        obtain rfl := of_v h208
        refine ⟨_, rfl, ?_⟩
        refine mo_end mu191 hn (by rw [List.length_map]; exact ln192) fun vs212 hr213 => ?_
        have mk215 := mo_setL mu191 (repL_snoc (e := (fun y_ : Str => (D.v (V.str y_)))) (xs := ys188) (y := r207) hr213 rep_v)
        replace h2 := rep_put (o := .lst (vs212 ++ [V.str r207])) mu191.im h2
        replace h8 := rep_put (o := .lst (vs212 ++ [V.str r207])) mu191.im h8
        replace h12 := rep_put (o := .lst (vs212 ++ [V.str r207])) mu191.im h12
        replace h18 := rep_put (o := .lst (vs212 ++ [V.str r207])) mu191.im h18
        replace h22 := rep_put (o := .lst (vs212 ++ [V.str r207])) mu191.im h22
        replace h27 := rep_put (o := .lst (vs212 ++ [V.str r207])) mu191.im h27
        replace h34 := rep_put (o := .lst (vs212 ++ [V.str r207])) mu191.im h34
        replace h48 := rep_put (o := .lst (vs212 ++ [V.str r207])) mu191.im h48
        replace h53 := rep_put (o := .lst (vs212 ++ [V.str r207])) mu191.im h53
        replace h67 := rep_put (o := .lst (vs212 ++ [V.str r207])) mu191.im h67
        replace h78 := rep_put (o := .lst (vs212 ++ [V.str r207])) mu191.im h78
        replace h94 := rep_put (o := .lst (vs212 ++ [V.str r207])) mu191.im h94
        replace h105 := rep_put (o := .lst (vs212 ++ [V.str r207])) mu191.im h105
        replace h129 := rep_put (o := .lst (vs212 ++ [V.str r207])) mu191.im h129
        replace h139 := rep_put (o := .lst (vs212 ++ [V.str r207])) mu191.im h139
        replace h179 := rep_put (o := .lst (vs212 ++ [V.str r207])) mu191.im h179
        replace hk190 := keep_put (o := .lst (vs212 ++ [V.str r207])) mu191.im hk190
        replace h198 := rep_put (o := .lst (vs212 ++ [V.str r207])) mu191.im h198
        replace h203 := rep_put (o := .lst (vs212 ++ [V.str r207])) mu191.im h203
        replace hW := wd_put (o := .lst (vs212 ++ [V.str r207])) hW mu191
        replace mu191 := mk215
        generalize upd H211 L185 (.lst (vs212 ++ [V.str r207])) = H216 at *
        replace mu191 : MutO (L185 :: ms) [ap] H_0 H216 L185 (D.lst ((ys188 ++ [r207]).map (fun y_ : Str => (D.v (V.str y_))))) := mu191
        clear mk215
        exact hN193 r207 _ hM ⟨hW, hk190, mu191, by rw [List.length_append]; exact Nat.add_le_add_right ln192 1⟩
      · skip
        rintro n187 ys217 H218 hM ⟨hW, hk190, mu191, ln192⟩
        replace h2 := rep_keep hk190 (rep_new nl186 h2)
        replace h8 := rep_keep hk190 (rep_new nl186 h8)
        replace h12 := rep_keep hk190 (rep_new nl186 h12)
        replace h18 := rep_keep hk190 (rep_new nl186 h18)
        replace h22 := rep_keep hk190 (rep_new nl186 h22)
        replace h27 := rep_keep hk190 (rep_new nl186 h27)
        replace h34 := rep_keep hk190 (rep_new nl186 h34)
        replace h48 := rep_keep hk190 (rep_new nl186 h48)
        replace h53 := rep_keep hk190 (rep_new nl186 h53)
        replace h67 := rep_keep hk190 (rep_new nl186 h67)
        replace h78 := rep_keep hk190 (rep_new nl186 h78)
        replace h94 := rep_keep hk190 (rep_new nl186 h94)
        replace h105 := rep_keep hk190 (rep_new nl186 h105)
        replace h129 := rep_keep hk190 (rep_new nl186 h129)
        replace h139 := rep_keep hk190 (rep_new nl186 h139)
        replace h179 := rep_keep hk190 (rep_new nl186 h179)
        clear hk190 ln192
        have h219 := mo_rep_dr dr_here nm200 mu191
        replace hW := wd_dr dr_here mu191.hp hW
        replace h2 := rep_dr dr_here h2
        replace h8 := rep_dr dr_here h8
        replace h12 := rep_dr dr_here h12
        replace h18 := rep_dr dr_here h18
        replace h22 := rep_dr dr_here h22
        replace h27 := rep_dr dr_here h27
        replace h34 := rep_dr dr_here h34
        replace h48 := rep_dr dr_here h48
        replace h53 := rep_dr dr_here h53
        replace h67 := rep_dr dr_here h67
        replace h78 := rep_dr dr_here h78
        replace h94 := rep_dr dr_here h94
        replace h105 := rep_dr dr_here h105
        replace h129 := rep_dr dr_here h129
        replace h139 := rep_dr dr_here h139
        replace h179 := rep_dr dr_here h179
        clear mu191
        refine ⟨_, rfl, ?_⟩
        refine ⟨_, rfl, ?_⟩
        obtain ⟨y220, h221, hM⟩ := hM
        apply rep_ixN (e := (fun y_ : Str => (D.v (V.str y_)))) (xs := ys217) (y := y220) h219 h221
        intro u223 h222
        obtain rfl := of_v h222
        refine ⟨_, rfl, ?_⟩
        refine ⟨(by show 3 ≤ sizeLine; decide), ?_⟩
        intro p224 n228
        have e225 := Rx.Ext.new (H := H218) (o := (HO.tup [V.str ("" : Str), V.str r70, V.str ("" : Str)])) n228
        have hp226 : upd H218 p224 (HO.tup [V.str ("" : Str), V.str r70, V.str ("" : Str)]) p224 = some (HO.tup [V.str ("" : Str), V.str r70, V.str ("" : Str)]) := upd_same
        generalize upd H218 p224 (HO.tup [V.str ("" : Str), V.str r70, V.str ("" : Str)]) = H229 at e225 hp226 ⊢
        have h227 : rep ms H229 (D.tup [(D.v (V.str ("" : Str))), (D.v (V.str r70)), (D.v (V.str ("" : Str)))]) (.ref p224) := rep_tup_mk hW n228 e225 hp226 (repL_cons rep_v (repL_cons rep_v (repL_cons rep_v repL_nil)))
        replace h2 := rep_ext e225 h2
        replace h8 := rep_ext e225 h8
        replace h12 := rep_ext e225 h12
        replace h18 := rep_ext e225 h18
        replace h22 := rep_ext e225 h22
        replace h27 := rep_ext e225 h27
        replace h34 := rep_ext e225 h34
        replace h48 := rep_ext e225 h48
        replace h53 := rep_ext e225 h53
        replace h67 := rep_ext e225 h67
        replace h78 := rep_ext e225 h78
        replace h94 := rep_ext e225 h94
        replace h105 := rep_ext e225 h105
        replace h129 := rep_ext e225 h129
        replace h139 := rep_ext e225 h139
        replace h179 := rep_ext e225 h179
        replace h219 := rep_ext e225 h219
        replace hW := hW.ret0 e225
        obtain ⟨g230, hM⟩ := hM
        apply rep_repr (d := (D.tup [(D.v (V.str (("" : Str), r70, ("" : Str)).1)), (D.v (V.str (("" : Str), r70, ("" : Str)).2.1)), (D.v (V.str (("" : Str), r70, ("" : Str)).2.2))])) h227 g230.1 g230.2.1 g230.2.2.1 g230.2.2.2.1 g230.2.2.2.2
        obtain ⟨g231, hM⟩ := hM
        refine ⟨_, _, rfl, rfl, g231, ?_⟩
        refine ⟨rfl, ?_⟩
        refine ⟨_, rfl, ?_⟩
        refine ite3 hM (fun hM => ?_) (fun hM => ?_)
        · skip
          refine iteT ?_
          exact hQ false _ _ hM hW.out rep_v
        · skip
          refine ⟨_, rfl, ?_⟩
          obtain ⟨g232, g233, hM⟩ := hM
          apply rep_ixL (e := (fun y_ : Str => (D.v (V.str y_)))) (xs := ys217) h219 g232 g233
          intro u236 h234
          obtain ⟨x235, x235e⟩ : ∃ x_, x_ = ys217[Int.toNat (0 : Int)]'g233 := ⟨_, rfl⟩
          rw [← x235e] at h234
          replace hM := hM x235 x235e
          obtain rfl := of_v h234
          refine ⟨_, rfl, ?_⟩
          obtain ⟨g237, g238, hM⟩ := hM
          apply rep_ixL (e := (fun y_ : Str => (D.v (V.str y_)))) (xs := ys217) h219 g237 g238
          intro u241 h239
          obtain ⟨x240, x240e⟩ : ∃ x_, x_ = ys217[Int.toNat (2 : Int)]'g238 := ⟨_, rfl⟩
          rw [← x240e] at h239
          replace hM := hM x240 x240e
          obtain rfl := of_v h239
          refine ⟨rfl, ?_⟩
          refine ⟨_, rfl, ?_⟩
          refine ite3 hM (fun hM => ?_) (fun hM => ?_)
          · skip
            refine iteT ?_
            exact hQ false _ _ hM hW.out rep_v
          · skip
            refine ⟨_, rfl, ?_⟩
            obtain ⟨g242, g243, hM⟩ := hM
            apply rep_ixL (e := (fun y_ : Str => (D.v (V.str y_)))) (xs := ys217) h219 g242 g243
            intro u246 h244
            obtain ⟨x245, x245e⟩ : ∃ x_, x_ = ys217[Int.toNat (1 : Int)]'g243 := ⟨_, rfl⟩
            rw [← x245e] at h244
            replace hM := hM x245 x245e
            obtain rfl := of_v h244
            refine ⟨_, rfl, ?_⟩
            obtain ⟨g247, g248, hM⟩ := hM
            apply rep_ixL (e := (fun y_ : Str => (D.v (V.str y_)))) (xs := ys217) h219 g247 g248
            intro u251 h249
            obtain ⟨x250, x250e⟩ : ∃ x_, x_ = ys217[Int.toNat (3 : Int)]'g248 := ⟨_, rfl⟩
            rw [← x250e] at h249
            replace hM := hM x250 x250e
            obtain rfl := of_v h249
            refine ⟨rfl, ?_⟩
            refine ⟨_, rfl, ?_⟩
            refine ite3 hM (fun hM => ?_) (fun hM => ?_)
            · skip
              exact hQ false _ _ hM hW.out rep_v
            · skip
              refine ⟨(by show 0 ≤ sizeLine; decide), ?_⟩
              intro L252 nl253
              have nm254 := nm_new hW nl253
              have mu255 := mo_newL (ds := ([] : List (Int × Int)).map (fun y_ : (Int × Int) => (D.tup [(D.v (V.int y_.1)), (D.v (V.int y_.2))]))) (vs := []) hW nl253 repL_nil
              replace h2 := rep_cell (o := .lst []) nl253 h2
              replace h8 := rep_cell (o := .lst []) nl253 h8
              replace h12 := rep_cell (o := .lst []) nl253 h12
              replace h18 := rep_cell (o := .lst []) nl253 h18
              replace h22 := rep_cell (o := .lst []) nl253 h22
              replace h27 := rep_cell (o := .lst []) nl253 h27
              replace h34 := rep_cell (o := .lst []) nl253 h34
              replace h48 := rep_cell (o := .lst []) nl253 h48
              replace h53 := rep_cell (o := .lst []) nl253 h53
              replace h67 := rep_cell (o := .lst []) nl253 h67
              replace h78 := rep_cell (o := .lst []) nl253 h78
              replace h94 := rep_cell (o := .lst []) nl253 h94
              replace h105 := rep_cell (o := .lst []) nl253 h105
              replace h129 := rep_cell (o := .lst []) nl253 h129
              replace h139 := rep_cell (o := .lst []) nl253 h139
              replace h179 := rep_cell (o := .lst []) nl253 h179
              replace h219 := rep_cell (o := .lst []) nl253 h219
              replace h227 := rep_cell (o := .lst []) nl253 h227
              replace hW := wd_cell (o := .lst []) hW nl253
              generalize upd H229 L252 (.lst []) = H256 at *
              replace mu255 : MutO (L252 :: ms) [ap] H_0 H256 L252 (D.lst (([] : List (Int × Int)).map (fun y_ : (Int × Int) => (D.tup [(D.v (V.int y_.1)), (D.v (V.int y_.2))])))) := mu255
              refine ⟨_, rfl, ?_⟩
              apply rep_lenL (e := (fun y_ : (Str × Str × Str) => (D.tup [(D.v (V.str y_.1)), (D.v (V.str y_.2.1)), (D.v (V.str y_.2.2))]))) (xs := (((r1 ++ ([r11, r26] : List (Str × Str × Str))) ++ [r52]) ++ [((Txt.mul r70 x111), (Txt.mul r70 x117), (Txt.mul r70 x123))])) h139
              refine ⟨_, rfl, ?_⟩
              refine for_rangeG (S := (List (Int × Int))) (lo := (0 : Int)) (hi := ((((r1 ++ ([r11, r26] : List (Str × Str × Str))) ++ [r52]) ++ [((Txt.mul r70 x111), (Txt.mul r70 x117), (Txt.mul r70 x123))]).length : Int)) (N := Int.toNat ((((r1 ++ ([r11, r26] : List (Str × Str × Str))) ++ [r52]) ++ [((Txt.mul r70 x111), (Txt.mul r70 x117), (Txt.mul r70 x123))]).length : Int)) (fun (s : (List (Int × Int))) σ_ h_ => ∃ (w_0 : Option V), σ_ = [some (V.ref ap), some (V.ref L38), some (V.str r70), some (V.ref p102), some (V.ref L145), some (V.ref L185), some (V.ref L252), w_0, none, none, none] ∧ Wd (L252 :: ms) [ap] [] H_0 h_ ∧ Keep (L252 :: ms) H256 h_ ∧ MutO (L252 :: ms) [ap] H_0 h_ L252 (D.lst (s.map (fun y_ : (Int × Int) => (D.tup [(D.v (V.int y_.1)), (D.v (V.int y_.2))]))))) (([] : List (Int × Int))) (by simp) hM ⟨_, rfl, hW, Keep.refl, mu255⟩ ?_ ?_
              · skip
                clear mu255
                rintro x257 s259 k260 _ H267 ⟨w265, rfl, hW, hk261, mu266⟩ hM Nx263 hN264
                replace h2 := rep_keep hk261 h2
                replace h8 := rep_keep hk261 h8
                replace h12 := rep_keep hk261 h12
                replace h18 := rep_keep hk261 h18
                replace h22 := rep_keep hk261 h22
                replace h27 := rep_keep hk261 h27
                replace h34 := rep_keep hk261 h34
                replace h48 := rep_keep hk261 h48
                replace h53 := rep_keep hk261 h53
                replace h67 := rep_keep hk261 h67
                replace h78 := rep_keep hk261 h78
                replace h94 := rep_keep hk261 h94
                replace h105 := rep_keep hk261 h105
                replace h129 := rep_keep hk261 h129
                replace h139 := rep_keep hk261 h139
                replace h179 := rep_keep hk261 h179
                replace h219 := rep_keep hk261 h219
                replace h227 := rep_keep hk261 h227
                refine ⟨_, rfl, ?_⟩
                refine ⟨mo_tyL mu266, ?_⟩
                refine ⟨_, rfl, ?_⟩
                apply rep_lenL (e := (fun y_ : (Str × Str × Str) => (D.tup [(D.v (V.str y_.1)), (D.v (V.str y_.2.1)), (D.v (V.str y_.2.2))]))) (xs := (((r1 ++ ([r11, r26] : List (Str × Str × Str))) ++ [r52]) ++ [((Txt.mul r70 x111), (Txt.mul r70 x117), (Txt.mul r70 x123))])) h139
                refine ⟨_, rfl, ?_⟩
                refine fun L268 nl269 => ?_
                have nm283 := nm_new hW nl269
                have kn284 := keep_none (w := hW) nl269 hk261
                have ne285 := mo_ne nl269 mu266
                refine lc_rangeG (L := L268) (fun n_ ys_ h_ => Wd (L268 :: (L252 :: ms)) [ap] [] H_0 h_ ∧ Keep (L268 :: (L252 :: ms)) H267 h_ ∧ MutO (L268 :: (L252 :: ms)) [ap] H_0 h_ L268 (D.lst (ys_.map (fun y_ : (Int × Int) => (D.tup [(D.v (V.int y_.1)), (D.v (V.int y_.2))])))) ∧ ys_.length ≤ n_ ∧ MutO (L268 :: (L252 :: ms)) [ap] H_0 h_ L252 (D.lst (s259.map (fun y_ : (Int × Int) => (D.tup [(D.v (V.int y_.1)), (D.v (V.int y_.2))]))))) (lo := (0 : Int)) (hi := ((((r1 ++ ([r11, r26] : List (Str × Str × Str))) ++ [r52]) ++ [((Txt.mul r70 x111), (Txt.mul r70 x117), (Txt.mul r70 x123))]).length : Int)) (N := Int.toNat ((((r1 ++ ([r11, r26] : List (Str × Str × Str))) ++ [r52]) ++ [((Txt.mul r70 x111), (Txt.mul r70 x117), (Txt.mul r70 x123))]).length : Int)) (by simp) hM ⟨wd_cell hW nl269, keep_cell nl269 Keep.refl, mo_newL (ds := []) hW nl269 repL_nil, Nat.le_refl _, mo_cell nl269 mu266⟩ ?_ ?_
                · skip
                  clear mu266
                  rintro x279  n270 ys271 k272 H286 hn ⟨hW, hk273, mu274, ln275, mu287⟩ hM Nx278 hN276
                  replace h2 := rep_keep hk273 (rep_new nl269 h2)
                  replace h8 := rep_keep hk273 (rep_new nl269 h8)
                  replace h12 := rep_keep hk273 (rep_new nl269 h12)
                  replace h18 := rep_keep hk273 (rep_new nl269 h18)
                  replace h22 := rep_keep hk273 (rep_new nl269 h22)
                  replace h27 := rep_keep hk273 (rep_new nl269 h27)
                  replace h34 := rep_keep hk273 (rep_new nl269 h34)
                  replace h48 := rep_keep hk273 (rep_new nl269 h48)
                  replace h53 := rep_keep hk273 (rep_new nl269 h53)
                  replace h67 := rep_keep hk273 (rep_new nl269 h67)
                  replace h78 := rep_keep hk273 (rep_new nl269 h78)
                  replace h94 := rep_keep hk273 (rep_new nl269 h94)
                  replace h105 := rep_keep hk273 (rep_new nl269 h105)
                  replace h129 := rep_keep hk273 (rep_new nl269 h129)
                  replace h139 := rep_keep hk273 (rep_new nl269 h139)
                  replace h179 := rep_keep hk273 (rep_new nl269 h179)
                  replace h219 := rep_keep hk273 (rep_new nl269 h219)
                  replace h227 := rep_keep hk273 (rep_new nl269 h227)
                  replace hk261 := Keep.trans (Keep.new hk261) hk273
                  refine ⟨rfl, ?_⟩
                  refine tyes_of ?_
                  refine ⟨_, rfl, ?_⟩
                  refine ⟨_, rfl, ?_⟩
                  refine ⟨(by show 2 ≤ sizeLine; decide), ?_⟩
                  intro p288 n292
                  have e289 := Rx.Ext.new (H := H286) (o := (HO.tup [V.int x257, V.int x279])) n292
                  have hp290 : upd H286 p288 (HO.tup [V.int x257, V.int x279]) p288 = some (HO.tup [V.int x257, V.int x279]) := upd_same
                  generalize upd H286 p288 (HO.tup [V.int x257, V.int x279]) = H293 at e289 hp290 ⊢
                  have h291 : rep (L268 :: (L252 :: ms)) H293 (D.tup [(D.v (V.int x257)), (D.v (V.int x279))]) (.ref p288) := rep_tup_mk hW n292 e289 hp290 (repL_cons rep_v (repL_cons rep_v repL_nil))
                  replace h2 := rep_ext e289 h2
                  replace h8 := rep_ext e289 h8
                  replace h12 := rep_ext e289 h12
                  replace h18 := rep_ext e289 h18
                  replace h22 := rep_ext e289 h22
                  replace h27 := rep_ext e289 h27
                  replace h34 := rep_ext e289 h34
                  replace h48 := rep_ext e289 h48
                  replace h53 := rep_ext e289 h53
                  replace h67 := rep_ext e289 h67
                  replace h78 := rep_ext e289 h78
                  replace h94 := rep_ext e289 h94
                  replace h105 := rep_ext e289 h105
                  replace h129 := rep_ext e289 h129
                  replace h139 := rep_ext e289 h139
                  replace h179 := rep_ext e289 h179
                  replace h219 := rep_ext e289 h219
                  replace h227 := rep_ext e289 h227
                  replace hk261 := keep_ext e289 hk261
                  replace hk273 := keep_ext e289 hk273
                  replace mu287 := mo_ext e289 mu287
                  replace mu274 := mo_ext e289 mu274
                  replace hW := hW.ret0 e289
                  refine mo_end mu274 hn (by rw [List.length_map]; exact ln275) fun vs294 hr295 => ?_
                  have mk297 := mo_setL mu274 (repL_snoc (e := (fun y_ : (Int × Int) => (D.tup [(D.v (V.int y_.1)), (D.v (V.int y_.2))]))) (xs := ys271) (y := (x257, x279)) hr295 h291)
                  replace mu287 := mo_put (o := .lst (vs294 ++ [(V.ref p288)])) mu274.im ne285 mu287
                  replace h2 := rep_put (o := .lst (vs294 ++ [(V.ref p288)])) mu274.im h2
                  replace h8 := rep_put (o := .lst (vs294 ++ [(V.ref p288)])) mu274.im h8
                  replace h12 := rep_put (o := .lst (vs294 ++ [(V.ref p288)])) mu274.im h12
                  replace h18 := rep_put (o := .lst (vs294 ++ [(V.ref p288)])) mu274.im h18
                  replace h22 := rep_put (o := .lst (vs294 ++ [(V.ref p288)])) mu274.im h22
                  replace h27 := rep_put (o := .lst (vs294 ++ [(V.ref p288)])) mu274.im h27
                  replace h34 := rep_put (o := .lst (vs294 ++ [(V.ref p288)])) mu274.im h34
                  replace h48 := rep_put (o := .lst (vs294 ++ [(V.ref p288)])) mu274.im h48
                  replace h53 := rep_put (o := .lst (vs294 ++ [(V.ref p288)])) mu274.im h53
                  replace h67 := rep_put (o := .lst (vs294 ++ [(V.ref p288)])) mu274.im h67
                  replace h78 := rep_put (o := .lst (vs294 ++ [(V.ref p288)])) mu274.im h78
                  replace h94 := rep_put (o := .lst (vs294 ++ [(V.ref p288)])) mu274.im h94
                  replace h105 := rep_put (o := .lst (vs294 ++ [(V.ref p288)])) mu274.im h105
                  replace h129 := rep_put (o := .lst (vs294 ++ [(V.ref p288)])) mu274.im h129
                  replace h139 := rep_put (o := .lst (vs294 ++ [(V.ref p288)])) mu274.im h139
                  replace h179 := rep_put (o := .lst (vs294 ++ [(V.ref p288)])) mu274.im h179
                  replace h219 := rep_put (o := .lst (vs294 ++ [(V.ref p288)])) mu274.im h219
                  replace h227 := rep_put (o := .lst (vs294 ++ [(V.ref p288)])) mu274.im h227
                  replace hk261 := keep_put (o := .lst (vs294 ++ [(V.ref p288)])) mu274.im hk261
                  replace hk273 := keep_put (o := .lst (vs294 ++ [(V.ref p288)])) mu274.im hk273
                  replace h291 := rep_put (o := .lst (vs294 ++ [(V.ref p288)])) mu274.im h291
                  replace hW := wd_put (o := .lst (vs294 ++ [(V.ref p288)])) hW mu274
                  replace mu274 := mk297
                  generalize upd H293 L268 (.lst (vs294 ++ [(V.ref p288)])) = H298 at *
                  replace mu274 : MutO (L268 :: (L252 :: ms)) [ap] H_0 H298 L268 (D.lst ((ys271 ++ [(x257, x279)]).map (fun y_ : (Int × Int) => (D.tup [(D.v (V.int y_.1)), (D.v (V.int y_.2))])))) := mu274
                  clear mk297
                  exact hN276 (x257, x279) _ hM ⟨hW, hk273, mu274, by rw [List.length_append]; exact Nat.add_le_add_right ln275 1, mu287⟩
                · skip
                  clear mu266
                  rintro n270 ys299 H300 hM ⟨hW, hk273, mu274, ln275, mu301⟩
                  replace h2 := rep_keep hk273 (rep_new nl269 h2)
                  replace h8 := rep_keep hk273 (rep_new nl269 h8)
                  replace h12 := rep_keep hk273 (rep_new nl269 h12)
                  replace h18 := rep_keep hk273 (rep_new nl269 h18)
                  replace h22 := rep_keep hk273 (rep_new nl269 h22)
                  replace h27 := rep_keep hk273 (rep_new nl269 h27)
                  replace h34 := rep_keep hk273 (rep_new nl269 h34)
                  replace h48 := rep_keep hk273 (rep_new nl269 h48)
                  replace h53 := rep_keep hk273 (rep_new nl269 h53)
                  replace h67 := rep_keep hk273 (rep_new nl269 h67)
                  replace h78 := rep_keep hk273 (rep_new nl269 h78)
                  replace h94 := rep_keep hk273 (rep_new nl269 h94)
                  replace h105 := rep_keep hk273 (rep_new nl269 h105)
                  replace h129 := rep_keep hk273 (rep_new nl269 h129)
                  replace h139 := rep_keep hk273 (rep_new nl269 h139)
                  replace h179 := rep_keep hk273 (rep_new nl269 h179)
                  replace h219 := rep_keep hk273 (rep_new nl269 h219)
                  replace h227 := rep_keep hk273 (rep_new nl269 h227)
                  replace hk261 := Keep.trans (Keep.new hk261) hk273
                  clear hk273 ln275
                  have h302 := mo_rep_dr dr_here nm283 mu274
                  replace hW := wd_dr dr_here mu274.hp hW
                  replace h2 := rep_dr dr_here h2
                  replace h8 := rep_dr dr_here h8
                  replace h12 := rep_dr dr_here h12
                  replace h18 := rep_dr dr_here h18
                  replace h22 := rep_dr dr_here h22
                  replace h27 := rep_dr dr_here h27
                  replace h34 := rep_dr dr_here h34
                  replace h48 := rep_dr dr_here h48
                  replace h53 := rep_dr dr_here h53
                  replace h67 := rep_dr dr_here h67
                  replace h78 := rep_dr dr_here h78
                  replace h94 := rep_dr dr_here h94
                  replace h105 := rep_dr dr_here h105
                  replace h129 := rep_dr dr_here h129
                  replace h139 := rep_dr dr_here h139
                  replace h179 := rep_dr dr_here h179
                  replace h219 := rep_dr dr_here h219
                  replace h227 := rep_dr dr_here h227
                  replace hk261 := keep_dr dr_here kn284 hk261
                  replace mu301 := mo_dr dr_here ne285 mu301
                  clear mu274
                  obtain ⟨g303, hM⟩ := hM
                  apply mo_extU (e := (fun y_ : (Int × Int) => (D.tup [(D.v (V.int y_.1)), (D.v (V.int y_.2))]))) (ys := ys299) mu301 h302 (by rw [List.length_map]; exact g303)
                  intro vs304 us305 hr306 hr307
                  have mk308 := mo_setL mu301 (repL_cat (e := (fun y_ : (Int × Int) => (D.tup [(D.v (V.int y_.1)), (D.v (V.int y_.2))]))) (xs := s259) (ys := ys299) hr306 hr307)
                  replace h2 := rep_put (o := .lst (vs304 ++ us305)) mu301.im h2
                  replace h8 := rep_put (o := .lst (vs304 ++ us305)) mu301.im h8
                  replace h12 := rep_put (o := .lst (vs304 ++ us305)) mu301.im h12
                  replace h18 := rep_put (o := .lst (vs304 ++ us305)) mu301.im h18
                  replace h22 := rep_put (o := .lst (vs304 ++ us305)) mu301.im h22
                  replace h27 := rep_put (o := .lst (vs304 ++ us305)) mu301.im h27
                  replace h34 := rep_put (o := .lst (vs304 ++ us305)) mu301.im h34
                  replace h48 := rep_put (o := .lst (vs304 ++ us305)) mu301.im h48
                  replace h53 := rep_put (o := .lst (vs304 ++ us305)) mu301.im h53
                  replace h67 := rep_put (o := .lst (vs304 ++ us305)) mu301.im h67
                  replace h78 := rep_put (o := .lst (vs304 ++ us305)) mu301.im h78
                  replace h94 := rep_put (o := .lst (vs304 ++ us305)) mu301.im h94
                  replace h105 := rep_put (o := .lst (vs304 ++ us305)) mu301.im h105
                  replace h129 := rep_put (o := .lst (vs304 ++ us305)) mu301.im h129
                  replace h139 := rep_put (o := .lst (vs304 ++ us305)) mu301.im h139
                  replace h179 := rep_put (o := .lst (vs304 ++ us305)) mu301.im h179
                  replace h219 := rep_put (o := .lst (vs304 ++ us305)) mu301.im h219
                  replace h227 := rep_put (o := .lst (vs304 ++ us305)) mu301.im h227
                  replace hk261 := keep_put (o := .lst (vs304 ++ us305)) mu301.im hk261
                  replace h302 := rep_put (o := .lst (vs304 ++ us305)) mu301.im h302
                  replace hW := wd_put (o := .lst (vs304 ++ us305)) hW mu301
                  replace mu301 := mk308
                  generalize upd H300 L252 (.lst (vs304 ++ us305)) = H309 at *
                  replace mu301 : MutO (L252 :: ms) [ap] H_0 H309 L252 (D.lst ((s259 ++ ys299).map (fun y_ : (Int × Int) => (D.tup [(D.v (V.int y_.1)), (D.v (V.int y_.2))])))) := mu301
                  clear mk308
                  exact hN264 ((s259 ++ ys299)) _ _ hM ⟨_, rfl, hW, hk261, mu301⟩
              · skip
                clear mu255
                rintro s310 _ H314 hM ⟨w312, rfl, hW, hk311, mu313⟩
                replace h2 := rep_keep hk311 h2
                replace h8 := rep_keep hk311 h8
                replace h12 := rep_keep hk311 h12
                replace h18 := rep_keep hk311 h18
                replace h22 := rep_keep hk311 h22
                replace h27 := rep_keep hk311 h27
                replace h34 := rep_keep hk311 h34
                replace h48 := rep_keep hk311 h48
                replace h53 := rep_keep hk311 h53
                replace h67 := rep_keep hk311 h67
                replace h78 := rep_keep hk311 h78
                replace h94 := rep_keep hk311 h94
                replace h105 := rep_keep hk311 h105
                replace h129 := rep_keep hk311 h129
                replace h139 := rep_keep hk311 h139
                replace h179 := rep_keep hk311 h179
                replace h219 := rep_keep hk311 h219
                replace h227 := rep_keep hk311 h227
                have h315 := mo_rep_dr dr_here nm254 mu313
                replace hW := wd_dr dr_here mu313.hp hW
                replace h2 := rep_dr dr_here h2
                replace h8 := rep_dr dr_here h8
                replace h12 := rep_dr dr_here h12
                replace h18 := rep_dr dr_here h18
                replace h22 := rep_dr dr_here h22
                replace h27 := rep_dr dr_here h27
                replace h34 := rep_dr dr_here h34
                replace h48 := rep_dr dr_here h48
                replace h53 := rep_dr dr_here h53
                replace h67 := rep_dr dr_here h67
                replace h78 := rep_dr dr_here h78
                replace h94 := rep_dr dr_here h94
                replace h105 := rep_dr dr_here h105
                replace h129 := rep_dr dr_here h129
                replace h139 := rep_dr dr_here h139
                replace h179 := rep_dr dr_here h179
                replace h219 := rep_dr dr_here h219
                replace h227 := rep_dr dr_here h227
                clear mu313
                refine ⟨_, rfl, ?_⟩
                refine ⟨_, rfl, ?_⟩
                refine ⟨ms, ap, _, s310, _, rfl, hW.enterP, h315, hM, fun r316 u319 H320 hM e318 h317 => ?_⟩
                replace h2 := rep_ret hW e318 h2
                replace h8 := rep_ret hW e318 h8
                replace h12 := rep_ret hW e318 h12
                replace h18 := rep_ret hW e318 h18
                replace h22 := rep_ret hW e318 h22
                replace h27 := rep_ret hW e318 h27
                replace h34 := rep_ret hW e318 h34
                replace h48 := rep_ret hW e318 h48
                replace h53 := rep_ret hW e318 h53
                replace h67 := rep_ret hW e318 h67
                replace h78 := rep_ret hW e318 h78
                replace h94 := rep_ret hW e318 h94
                replace h105 := rep_ret hW e318 h105
                replace h129 := rep_ret hW e318 h129
                replace h139 := rep_ret hW e318 h139
                replace h179 := rep_ret hW e318 h179
                replace h219 := rep_ret hW e318 h219
                replace h227 := rep_ret hW e318 h227
                replace h315 := rep_ret hW e318 h315
                replace hW := hW.retP e318
                refine ⟨_, rfl, ?_⟩
                refine ⟨_, rfl, ?_⟩
                refine ⟨_, rfl, ?_⟩
                refine ⟨ms, _, _, _, ys177, (((r1 ++ ([r11, r26] : List (Str × Str × Str))) ++ [r52]) ++ [((Txt.mul r70 x111), (Txt.mul r70 x117), (Txt.mul r70 x123))]), r316, _, rfl, hW.enter0, h179, h139, h317, hM, fun r321 u324 H325 hM e323 h322 => ?_⟩
                replace h2 := rep_ext e323 h2
                replace h8 := rep_ext e323 h8
                replace h12 := rep_ext e323 h12
                replace h18 := rep_ext e323 h18
                replace h22 := rep_ext e323 h22
                replace h27 := rep_ext e323 h27
                replace h34 := rep_ext e323 h34
                replace h48 := rep_ext e323 h48
                replace h53 := rep_ext e323 h53
                replace h67 := rep_ext e323 h67
                replace h78 := rep_ext e323 h78
                replace h94 := rep_ext e323 h94
                replace h105 := rep_ext e323 h105
                replace h129 := rep_ext e323 h129
                replace h139 := rep_ext e323 h139
                replace h179 := rep_ext e323 h179
                replace h219 := rep_ext e323 h219
                replace h227 := rep_ext e323 h227
                replace h315 := rep_ext e323 h315
                replace h317 := rep_ext e323 h317
                replace hW := hW.ret0 e323
                obtain rfl := of_v h322
                refine ⟨_, rfl, ?_⟩
                refine ite3 hM (fun hM => ?_) (fun hM => ?_)
                · skip
                  refine iteT ?_
                  exact hQ false _ _ hM hW.out rep_v
                · skip
                  refine ⟨_, rfl, ?_⟩
                  refine ⟨_, rfl, ?_⟩
                  refine ⟨_, rfl, ?_⟩
                  apply rep_lsU h317
                  intro vs326 hr327
                  intro p328 n332
                  have e329 := Rx.Ext.new (H := H325) (o := (HO.lst (vs326.reverse))) n332
                  have hp330 : upd H325 p328 (HO.lst (vs326.reverse)) p328 = some (HO.lst (vs326.reverse)) := upd_same
                  generalize upd H325 p328 (HO.lst (vs326.reverse)) = H333 at e329 hp330 ⊢
                  have h331 : rep ms H333 (D.lst ((r316.reverse).map (fun y_ : (Int × Int) => (D.tup [(D.v (V.int y_.1)), (D.v (V.int y_.2))])))) (.ref p328) := rep_lst_mk hW n332 e329 hp330 (repL_revM (e := (fun y_ : (Int × Int) => (D.tup [(D.v (V.int y_.1)), (D.v (V.int y_.2))]))) (xs := r316) hr327)
                  replace h2 := rep_ext e329 h2
                  replace h8 := rep_ext e329 h8
                  replace h12 := rep_ext e329 h12
                  replace h18 := rep_ext e329 h18
                  replace h22 := rep_ext e329 h22
                  replace h27 := rep_ext e329 h27
                  replace h34 := rep_ext e329 h34
                  replace h48 := rep_ext e329 h48
                  replace h53 := rep_ext e329 h53
                  replace h67 := rep_ext e329 h67
                  replace h78 := rep_ext e329 h78
                  replace h94 := rep_ext e329 h94
                  replace h105 := rep_ext e329 h105
                  replace h129 := rep_ext e329 h129
                  replace h139 := rep_ext e329 h139
                  replace h179 := rep_ext e329 h179
                  replace h219 := rep_ext e329 h219
                  replace h227 := rep_ext e329 h227
                  replace h315 := rep_ext e329 h315
                  replace h317 := rep_ext e329 h317
                  replace hW := hW.ret0 e329
                  refine ⟨ms, _, _, _, ys177, (((r1 ++ ([r11, r26] : List (Str × Str × Str))) ++ [r52]) ++ [((Txt.mul r70 x111), (Txt.mul r70 x117), (Txt.mul r70 x123))]), (r316.reverse), _, rfl, hW.enter0, h179, h139, h331, hM, fun r334 u337 H338 hM e336 h335 => ?_⟩
                  replace h2 := rep_ext e336 h2
                  replace h8 := rep_ext e336 h8
                  replace h12 := rep_ext e336 h12
                  replace h18 := rep_ext e336 h18
                  replace h22 := rep_ext e336 h22
                  replace h27 := rep_ext e336 h27
                  replace h34 := rep_ext e336 h34
                  replace h48 := rep_ext e336 h48
                  replace h53 := rep_ext e336 h53
                  replace h67 := rep_ext e336 h67
                  replace h78 := rep_ext e336 h78
                  replace h94 := rep_ext e336 h94
                  replace h105 := rep_ext e336 h105
                  replace h129 := rep_ext e336 h129
                  replace h139 := rep_ext e336 h139
                  replace h179 := rep_ext e336 h179
                  replace h219 := rep_ext e336 h219
                  replace h227 := rep_ext e336 h227
                  replace h315 := rep_ext e336 h315
                  replace h317 := rep_ext e336 h317
                  replace h331 := rep_ext e336 h331
                  replace hW := hW.ret0 e336
                  obtain rfl := of_v h335
                  refine ⟨_, rfl, ?_⟩
                  refine ite3 hM (fun hM => ?_) (fun hM => ?_)
                  · skip
                    exact hQ false _ _ hM hW.out rep_v
                  · skip
                    refine ⟨_, rfl, ?_⟩
                    obtain ⟨g339, g340, hM⟩ := hM
                    apply rep_ixL (e := (fun y_ : (Str × Str × Str) => (eWord A y_))) (xs := ys177) h179 g339 g340
                    intro u343 h341
                    obtain ⟨x342, x342e⟩ : ∃ x_, x_ = ys177[Int.toNat (0 : Int)]'g340 := ⟨_, rfl⟩
                    rw [← x342e] at h341
                    replace hM := hM x342 x342e
                    refine ⟨_, rfl, ?_⟩
                    obtain ⟨g344, g345, hM⟩ := hM
                    apply rep_ixL (e := (fun y_ : (Str × Str × Str) => (eWord A y_))) (xs := ys177) h179 g344 g345
                    intro u348 h346
                    obtain ⟨x347, x347e⟩ : ∃ x_, x_ = ys177[Int.toNat (1 : Int)]'g345 := ⟨_, rfl⟩
                    rw [← x347e] at h346
                    replace hM := hM x347 x347e
                    refine ⟨ms, _, _, x342, x347, _, rfl, hW.enter0, h341, h346, hM, fun r349 u352 H353 hM e351 h350 => ?_⟩
                    replace h2 := rep_ext e351 h2
                    replace h8 := rep_ext e351 h8
                    replace h12 := rep_ext e351 h12
                    replace h18 := rep_ext e351 h18
                    replace h22 := rep_ext e351 h22
                    replace h27 := rep_ext e351 h27
                    replace h34 := rep_ext e351 h34
                    replace h48 := rep_ext e351 h48
                    replace h53 := rep_ext e351 h53
                    replace h67 := rep_ext e351 h67
                    replace h78 := rep_ext e351 h78
                    replace h94 := rep_ext e351 h94
                    replace h105 := rep_ext e351 h105
                    replace h129 := rep_ext e351 h129
                    replace h139 := rep_ext e351 h139
                    replace h179 := rep_ext e351 h179
                    replace h219 := rep_ext e351 h219
                    replace h227 := rep_ext e351 h227
                    replace h315 := rep_ext e351 h315
                    replace h317 := rep_ext e351 h317
                    replace h331 := rep_ext e351 h331
                    replace h341 := rep_ext e351 h341
                    replace h346 := rep_ext e351 h346
                    replace hW := hW.ret0 e351
                    refine ⟨rfl, ?_⟩
                    rw [rep_isN (fun _ => ⟨_, rfl⟩) h350]
                    refine ⟨_, rfl, ?_⟩
                    refine ite3 hM (fun hM => ?_) (fun hM => ?_)
                    · skip
                      exact hQ false _ _ hM hW.out rep_v
                    · skip
                      refine ⟨_, rfl, ?_⟩
                      apply rep_iter h179
                      intro a354 xs355 _ an356 hp357 hl358
                      refine fun L359 nl360 => ?_
                      have nm374 := nm_new hW nl360
                      refine lc_listG (L := L359) (fun n_ ys_ h_ => Wd (L359 :: ms) [ap] [] H_0 h_ ∧ Keep (L359 :: ms) H353 h_ ∧ MutO (L359 :: ms) [ap] H_0 h_ L359 (D.lst (ys_.map (fun y_ : Str => (D.v (V.str y_))))) ∧ ys_.length ≤ n_) (items := ys177) (e := (fun y_ : (Str × Str × Str) => (eWord A y_))) an356 hp357 hl358 nl360 (fun _ _ _ q_ => q_.2.1) hM ⟨wd_cell hW nl360, keep_cell nl360 Keep.refl, mo_newL (ds := []) hW nl360 repL_nil, Nat.le_refl _⟩ ?_ ?_
                      · skip
                        rintro x370 u371 n361 ys362 k363 H375 hn ⟨hW, hk364, mu365, ln366⟩ h372 hM Nx369 hN367
                        replace h2 := rep_keep hk364 (rep_new nl360 h2)
                        replace h8 := rep_keep hk364 (rep_new nl360 h8)
                        replace h12 := rep_keep hk364 (rep_new nl360 h12)
                        replace h18 := rep_keep hk364 (rep_new nl360 h18)
                        replace h22 := rep_keep hk364 (rep_new nl360 h22)
                        replace h27 := rep_keep hk364 (rep_new nl360 h27)
                        replace h34 := rep_keep hk364 (rep_new nl360 h34)
                        replace h48 := rep_keep hk364 (rep_new nl360 h48)
                        replace h53 := rep_keep hk364 (rep_new nl360 h53)
                        replace h67 := rep_keep hk364 (rep_new nl360 h67)
                        replace h78 := rep_keep hk364 (rep_new nl360 h78)
                        replace h94 := rep_keep hk364 (rep_new nl360 h94)
                        replace h105 := rep_keep hk364 (rep_new nl360 h105)
                        replace h129 := rep_keep hk364 (rep_new nl360 h129)
                        replace h139 := rep_keep hk364 (rep_new nl360 h139)
                        replace h179 := rep_keep hk364 (rep_new nl360 h179)
                        replace h219 := rep_keep hk364 (rep_new nl360 h219)
                        replace h227 := rep_keep hk364 (rep_new nl360 h227)
                        replace h315 := rep_keep hk364 (rep_new nl360 h315)
                        replace h317 := rep_keep hk364 (rep_new nl360 h317)
                        replace h331 := rep_keep hk364 (rep_new nl360 h331)
                        replace h341 := rep_keep hk364 (rep_new nl360 h341)
                        replace h346 := rep_keep hk364 (rep_new nl360 h346)
                        replace h350 := rep_keep hk364 (rep_new nl360 h350)
                        refine ⟨rfl, ?_⟩
                        refine tyes_of ?_
                        refine ⟨_, rfl, ?_⟩
                        apply rep_meth (m := "reduced") h372 (by decide +kernel)
                        refine ⟨(L359 :: ms), _, x370, _, rfl, hW.enter0, h372, hM, fun r376 u379 H380 hM e378 h377 => ?_⟩
                        replace h2 := rep_ext e378 h2
                        replace h8 := rep_ext e378 h8
                        replace h12 := rep_ext e378 h12
                        replace h18 := rep_ext e378 h18
                        replace h22 := rep_ext e378 h22
                        replace h27 := rep_ext e378 h27
                        replace h34 := rep_ext e378 h34
                        replace h48 := rep_ext e378 h48
                        replace h53 := rep_ext e378 h53
                        replace h67 := rep_ext e378 h67
                        replace h78 := rep_ext e378 h78
                        replace h94 := rep_ext e378 h94
                        replace h105 := rep_ext e378 h105
                        replace h129 := rep_ext e378 h129
                        replace h139 := rep_ext e378 h139
                        replace h179 := rep_ext e378 h179
                        replace h219 := rep_ext e378 h219
                        replace h227 := rep_ext e378 h227
                        replace h315 := rep_ext e378 h315
                        replace h317 := rep_ext e378 h317
                        replace h331 := rep_ext e378 h331
                        replace h341 := rep_ext e378 h341
                        replace h346 := rep_ext e378 h346
                        replace h350 := rep_ext e378 h350
                        replace hk364 := keep_ext e378 hk364
                        replace h372 := rep_ext e378 h372
                        replace mu365 := mo_ext e378 mu365
                        replace hW := hW.ret0 e378
                        apply rep_ownText h377
                        refine ⟨(L359 :: ms), _, r376, _, rfl, hW.enter0, h377, hM, fun r381 u384 H385 hM e383 h382 => ?_⟩
                        replace h2 := rep_ext e383 h2
                        replace h8 := rep_ext e383 h8
                        replace h12 := rep_ext e383 h12
                        replace h18 := rep_ext e383 h18
                        replace h22 := rep_ext e383 h22
                        replace h27 := rep_ext e383 h27
                        replace h34 := rep_ext e383 h34
                        replace h48 := rep_ext e383 h48
                        replace h53 := rep_ext e383 h53
                        replace h67 := rep_ext e383 h67
                        replace h78 := rep_ext e383 h78
                        replace h94 := rep_ext e383 h94
                        replace h105 := rep_ext e383 h105
                        replace h129 := rep_ext e383 h129
                        replace h139 := rep_ext e383 h139
                        replace h179 := rep_ext e383 h179
                        replace h219 := rep_ext e383 h219
                        replace h227 := rep_ext e383 h227
                        replace h315 := rep_ext e383 h315
                        replace h317 := rep_ext e383 h317
                        replace h331 := rep_ext e383 h331
                        replace h341 := rep_ext e383 h341
                        replace h346 := rep_ext e383 h346
                        replace h350 := rep_ext e383 h350
                        replace hk364 := keep_ext e383 hk364
                        replace h372 := rep_ext e383 h372
                        replace h377 := rep_ext e383 h377
                        replace mu365 := mo_ext e383 mu365
                        replace hW := hW.ret0 e383
                        obtain rfl := of_v h382
                        refine ⟨_, rfl, ?_⟩
                        refine mo_end mu365 hn (by rw [List.length_map]; exact ln366) fun vs386 hr387 => ?_
                        have mk389 := mo_setL mu365 (repL_snoc (e := (fun y_ : Str => (D.v (V.str y_)))) (xs := ys362) (y := r381) hr387 rep_v)
                        replace h2 := rep_put (o := .lst (vs386 ++ [V.str r381])) mu365.im h2
                        replace h8 := rep_put (o := .lst (vs386 ++ [V.str r381])) mu365.im h8
                        replace h12 := rep_put (o := .lst (vs386 ++ [V.str r381])) mu365.im h12
                        replace h18 := rep_put (o := .lst (vs386 ++ [V.str r381])) mu365.im h18
                        replace h22 := rep_put (o := .lst (vs386 ++ [V.str r381])) mu365.im h22
                        replace h27 := rep_put (o := .lst (vs386 ++ [V.str r381])) mu365.im h27
                        replace h34 := rep_put (o := .lst (vs386 ++ [V.str r381])) mu365.im h34
                        replace h48 := rep_put (o := .lst (vs386 ++ [V.str r381])) mu365.im h48
                        replace h53 := rep_put (o := .lst (vs386 ++ [V.str r381])) mu365.im h53
                        replace h67 := rep_put (o := .lst (vs386 ++ [V.str r381])) mu365.im h67
                        replace h78 := rep_put (o := .lst (vs386 ++ [V.str r381])) mu365.im h78
                        replace h94 := rep_put (o := .lst (vs386 ++ [V.str r381])) mu365.im h94
                        replace h105 := rep_put (o := .lst (vs386 ++ [V.str r381])) mu365.im h105
                        replace h129 := rep_put (o := .lst (vs386 ++ [V.str r381])) mu365.im h129
                        replace h139 := rep_put (o := .lst (vs386 ++ [V.str r381])) mu365.im h139
                        replace h179 := rep_put (o := .lst (vs386 ++ [V.str r381])) mu365.im h179
                        replace h219 := rep_put (o := .lst (vs386 ++ [V.str r381])) mu365.im h219
                        replace h227 := rep_put (o := .lst (vs386 ++ [V.str r381])) mu365.im h227
                        replace h315 := rep_put (o := .lst (vs386 ++ [V.str r381])) mu365.im h315
                        replace h317 := rep_put (o := .lst (vs386 ++ [V.str r381])) mu365.im h317
                        replace h331 := rep_put (o := .lst (vs386 ++ [V.str r381])) mu365.im h331
                        replace h341 := rep_put (o := .lst (vs386 ++ [V.str r381])) mu365.im h341
                        replace h346 := rep_put (o := .lst (vs386 ++ [V.str r381])) mu365.im h346
                        replace h350 := rep_put (o := .lst (vs386 ++ [V.str r381])) mu365.im h350
                        replace hk364 := keep_put (o := .lst (vs386 ++ [V.str r381])) mu365.im hk364
                        replace h372 := rep_put (o := .lst (vs386 ++ [V.str r381])) mu365.im h372
                        replace h377 := rep_put (o := .lst (vs386 ++ [V.str r381])) mu365.im h377
                        replace hW := wd_put (o := .lst (vs386 ++ [V.str r381])) hW mu365
                        replace mu365 := mk389
                        generalize upd H385 L359 (.lst (vs386 ++ [V.str r381])) = H390 at *
                        replace mu365 : MutO (L359 :: ms) [ap] H_0 H390 L359 (D.lst ((ys362 ++ [r381]).map (fun y_ : Str => (D.v (V.str y_))))) := mu365
                        clear mk389
                        exact hN367 r381 _ hM ⟨hW, hk364, mu365, by rw [List.length_append]; exact Nat.add_le_add_right ln366 1⟩
                      · skip
                        rintro n361 ys391 H392 hM ⟨hW, hk364, mu365, ln366⟩
                        replace h2 := rep_keep hk364 (rep_new nl360 h2)
                        replace h8 := rep_keep hk364 (rep_new nl360 h8)
                        replace h12 := rep_keep hk364 (rep_new nl360 h12)
                        replace h18 := rep_keep hk364 (rep_new nl360 h18)
                        replace h22 := rep_keep hk364 (rep_new nl360 h22)
                        replace h27 := rep_keep hk364 (rep_new nl360 h27)
                        replace h34 := rep_keep hk364 (rep_new nl360 h34)
                        replace h48 := rep_keep hk364 (rep_new nl360 h48)
                        replace h53 := rep_keep hk364 (rep_new nl360 h53)
                        replace h67 := rep_keep hk364 (rep_new nl360 h67)
                        replace h78 := rep_keep hk364 (rep_new nl360 h78)
                        replace h94 := rep_keep hk364 (rep_new nl360 h94)
                        replace h105 := rep_keep hk364 (rep_new nl360 h105)
                        replace h129 := rep_keep hk364 (rep_new nl360 h129)
                        replace h139 := rep_keep hk364 (rep_new nl360 h139)
                        replace h179 := rep_keep hk364 (rep_new nl360 h179)
                        replace h219 := rep_keep hk364 (rep_new nl360 h219)
                        replace h227 := rep_keep hk364 (rep_new nl360 h227)
                        replace h315 := rep_keep hk364 (rep_new nl360 h315)
                        replace h317 := rep_keep hk364 (rep_new nl360 h317)
                        replace h331 := rep_keep hk364 (rep_new nl360 h331)
                        replace h341 := rep_keep hk364 (rep_new nl360 h341)
                        replace h346 := rep_keep hk364 (rep_new nl360 h346)
                        replace h350 := rep_keep hk364 (rep_new nl360 h350)
                        clear hk364 ln366
                        have h393 := mo_rep_dr dr_here nm374 mu365
                        replace hW := wd_dr dr_here mu365.hp hW
                        replace h2 := rep_dr dr_here h2
                        replace h8 := rep_dr dr_here h8
                        replace h12 := rep_dr dr_here h12
                        replace h18 := rep_dr dr_here h18
                        replace h22 := rep_dr dr_here h22
                        replace h27 := rep_dr dr_here h27
                        replace h34 := rep_dr dr_here h34
                        replace h48 := rep_dr dr_here h48
                        replace h53 := rep_dr dr_here h53
                        replace h67 := rep_dr dr_here h67
                        replace h78 := rep_dr dr_here h78
                        replace h94 := rep_dr dr_here h94
                        replace h105 := rep_dr dr_here h105
                        replace h129 := rep_dr dr_here h129
                        replace h139 := rep_dr dr_here h139
                        replace h179 := rep_dr dr_here h179
                        replace h219 := rep_dr dr_here h219
                        replace h227 := rep_dr dr_here h227
                        replace h315 := rep_dr dr_here h315
                        replace h317 := rep_dr dr_here h317
                        replace h331 := rep_dr dr_here h331
                        replace h341 := rep_dr dr_here h341
                        replace h346 := rep_dr dr_here h346
                        replace h350 := rep_dr dr_here h350
                        clear mu365
                        refine ⟨_, rfl, ?_⟩
                        obtain ⟨g394, hM⟩ := hM
                        apply rep_eqD (d := (D.lst (ys391.map (fun y_ : Str => (D.v (V.str y_)))))) (e := (D.lst (ys217.map (fun y_ : Str => (D.v (V.str y_)))))) h393 h219 g394.1 g394.2.1 g394.2.2.1 g394.2.2.2
                        exact hQ (PyData.eqv (pyOf (D.lst (ys391.map (fun y_ : Str => (D.v (V.str y_)))))) (pyOf (D.lst (ys217.map (fun y_ : Str => (D.v (V.str y_))))))) _ _ hM hW.out rep_v
/-! ### the pot of a cell, and the law -/
def sp_pot (K : PySem.W.Frag) : Sp := fun vs H Q _ => ∃ (a : Addr) (ns : List Int) (k : Int), vs = [.ref a, .int k] ∧ SqL K H a (ns.map V.int) ∧ ns.length ≤ 63 ∧ 0 ≤ k ∧ k ≤ 100 ∧
  ∀ (p : Addr) (H1 : Hp) (i j : Int), H p = none → Rx.Ext H H1 → H1 p = some (.lst [.int i, .int j]) → j.natAbs < 4294967296 → Q (.ref p) H1
theorem ok_pot {P : Program} {w : World} {K : PySem.W.Frag} {mg : Str → Option Value} {base : Heap} {A : Ad} (T : Txt w K mg A) : FnOk P w K mg base CX0 1 A.a_pot A.d_pot ["_law_script", "_law_k"] (sp_pot K) := by
  refine T.F_pot.ok sc_pot (fun vs H Q E h => ?_) (fun cdv A_ outer s_ H_0 vs Q E hr h => ?_)
  · obtain ⟨a, ns, k, rfl, _⟩ := h
    rfl
  · obtain ⟨a, ns, k, rfl, hS, hl, k0, k1, hQ⟩ := h
    refine ⟨_, pss_cons (ps_set (i := 2) sc_pot.nd rfl (.inl rfl) (pe_op op_add (pe_op op_mul pe_int (pv 1)) pe_int))
      (pss_cons (ps_if (pt_cmpR op_lt (pv 1) (pe_callB call_len (by rfl) T.z_len PySem.boot_len (pa_cons (pv 0) pa_nil)) (nomark _))
        (pss_one (ps_set (i := 2) sc_pot.nd rfl (.inl rfl) (pe_callB call_abs (by rfl) T.z_abs (by decide +kernel) (pa_cons (pe_ix ix_list (pv 0) (pv 1) (fun _ _ => rfl)) pa_nil)))) pss_nil)
      (pss_one (ps_ret (pe_lst (pa_cons (pe_callB (call_max2 rfl) (by rfl) T.z_max (by decide +kernel) (pa_cons pe_int (pa_cons (pe_op op_sub (pv 2) (pe_op op_pow pe_int pe_int)) pa_nil)))
        (pa_cons (pe_op op_add (pe_op op_mod (pe_callTy call_int1 (by rfl) T.z_int (by decide +kernel) (pa_cons (pe_op op_add (pe_op op_add (pe_op op_mul (pe_op op_mod (pe_callTy call_int1 (by rfl) T.z_int (by decide +kernel) (pa_cons (pv 2) pa_nil)) pe_int) pe_int) (pe_op op_mul pe_int (pv 1))) pe_int) pa_nil)) pe_int) pe_int) pa_nil)))))), ?_⟩
    refine ⟨_, rfl, _, _, rfl, rfl, .inl ⟨by decide, by decide⟩, _, _, rfl, rfl, ?_⟩
    refine ⟨_, rfl, _, rfl, _, ns.length, rfl, .inl ⟨_, hS, by rw [List.length_map]⟩, _, _, rfl, rfl, _, rfl, ?_⟩
    have fin : ∀ (c : Int) (p : Addr), H_0 p = none → Q (.ref p) (upd H_0 p (.lst [.int (if c - 10 ^ Int.toNat 18 > 0 then c - 10 ^ Int.toNat 18 else 0), .int ((c % 2147483563 * 40009 + 51287 * k + 17) % 2147483629 + 1)])) := fun c p np =>
      hQ p _ _ _ np (Rx.Ext.new np) upd_same (by omega)
    refine ite2 (fun c => ?_) (fun c => ?_)
    · have hk : k.toNat < ns.length := by
        have := of_decide_eq_true c
        omega
      refine ⟨_, rfl, _, rfl, a, _, k, .int (ns[k.toNat]), rfl, rfl, hS, at_of (j := k.toNat) (by omega) (by rw [List.getElem?_map, List.getElem?_eq_getElem hk]; rfl), _, rfl, ?_⟩
      refine ⟨_, rfl, _, _, rfl, rfl, ⟨by decide, by decide, by decide⟩, _, _, rfl, rfl, _, _, rfl, _, rfl, .inl ⟨_, rfl, _, _, rfl, rfl, (by show (0 : Int) < 2147483563; decide), _, _, rfl, rfl, .inr ⟨by decide, by decide⟩, _, rfl, _, _, rfl, rfl, .inl ⟨by decide, by decide⟩, _, _, rfl, rfl, _, _, rfl, rfl, .inl ⟨_, rfl, _, _, rfl, rfl, (by show (0 : Int) < 2147483629; decide), _, _, rfl, rfl, (by show 2 ≤ sizeLine; decide), fun p np => fin _ p np⟩⟩⟩
    · refine ⟨_, rfl, _, _, rfl, rfl, ⟨by decide, by decide, by decide⟩, _, _, rfl, rfl, _, _, rfl, _, rfl, .inl ⟨_, rfl, _, _, rfl, rfl, (by show (0 : Int) < 2147483563; decide), _, _, rfl, rfl, .inr ⟨by decide, by decide⟩, _, rfl, _, _, rfl, rfl, .inl ⟨by decide, by decide⟩, _, _, rfl, rfl, _, _, rfl, rfl, .inl ⟨_, rfl, _, _, rfl, rfl, (by show (0 : Int) < 2147483629; decide), _, _, rfl, rfl, (by show 2 ≤ sizeLine; decide), fun p np => fin _ p np⟩⟩⟩

/-! ### words: what the mirrors ask -/
open Wm
structure WV (w : Str × Str × Str) : Prop where
  h4 : (L w.1).length ≤ 4
  m1 : 1 ≤ (L w.2.1).length
  m4 : (L w.2.1).length ≤ 4
  t4 : (L w.2.2).length ≤ 4
  mh : ∀ c ∈ L w.1, c = 104 ∨ c = 97
  mm : ∀ c ∈ L w.2.1, c = 104 ∨ c = 97
  mt : ∀ c ∈ L w.2.2, c = 104 ∨ c = 97
theorem line_of {z : Str} {n : Nat} (h : (L z).length ≤ n) (hn : n ≤ 100000) : z.length ≤ sizeLine := by
  rw [len_L]
  exact Nat.le_trans h (Nat.le_trans hn (by decide))
theorem line4 {z : Str} (h : (L z).length ≤ 4) : z.length ≤ sizeLine := line_of h (by decide)
def lst (w : Str × Str × Str) : Int := if ((L w.1).length : Int) + (L w.2.2).length > 1 then ((L w.1).length : Int) + (L w.2.2).length else 1
theorem lst_ge {w : Str × Str × Str} : ((L w.1).length : Int) + (L w.2.2).length ≤ lst w ∧ 1 ≤ lst w := by
  unfold lst
  split <;> omega
theorem lst_le {w : Str × Str × Str} (hw : WV w) : lst w ≤ 8 := by
  have := hw.h4
  have := hw.t4
  unfold lst
  split <;> omega
theorem least_ok {w : Str × Str × Str} (hw : WV w) {k : Int → Prop} (q : k (lst w)) : M_least w k := by
  unfold M_least
  refine ⟨line4 hw.h4, line4 hw.t4, ?_⟩
  rw [len_L, len_L]
  exact q
theorem wleast_ok {w : Str × Str × Str} (hw : WV w) {k : Int → Prop} (q : k (lst w)) : M_Word_least w k := by
  unfold M_Word_least
  refine ⟨line4 hw.h4, line4 hw.t4, ?_⟩
  rw [len_L, len_L]
  exact q
theorem checkp_ok {w : Str × Str × Str} (hw : WV w) {n : Int} (hn : lst w ≤ n) {k : Unit → Prop} (q : k ()) : M_check_places w n k := by
  unfold M_check_places M_is_integer
  show (if (!!false) = true then _ else _)
  rw [if_neg (by decide)]
  refine wleast_ok hw ?_
  rw [if_neg (by simpa using hn)]
  exact q
abbrev rw_ (w : Str × Str × Str) (n : Int) : List Nat := row (L w.1) (L w.2.1) (L w.2.2) n.toNat
theorem rw_len {w : Str × Str × Str} {n : Int} (hn : lst w ≤ n) : (rw_ w n).length = n.toNat := row_len (by
  have := @lst_ge w
  omega)
theorem at_nat' {α : Type} {xs : List α} {i : Int} {c : α} (h0 : 0 ≤ i) (h : xs[i.toNat]? = some c) : atI xs i = some c := by
  rw [show i = ((i.toNat : Nat) : Int) by omega]
  exact atI_nat h
theorem emod_nat {x : Int} {n : Nat} (h : 0 ≤ x) : (x % (n : Int)).toNat = x.toNat % n := by
  have e : x = (x.toNat : Int) := by omega
  have : x % (n : Int) = ((x.toNat % n : Nat) : Int) := by rw [Int.natCast_emod, ← e]
  rw [this]
  rfl
theorem cm3 {i j : Int} {a : Nat} (ha : i.natAbs < 2 ^ a) (h0 : 0 < a) (hj : j.natAbs < 2 ^ 4) (h : a ≤ 1000) : CMulW i j := wide_mul ha hj h0 (by decide) (by omega)
theorem nat_lt_200 {i : Int} (h0 : 0 ≤ i) (h : i ≤ 10 ^ 60 + 1000) : i.natAbs < 2 ^ 201 := by
  have e : (10 : Int) ^ 60 + 1000 < 2 ^ 201 := by decide
  have e2 : ((2 ^ 201 : Nat) : Int) = (2 : Int) ^ 201 := by decide
  omega
theorem draw_ok {n : Int} {k : Int → Prop} (h0 : 0 < n) (h1 : n < 1073741824) (q : ∀ d, 0 ≤ d → d < n → k d) : M_draw n k := ⟨⟨h0, h1⟩, q⟩
theorem str1 (c : Nat) : (Str.mk #[c]).length = 1 := rfl
theorem signs_ok {few many : Int} (h0 : 0 ≤ few) (h1 : few ≤ many) (h4 : many ≤ 4) {k : Str → Prop} (q : ∀ z : Str, few ≤ (L z).length → ((L z).length : Int) ≤ many → (∀ c ∈ L z, c = 104 ∨ c = 97) → k z) : M_signs few many k := by
  unfold M_signs
  refine draw_ok (by omega) (by omega) fun d d0 d1 => ⟨by rw [rangeI_len]; omega, ?_⟩
  refine mapC_any (fun y => ∃ c, y = Str.mk #[c] ∧ (c = 104 ∨ c = 97)) (fun x _ k' hk => ?_) fun ys hl hp => ?_
  · refine draw_ok (by decide) (by decide) fun e e0 e1 => ⟨by decide +kernel, ?_⟩
    have he : e = 0 ∨ e = 1 := by omega
    rcases he with rfl | rfl
    · exact ⟨104, by decide +kernel, hk _ ⟨_, rfl, .inl rfl⟩⟩
    · exact ⟨97, by decide +kernel, hk _ ⟨_, rfl, .inr rfl⟩⟩
  · rw [List.nil_append]
    rw [rangeI_len] at hl
    have hs : ∀ zs : List Str, (∀ y ∈ zs, ∃ c, y = Str.mk #[c] ∧ (c = 104 ∨ c = 97)) → (zs.map (·.length)).sum = zs.length ∧ ((zs.map L).flatten).length = zs.length ∧ ∀ c ∈ (zs.map L).flatten, c = 104 ∨ c = 97 := by
      intro zs
      induction zs with
      | nil => intro _; exact ⟨rfl, rfl, fun c hc => absurd hc (by simp)⟩
      | cons z zs ih =>
        intro h
        obtain ⟨c, rfl, hc⟩ := h z List.mem_cons_self
        obtain ⟨i1, i2, i3⟩ := ih fun y hy => h y (List.mem_cons_of_mem _ hy)
        refine ⟨?_, ?_, fun c' hc' => ?_⟩
        · rw [List.map_cons, List.sum_cons, i1, str1, List.length_cons]
          omega
        · rw [List.map_cons, List.flatten_cons, List.length_append, i2, L_one, List.length_cons, List.length_cons, List.length_nil]
          omega
        · rw [List.map_cons, List.flatten_cons, L_one] at hc'
          rcases List.mem_append.mp hc' with hc' | hc'
          · rw [List.mem_singleton.mp hc']
            exact hc
          · exact i3 c' hc'
    obtain ⟨s1, s2, s3⟩ := hs ys hp
    refine ⟨?_, q _ ?_ ?_ ?_⟩
    · rw [s1, len_L, L_empty]
      show ys.length + ys.length * 0 ≤ _
      omega
    · rw [join_L, s2]
      omega
    · rw [join_L, s2]
      omega
    · rw [join_L]
      exact s3
theorem word_ok {w : Str × Str × Str} (hw : WV w) : M_Word_init w.1 w.2.1 w.2.2 := by
  have one : ∀ {z : Str} {k : Unit → Prop}, (L z).length ≤ 4 → (∀ c ∈ L z, c = 104 ∨ c = 97) → k () → M_check_part z k := fun {z k} h4 hm q => by
    unfold M_check_part M_is_marks
    refine ⟨line4 h4, ?_⟩
    rw [count_h, count_a, marks_all _ hm, len_L]
    show (if (!decide (V.int _ = V.int _)) = true then _ else _)
    rw [if_neg (by simp)]
    refine ⟨line4 h4, ?_⟩
    rw [if_neg (by simp only [decide_eq_true_eq]; omega)]
    exact q
  unfold M_Word_init
  refine one hw.h4 hw.mh (one hw.m4 hw.mm ?_)
  rw [if_neg]
  · exact one hw.t4 hw.mt trivial
  · rw [eqS, L_empty]
    have := hw.m1
    simp
    intro z
    rw [show L w.2.1 = [] from by rw [L, z]] at this
    simp at this
/-! ### reduced words -/
theorem dec_true {p : Prop} [Decidable p] (h : p) : decide p = true := decide_eq_true h
def S (l : List Nat) : Str := ⟨l.toArray⟩
theorem L_S (l : List Nat) : L (S l) = l := L_mk l
theorem S_L (z : Str) : S (L z) = z := mk_L z
def allW : Nat → List (List Nat)
  | 0 => [[]]
  | n + 1 => [] :: (allW n).flatMap fun l => [104 :: l, 97 :: l]
abbrev Mk (l : List Nat) : Prop := ∀ c ∈ l, c = 104 ∨ c = 97
theorem mem_allW : ∀ (n : Nat) (l : List Nat), l.length ≤ n → Mk l → l ∈ allW n
  | 0, [], _, _ => List.mem_singleton.mpr rfl
  | 0, x :: l, h, _ => by simp at h
  | n + 1, [], _, _ => List.mem_cons_self
  | n + 1, x :: l, h, k => by
    refine List.mem_cons_of_mem _ (List.mem_flatMap.mpr ⟨l, mem_allW n l (by simpa using h) fun c hc => k c (List.mem_cons_of_mem _ hc), ?_⟩)
    rcases k x List.mem_cons_self with e | e <;> subst e <;> simp
def shp (m : List Nat) (l : Nat) : Bool := decide ((List.replicate (m.length / l) (m.take l)).flatten = m)
def sh (m : List Nat) : List Nat := match (List.range' 1 (m.length - 1)).find? (shp m) with
  | some l => m.take l
  | none => m
def roll : Nat → List Nat → List Nat → List Nat × List Nat
  | 0, h, m => (h, m)
  | n + 1, h, m => if h.getLast? = m.getLast? then roll n h.dropLast (m.drop (m.length - 1) ++ m.take (m.length - 1)) else (h, m)
def red2 (h m : List Nat) : List Nat × List Nat := roll h.length h (sh m)
def stp (m t : List Nat) : List Nat := if m.length = 1 then t.dropWhile (m.contains ·) else t
def red (w : Str × Str × Str) : Str × Str × Str := (S (red2 (L w.1) (L w.2.1)).1, S (red2 (L w.1) (L w.2.1)).2, S (stp (red2 (L w.1) (L w.2.1)).2 (L w.2.2)))
def isM (c : Nat) : Bool := c == 104 || c == 97
def ok1 (h m : List Nat) : Bool := match red2 h m with
  | (a, b) => decide (a.length ≤ h.length) && decide (1 ≤ b.length) && decide (b.length ≤ m.length) && decide (m.length % b.length = 0) &&
    ((List.range h.length).all fun j => h[j]? == (if j < a.length then a[j]? else b[(j - a.length) % b.length]?)) && ((List.range m.length).all fun i => m[i]? == b[(h.length - a.length + i) % b.length]?) && a.all isM && b.all isM && (m.length != 1 || b == m)
theorem fin1 : ((allW 4).all fun h => (allW 4).all fun m => m == [] || ok1 h m) = true := by decide +kernel
theorem fin_sh : ((allW 4).all fun m => m == [] || (decide (1 ≤ (sh m).length) && decide ((sh m).length ≤ 4) && (sh m).all isM)) = true := by decide +kernel
theorem isM_all {l : List Nat} (h : l.all isM = true) : Mk l := fun c hc => by
  have := List.all_eq_true.mp h c hc
  unfold isM at this
  simpa using this
structure RD (h m a b : List Nat) : Prop where
  ha : a.length ≤ h.length
  hb : 1 ≤ b.length
  hbm : b.length ≤ m.length
  dv : m.length % b.length = 0
  f1 : ∀ j, j < h.length → h[j]? = if j < a.length then a[j]? else b[(j - a.length) % b.length]?
  f2 : ∀ i, i < m.length → m[i]? = b[(h.length - a.length + i) % b.length]?
  ma : Mk a
  mb : Mk b
  one : m.length = 1 → b = m
theorem red_ok {h m : List Nat} (h4 : h.length ≤ 4) (m1 : 1 ≤ m.length) (m4 : m.length ≤ 4) (mh : Mk h) (mm : Mk m) : RD h m (red2 h m).1 (red2 h m).2 := by
  have q := List.all_eq_true.mp (List.all_eq_true.mp fin1 h (mem_allW 4 h h4 mh)) m (mem_allW 4 m m4 mm)
  have ne : (m == []) = false := by
    cases m with
    | nil => simp at m1
    | cons x m => rfl
  rw [ne, Bool.false_or] at q
  unfold ok1 at q
  simp only [Bool.and_eq_true, decide_eq_true_eq, List.all_eq_true, List.mem_range, beq_iff_eq, Bool.or_eq_true, bne_iff_ne, ne_eq] at q
  obtain ⟨⟨⟨⟨⟨⟨⟨⟨q1, q2⟩, q3⟩, q4⟩, q5⟩, q6⟩, q7⟩, q8⟩, q9⟩ := q
  exact ⟨q1, q2, q3, q4, q5, q6, fun c hc => by have := q7 c hc; unfold isM at this; simpa using this, fun c hc => by have := q8 c hc; unfold isM at this; simpa using this, fun e => q9.resolve_left (fun z => z e)⟩
theorem row_red2 {h m a b t : List Nat} (r : RD h m a b) (m1 : 1 ≤ m.length) {n : Nat} (hn : h.length + t.length ≤ n) : row h m t n = row a b t n := by
  have ha := r.ha
  have hb := r.hb
  apply List.ext_getElem?
  intro j
  by_cases c1 : n ≤ j
  · rw [List.getElem?_eq_none (by rw [row_len hn]; exact c1), List.getElem?_eq_none (by rw [row_len (by omega)]; exact c1)]
  by_cases c2 : n - t.length ≤ j
  · rw [row_tail hn c2, row_tail (by omega) c2]
  by_cases c3 : j < h.length
  · rw [row_head c3, r.f1 j c3]
    by_cases c4 : j < a.length
    · rw [if_pos c4, row_head c4]
    · rw [if_neg c4, row_mid (by omega) (by omega) (by omega) (by omega)]
  · rw [row_mid (by omega) hn (by omega) (by omega), r.f2 _ (Nat.mod_lt _ (by omega)), row_mid (by omega) (by omega) (by omega) (by omega)]
    congr 1
    have e : (j - h.length) % m.length % b.length = (j - h.length) % b.length := Nat.mod_mod_of_dvd _ (Nat.dvd_of_mod_eq_zero r.dv)
    rw [Nat.add_mod, e, ← Nat.add_mod]
    congr 1
    omega
theorem row_strip1 {h t : List Nat} {c n : Nat} (hn : h.length + (t.length + 1) ≤ n) : row h [c] (c :: t) n = row h [c] t n := by
  unfold row
  have e := cyc_end (m := [c]) Nat.zero_lt_one (n - h.length - (t.length + 1))
  rw [show ([c] : List Nat).length = 1 from rfl, Nat.mul_one, Nat.mul_one] at e
  rw [List.length_cons, show c :: t = [c] ++ t from rfl, ← List.append_assoc, List.append_assoc h, e]
  congr 3
  omega
theorem row_strip {h : List Nat} {c n : Nat} : ∀ {t : List Nat}, h.length + t.length ≤ n → row h [c] t n = row h [c] (t.dropWhile ([c].contains ·)) n
  | [], _ => rfl
  | x :: t, hn => by
    rw [List.length_cons] at hn
    by_cases e : x = c
    · subst e
      rw [row_strip1 hn, row_strip (t := t) (by omega), List.dropWhile_cons, if_pos (by simp)]
    · rw [List.dropWhile_cons, if_neg (by simpa using e)]
theorem dropW_len {p : Nat → Bool} : ∀ t : List Nat, (t.dropWhile p).length ≤ t.length
  | [] => Nat.le_refl _
  | x :: t => by
    rw [List.dropWhile_cons]
    split
    · exact Nat.le_succ_of_le (dropW_len t)
    · exact Nat.le_refl _
theorem dropW_mem {p : Nat → Bool} {c : Nat} : ∀ {t : List Nat}, c ∈ t.dropWhile p → c ∈ t
  | [], h => by simp at h
  | x :: t, h => by
    rw [List.dropWhile_cons] at h
    split at h
    · exact List.mem_cons_of_mem _ (dropW_mem h)
    · exact h
theorem stp_len (m t : List Nat) : (stp m t).length ≤ t.length := by
  unfold stp
  split
  · exact dropW_len t
  · exact Nat.le_refl _
theorem stp_mk {m t : List Nat} (h : Mk t) : Mk (stp m t) := by
  unfold stp
  split
  · exact fun c hc => h c (dropW_mem hc)
  · exact h
theorem row_stp {h m t : List Nat} {n : Nat} (hn : h.length + t.length ≤ n) : row h m t n = row h m (stp m t) n := by
  unfold stp
  split
  · rename_i e
    obtain ⟨c, rfl⟩ := List.length_eq_one_iff.mp e
    exact row_strip hn
  · rfl
theorem rd {w : Str × Str × Str} (hw : WV w) : RD (L w.1) (L w.2.1) (red2 (L w.1) (L w.2.1)).1 (red2 (L w.1) (L w.2.1)).2 := red_ok hw.h4 hw.m1 hw.m4 hw.mh hw.mm
theorem red_wv {w : Str × Str × Str} (hw : WV w) : WV (red w) := by
  have r := rd hw
  have := hw.h4
  have := hw.m4
  have := hw.t4
  have := r.ha
  have := r.hb
  have := r.hbm
  have s1 := stp_len (red2 (L w.1) (L w.2.1)).2 (L w.2.2)
  refine ⟨?_, ?_, ?_, ?_, ?_, ?_, ?_⟩ <;> show _ <;> unfold red <;> simp only [L_S]
  · omega
  · omega
  · omega
  · omega
  · exact r.ma
  · exact r.mb
  · exact stp_mk hw.mt
theorem red_lst {w : Str × Str × Str} (hw : WV w) : lst (red w) ≤ lst w := by
  have r := (rd hw).ha
  have s1 := stp_len (red2 (L w.1) (L w.2.1)).2 (L w.2.2)
  unfold lst red
  simp only [L_S]
  split <;> split <;> omega
theorem red_row {w : Str × Str × Str} (hw : WV w) {n : Int} (hn : lst w ≤ n) : rw_ (red w) n = rw_ w n := by
  have g := @lst_ge w
  have r := rd hw
  have := r.ha
  unfold rw_ red
  simp only [L_S]
  rw [row_red2 r hw.m1 (t := L w.2.2) (by omega), ← row_stp (by omega)]
/-! cuts at the end -/
theorem sIx_neg (n d : Nat) : HT.sIx n d (some (-1)) = n - 1 := by
  show (if (-1 : Int) < 0 then ((-1 : Int) + (n : Int)).toNat else min (-1 : Int).toNat n) = n - 1
  rw [if_pos (by decide)]
  omega
theorem cut_last (z : Str) : L (cutS z (some (-1)) none) = (L z).drop ((L z).length - 1) := by
  unfold cutS
  rw [L_mk, HT.sIx_none, sIx_neg, len_L]
  exact List.take_of_length_le (by rw [List.length_drop]; exact Nat.le_refl _)
theorem cut_init (z : Str) : L (cutS z none (some (-1))) = (L z).take ((L z).length - 1) := by
  unfold cutS
  rw [L_mk, HT.sIx_none, List.drop_zero, Nat.sub_zero, sIx_neg, len_L]
theorem cut_drop (z : Str) (k : Nat) : L (cutS z (some (k : Int)) none) = (L z).drop k := by
  unfold cutS
  rw [L_mk, HT.sIx_none, HT.sIx_nat, len_L, List.take_of_length_le (by rw [List.length_drop]; exact Nat.le_refl _)]
  by_cases c : k ≤ (L z).length
  · rw [Nat.min_eq_left c]
  · rw [Nat.min_eq_right (by omega), List.drop_of_length_le (Nat.le_refl _), List.drop_of_length_le (by omega)]
theorem at_last {l : List Nat} (h : 1 ≤ l.length) : atI l (-1) = l.getLast? := by
  unfold atI ixN
  rw [if_neg (by decide), if_pos (by omega), List.getLast?_eq_getElem?]
  show l[((-1 : Int) + (l.length : Int)).toNat]? = _
  congr 1
  omega

/-! ### the mirrors of reduced, contrary, == -/
theorem forC_find {α : Type} {body : α → Unit → (Unit → Prop) → Prop} {k : Unit → Prop} (p : α → Bool) (E : α → Prop) : ∀ {xs : List α}, (∀ x ∈ xs, ∀ k' : Unit → Prop, (if p x = true then E x else k' ()) → body x () k') →
    (match xs.find? p with | some x => E x | none => k ()) → forC body xs () k
  | [], _, q => q
  | x :: xs, h, q => h x List.mem_cons_self _ (by
    rw [List.find?_cons] at q
    by_cases c : p x = true
    · rw [c] at q
      rw [if_pos c]
      exact q
    · have c' : p x = false := by simpa using c
      rw [c'] at q
      rw [if_neg c]
      exact forC_find p E (fun y hy => h y (List.mem_cons_of_mem _ hy)) q)
theorem mul_L (x : Str) {k : Nat} (hk : 1 ≤ k) : L (Txt.mul x (k : Int)) = (List.replicate k (L x)).flatten := by
  unfold Txt.mul
  rw [if_neg (by omega)]
  by_cases c : (((k : Int) == 1) || x.length == 0) = true
  · rw [if_pos c]
    simp only [Bool.or_eq_true, beq_iff_eq] at c
    rcases c with c | c
    · have : k = 1 := by omega
      subst this
      simp
    · rw [len_L] at c
      rw [List.length_eq_zero_iff.mp c]
      simp
  · rw [if_neg c, Int.toNat_natCast]
    have go : ∀ (n : Nat) (acc : Array Nat), ((List.replicate n x.cps).foldl (· ++ ·) acc).toList = acc.toList ++ (List.replicate n x.cps.toList).flatten := by
      intro n
      induction n with
      | zero => intro acc; simp
      | succ n ih =>
        intro acc
        rw [List.replicate_succ, List.foldl_cons, ih, List.replicate_succ, List.flatten_cons, Array.toList_append, List.append_assoc]
    have := go k #[]
    simpa [L] using this
theorem mulok {x : Str} {k : Nat} (h : (L x).length ≤ 4) (hk : k ≤ 4) : MulOk x (k : Int) := by
  have hl : x.length ≤ 4 := by rw [len_L]; exact h
  refine ⟨?_, fun h1 _ => ?_, fun h1 _ => ?_⟩
  · rw [Bool.or_eq_false_iff, decide_eq_false_iff_not, decide_eq_false_iff_not]
    omega
  · have a : (4 : Int) ≤ (2 ^ 63 - 1) / (k : Int) := Int.le_ediv_of_mul_le (by omega) (by omega)
    have : (x.length : Int) ≤ 4 := by omega
    omega
  · unfold Builtin.Str.tooLong
    rw [decide_eq_false_iff_not, Int.toNat_natCast]
    have e : sizeLine = 16777216 := sizeLine_eq
    have : x.length * k ≤ 4 * 4 := Nat.mul_le_mul hl hk
    omega

theorem find_map {α β : Type} (f : α → β) (p : β → Bool) (q : α → Bool) (h : ∀ x, p (f x) = q x) : ∀ l : List α, (l.map f).find? p = (l.find? q).map f
  | [] => rfl
  | x :: l => by
    rw [List.map_cons, List.find?_cons, List.find?_cons, h]
    cases q x
    · exact find_map f p q h l
    · rfl
theorem short_ok {m : Str} (m1 : 1 ≤ (L m).length) (m4 : (L m).length ≤ 4) {k : Str → Prop} (q : k (S (sh (L m)))) : M_shortest_said m k := by
  unfold M_shortest_said
  refine ⟨line4 m4, ?_⟩
  rw [len_L]
  refine forC_find (fun x : Int => shp (L m) x.toNat) (fun x => k (S ((L m).take x.toNat))) (fun x hx k' hk => ?_) ?_
  · obtain ⟨x1, x2⟩ := rangeI_mem hx
    have hd1 : 1 ≤ (L m).length / x.toNat := (Nat.le_div_iff_mul_le (by omega)).mpr (by omega)
    have hd4 : (L m).length / x.toNat ≤ 4 := Nat.le_trans (Nat.div_le_self _ _) m4
    have ed : ((L m).length : Int) / x = (((L m).length / x.toNat : Nat) : Int) := by
      rw [Int.natCast_ediv]
      congr 1
      omega
    have ec : L (cutS m none (some x)) = (L m).take x.toNat := cut_take m (by omega)
    have x3 : x = 1 ∨ x = 2 ∨ x = 3 := by omega
    refine ⟨line4 m4, line4 m4, ⟨by omega, by rcases x3 with e | e | e <;> subst e <;> decide⟩, ?_, ?_⟩
    · rw [ed]
      exact mulok (by rw [ec, List.length_take]; omega) hd4
    · rw [ed, eqS, mul_L _ hd1, ec]
      by_cases c : shp (L m) x.toNat = true
      · rw [if_pos c] at hk
        rw [if_pos (by unfold shp at c; exact c)]
        refine ⟨line4 m4, ?_⟩
        rw [show cutS m none (some x) = S ((L m).take x.toNat) from L_ext (by rw [ec, L_S])]
        exact hk
      · rw [if_neg c] at hk
        rw [if_neg (by unfold shp at c; exact c)]
        exact hk
  · have e : rangeI 1 ((L m).length : Int) = (List.range' 1 ((L m).length - 1)).map fun n : Nat => (n : Int) := by
      apply List.ext_getElem?
      intro j
      rw [List.getElem?_map]
      by_cases h : j < (L m).length - 1
      · rw [rangeI_get (by omega), List.getElem?_range' h]
        show some ((1 : Int) + (j : Int)) = some (((1 + 1 * j : Nat)) : Int)
        congr 1
        omega
      · rw [List.getElem?_eq_none (by rw [rangeI_len]; omega), List.getElem?_eq_none (by rw [List.length_range']; omega)]
        rfl
    rw [e, find_map _ _ (shp (L m)) (fun x => by rw [Int.toNat_natCast])]
    unfold sh at q
    cases hf : (List.range' 1 ((L m).length - 1)).find? (shp (L m)) with
    | some l =>
      rw [hf] at q
      show k (S ((L m).take ((l : Int)).toNat))
      rw [Int.toNat_natCast]
      exact q
    | none =>
      rw [hf] at q
      show k m
      rw [← S_L m]
      exact q
theorem sh_ok {m : List Nat} (m1 : 1 ≤ m.length) (m4 : m.length ≤ 4) (mm : Mk m) : 1 ≤ (sh m).length ∧ (sh m).length ≤ 4 ∧ Mk (sh m) := by
  have q := List.all_eq_true.mp fin_sh m (mem_allW 4 m m4 mm)
  have ne : (m == []) = false := by
    cases m with
    | nil => simp at m1
    | cons x m => rfl
  rw [ne, Bool.false_or, Bool.and_eq_true, Bool.and_eq_true, decide_eq_true_eq, decide_eq_true_eq] at q
  exact ⟨q.1.1, q.1.2, isM_all q.2⟩
theorem fin_strip : ((allW 4).all fun t => [104, 97].all fun c => L (Txt.lstripChars (S t) (S [c])) == t.dropWhile ([c].contains ·)) = true := by decide +kernel
theorem strip_ok {t : Str} {c : Nat} (t4 : (L t).length ≤ 4) (mt : Mk (L t)) (hc : c = 104 ∨ c = 97) : Txt.lstripChars t (S [c]) = S ((L t).dropWhile ([c].contains ·)) := by
  have q := List.all_eq_true.mp (List.all_eq_true.mp fin_strip (L t) (mem_allW 4 _ t4 mt)) c (by rcases hc with e | e <;> subst e <;> simp)
  rw [S_L, beq_iff_eq] at q
  exact L_ext (by rw [q, L_S])
theorem last_some {l : List Nat} (h : 1 ≤ l.length) : ∃ c, l.getLast? = some c := by
  cases e : l.getLast? with
  | none =>
    rw [List.getLast?_eq_none_iff] at e
    rw [e] at h
    simp at h
  | some c => exact ⟨c, rfl⟩
theorem drop_last {l : List Nat} {c : Nat} (h : l.getLast? = some c) : l.drop (l.length - 1) = [c] := by
  have hl : 1 ≤ l.length := by
    cases l with
    | nil => simp at h
    | cons x l => simp
  rw [List.getLast?_eq_getElem?] at h
  obtain ⟨h1, h2⟩ := List.getElem?_eq_some_iff.mp h
  rw [List.drop_eq_getElem_cons h1, h2, show l.length - 1 + 1 = l.length by omega, List.drop_length]
theorem reduced_ok {w : Str × Str × Str} (hw : WV w) {k : Str × Str × Str → Prop} (q : k (red w)) : M_Word_reduced w k := by
  have h4 := hw.h4
  have t4 := hw.t4
  obtain ⟨s1, s4, sm⟩ := sh_ok hw.m1 hw.m4 hw.mm
  have hrd := rd hw
  have hwr := red_wv hw
  unfold M_Word_reduced
  refine short_ok hw.m1 hw.m4 ?_
  refine whileC_ok (fun s => roll (L s.1).length (L s.1) (L s.2) = red2 (L w.1) (L w.2.1) ∧ (L s.1).length ≤ 4 ∧ 1 ≤ (L s.2).length ∧ (L s.2).length ≤ 4) (fun s => (L s.1).length) ?_ ?_
  · rintro s k1 ⟨hr, a4, b1, b4⟩ hk
    have fin : (L s.1, L s.2) = red2 (L w.1) (L w.2.1) → (s.2.length ≤ sizeLine ∧ (if (decide (V.int (s.2.length : Int) = V.int (1 : Int))) = true then (w.2.2.length ≤ sizeLine ∧ (M_Word_init s.1 s.2 (Txt.lstripChars w.2.2 s.2) ∧ (k (s.1, s.2, (Txt.lstripChars w.2.2 s.2))))) else (M_Word_init s.1 s.2 w.2.2 ∧ (k (s.1, s.2, w.2.2))))) := fun e => by
      have e1 : (red2 (L w.1) (L w.2.1)).1 = L s.1 := by rw [← e]
      have e2 : (red2 (L w.1) (L w.2.1)).2 = L s.2 := by rw [← e]
      have er : red w = (s.1, s.2, S (stp (L s.2) (L w.2.2))) := by
        unfold red
        rw [e1, e2, S_L, S_L]
      rw [er] at q hwr
      have wi := word_ok hwr
      refine ⟨line4 b4, ?_⟩
      rw [eqI, len_L]
      by_cases c : (L s.2).length = 1
      · rw [if_pos (dec_true (by omega))]
        obtain ⟨x, hx⟩ := List.length_eq_one_iff.mp c
        have hmx : x = 104 ∨ x = 97 := hrd.mb x (by rw [e2, hx]; exact List.mem_singleton.mpr rfl)
        have es : s.2 = S [x] := L_ext (by rw [hx, L_S])
        have el : Txt.lstripChars w.2.2 s.2 = S (stp (L s.2) (L w.2.2)) := by
          rw [es, strip_ok t4 hw.mt hmx, L_S]
          unfold stp
          rw [if_pos (show ([x] : List Nat).length = 1 from rfl)]
        rw [el]
        exact ⟨line4 t4, wi, q⟩
      · rw [if_neg (by simp only [decide_eq_true_eq]; omega)]
        have el : S (stp (L s.2) (L w.2.2)) = w.2.2 := by
          unfold stp
          rw [if_neg c, S_L]
        rw [el] at wi q
        exact ⟨wi, q⟩
    rw [eqS, L_empty]
    by_cases c : L s.1 = []
    · rw [dec_true c]
      show (if (!true) = true then _ else _)
      rw [if_neg (by decide)]
      refine fin ?_
      rw [← hr, c]
      rfl
    · rw [decide_eq_false c]
      show (if (!false) = true then _ else _)
      rw [if_pos (by decide)]
      have a1 : 1 ≤ (L s.1).length := by
        cases hh : L s.1 with
        | nil => exact absurd hh c
        | cons x l => simp
      obtain ⟨x, hx⟩ := last_some a1
      obtain ⟨y, hy⟩ := last_some b1
      refine ⟨line4 a4, x, by rw [at_last a1]; exact hx, line4 b4, y, by rw [at_last b1]; exact hy, ?_⟩
      rw [eqS, L_one, L_one]
      obtain ⟨n, hn⟩ : ∃ n, (L s.1).length = n + 1 := ⟨(L s.1).length - 1, by omega⟩
      rw [hn] at hr
      unfold roll at hr
      rw [hx, hy] at hr
      by_cases e : x = y
      · rw [if_pos (dec_true (by rw [e]))]
        rw [if_pos (by rw [e])] at hr
        have l1 : L (cutS s.1 none (some (-1))) = (L s.1).dropLast := by rw [cut_init, List.dropLast_eq_take]
        have l2 : L (Str.mk #[y] ++ cutS s.2 none (some (-1))) = (L s.2).drop ((L s.2).length - 1) ++ (L s.2).take ((L s.2).length - 1) := by
          rw [L_app, L_one, cut_init, drop_last hy]
        refine ⟨line4 a4, line4 b4, y, by rw [at_last b1]; exact hy, line4 b4, ?_, hk _ ⟨?_, ?_, ?_, ?_⟩ ?_⟩
        · rw [len_L, len_L, L_one, cut_init, List.length_take]
          have e : sizeLine = 16777216 := sizeLine_eq
          simp only [List.length_cons, List.length_nil]
          omega
        · show roll (L (cutS s.1 none (some (-1)))).length _ _ = _
          rw [l1, l2, List.length_dropLast, hn]
          exact hr
        · rw [l1, List.length_dropLast]
          omega
        · rw [l2, List.length_append, List.length_drop, List.length_take]
          omega
        · rw [l2, List.length_append, List.length_drop, List.length_take]
          omega
        · show (L (cutS s.1 none (some (-1)))).length < _
          rw [l1, List.length_dropLast]
          omega
      · rw [if_neg (by simpa using e)]
        rw [if_neg (by simpa using e)] at hr
        exact fin hr
  · refine ⟨?_, h4, ?_, ?_⟩
    · rw [L_S]
      rfl
    · rw [L_S]
      exact s1
    · rw [L_S]
      exact s4
theorem weq_ok (w : Str × Str × Str) {k : Bool → Prop} (q : k true) : M_Word_eq w w k := by
  unfold M_Word_eq
  rw [if_pos (by simp), if_pos (by simp), dec_true rfl]
  exact q
theorem same_ok {w v : Str × Str × Str} (hw : WV w) (hv : WV v) (e : red w = red v) {k : Bool → Prop} (q : k true) : M_same_rows w v k := by
  unfold M_same_rows
  refine reduced_ok hw (reduced_ok hv ?_)
  rw [e]
  exact weq_ok _ q

/-! ### contrary -/
def ctrc (c : Nat) : Nat := if c = 104 then 97 else 104
def ctrw (w : Str × Str × Str) : Str × Str × Str := (S ((L w.1).map ctrc), S ((L w.2.1).map ctrc), S ((L w.2.2).map ctrc))
theorem ctrc_mk (c : Nat) : ctrc c = 104 ∨ ctrc c = 97 := by
  unfold ctrc
  split
  · exact .inr rfl
  · exact .inl rfl
theorem ones_sum (l : List Nat) (f : Nat → Nat) : ((l.map fun c => (Str.mk #[f c])).map (·.length)).sum = l.length := by
  induction l with
  | nil => rfl
  | cons c l ih =>
    rw [List.map_cons, List.map_cons, List.sum_cons, ih, str1, List.length_cons]
    omega
theorem ones_join (l : List Nat) (f : Nat → Nat) : L (Txt.join ("" : Str) (l.map fun c => (Str.mk #[f c]))) = l.map f := by
  rw [join_L]
  induction l with
  | nil => rfl
  | cons c l ih =>
    rw [List.map_cons, List.map_cons, List.flatten_cons, L_one, ih]
    rfl
theorem ctrw_wv {w : Str × Str × Str} (hw : WV w) : WV (ctrw w) := by
  have mk : ∀ l : List Nat, Mk (l.map ctrc) := fun l c hc => by
    obtain ⟨x, _, e⟩ := List.mem_map.mp hc
    rw [← e]
    exact ctrc_mk x
  refine ⟨?_, ?_, ?_, ?_, ?_, ?_, ?_⟩ <;> unfold ctrw <;> simp only [L_S, List.length_map]
  · exact hw.h4
  · exact hw.m1
  · exact hw.m4
  · exact hw.t4
  · exact mk _
  · exact mk _
  · exact mk _
theorem ctrw_lst (w : Str × Str × Str) : lst (ctrw w) = lst w := by
  unfold lst ctrw
  simp only [L_S, List.length_map]
theorem cyc_map (f : Nat → Nat) {m : List Nat} (hm : 0 < m.length) (k : Nat) : cyc (m.map f) k = (cyc m k).map f := by
  apply List.ext_getElem?
  intro j
  rw [List.getElem?_map]
  by_cases h : j < k
  · rw [cyc_get' (by rw [List.length_map]; exact hm) h, cyc_get' hm h, List.getElem?_map, List.length_map]
  · rw [List.getElem?_eq_none (by rw [cyc_len]; omega), List.getElem?_eq_none (by rw [cyc_len]; omega)]
    rfl
theorem ctrw_row {w : Str × Str × Str} (hw : WV w) (n : Int) : rw_ (ctrw w) n = (rw_ w n).map ctrc := by
  unfold rw_ ctrw row
  simp only [L_S, List.length_map]
  rw [cyc_map _ (by have := hw.m1; omega), List.map_append, List.map_append]
theorem cyc_mk {m : List Nat} (hm : 0 < m.length) (mk : Mk m) (k : Nat) : Mk (cyc m k) := fun c hc => by
  unfold cyc at hc
  obtain ⟨j, _, e⟩ := List.mem_map.mp hc
  rw [← e, List.getD_eq_getElem?_getD, List.getElem?_eq_getElem (Nat.mod_lt j hm)]
  exact mk _ (List.getElem_mem _)
theorem rw_mk {w : Str × Str × Str} (hw : WV w) (n : Int) : Mk (rw_ w n) := fun c hc => by
  have m1 := hw.m1
  unfold rw_ row at hc
  rcases List.mem_append.mp hc with hc | hc
  · rcases List.mem_append.mp hc with hc | hc
    · exact hw.mh c hc
    · exact cyc_mk (by omega) hw.mm _ c hc
  · exact hw.mt c hc
theorem mk_take {l : List Nat} (h : Mk l) (i : Nat) : Mk (l.take i) := fun c hc => h c (List.mem_of_mem_take hc)
theorem mk_drop {l : List Nat} (h : Mk l) (i : Nat) : Mk (l.drop i) := fun c hc => h c (List.mem_of_mem_drop hc)
theorem cn_ctr : ∀ {l : List Nat}, Mk l → cn 104 (l.map ctrc) = cn 97 l
  | [], _ => rfl
  | c :: l, h => by
    rw [List.map_cons, cn_cons, cn_cons, cn_ctr fun x hx => h x (List.mem_cons_of_mem _ hx)]
    rcases h c List.mem_cons_self with e | e <;> subst e <;> rfl
theorem hom_row {w : Str × Str × Str} (hw : WV w) {n i : Int} (hn : lst w ≤ n) (h0 : 0 ≤ i) (hi : i ≤ n) : hom 104 (L w.1) (L w.2.1) (L w.2.2) n.toNat i.toNat = cn 104 ((rw_ w n).take i.toNat) := by
  have g := @lst_ge w
  have := hw.m1
  exact (hom_eq 104 (by omega) (by omega) _ (by omega)).symm
/-! ### words that tell the same rows -/
def nb (m : List Nat) (b : Bool) : Bool := m == [] || b
theorem finA0 : ((allW 3).all fun h => (allW 4).all fun m => nb m (red2 (h ++ m.take 1) (m.drop 1 ++ m.take 1) == red2 h m)) = true := by decide +kernel
theorem finA1 : ((allW 4).all fun h => (allW 2).all fun m => nb m (red2 h (m ++ m) == red2 h m)) = true := by decide +kernel
theorem finA3 : ((allW 4).all fun h => (allW 4).all fun m => nb m (h.drop (h.length - 1) != m.drop (m.length - 1) || red2 (h.take (h.length - 1)) (m.drop (m.length - 1) ++ m.take (m.length - 1)) == red2 h m)) = true := by decide +kernel
theorem fin_use {n n' : Nat} {p : List Nat → List Nat → Bool} (f : ((allW n).all fun h => (allW n').all fun m => nb m (p h m)) = true) {h m : List Nat} (hn : h.length ≤ n) (m1 : 1 ≤ m.length) (mn : m.length ≤ n') (mh : Mk h) (mm : Mk m) : p h m = true := by
  have q := List.all_eq_true.mp (List.all_eq_true.mp f h (mem_allW n h hn mh)) m (mem_allW n' m mn mm)
  unfold nb at q
  have ne : (m == []) = false := by
    cases m with
    | nil => simp at m1
    | cons x m => rfl
  rw [ne, Bool.false_or] at q
  exact q
theorem cut_one (z : Str) : L (cutS z none (some (1 : Int))) = (L z).take 1 := cut_take z (by decide)
theorem cut_rest (z : Str) : L (cutS z (some (1 : Int)) none) = (L z).drop 1 := cut_drop z 1
theorem mk_app {a b : List Nat} (ha : Mk a) (hb : Mk b) : Mk (a ++ b) := fun c hc => (List.mem_append.mp hc).elim (ha c) (hb c)
theorem red_of {w v : Str × Str × Str} (h : red2 (L w.1) (L w.2.1) = red2 (L v.1) (L v.2.1)) (t : stp (red2 (L v.1) (L v.2.1)).2 (L w.2.2) = stp (red2 (L v.1) (L v.2.1)).2 (L v.2.2)) : red w = red v := by
  unfold red
  rw [h, t]
theorem fall_ok {w : Str × Str × Str} (hw : WV w) {k : Str × Str × Str → Prop} (q : ∀ v, WV v → red v = red w → k v) :
    ∃ KB : (Str × Str × Str) → Prop, (w.1.length ≤ sizeLine ∧ (w.2.1.length ≤ sizeLine ∧ (if (decide (V.str (cutS w.1 (some (-(1 : Int))) none) = V.str (cutS w.2.1 (some (-(1 : Int))) none))) = true then (w.1.length ≤ sizeLine ∧ (w.2.1.length ≤ sizeLine ∧ (w.2.1.length ≤ sizeLine ∧ (((cutS w.2.1 (some (-(1 : Int))) none).length + (cutS w.2.1 none (some (-(1 : Int)))).length ≤ sizeLine) ∧ (KB ((cutS w.1 none (some (-(1 : Int)))), ((cutS w.2.1 (some (-(1 : Int))) none) ++ (cutS w.2.1 none (some (-(1 : Int))))), w.2.2)))))) else (KB w)))) ∧ ∀ r : (Str × Str × Str), KB r → (k r) := by
  have h4 := hw.h4
  have m1 := hw.m1
  have m4 := hw.m4
  have e : sizeLine = 16777216 := sizeLine_eq
  refine ⟨fun v => WV v ∧ red v = red w, ⟨line4 h4, line4 m4, ?_⟩, fun r h => q r h.1 h.2⟩
  rw [eqS, cut_last, cut_last]
  by_cases c : (L w.1).drop ((L w.1).length - 1) = (L w.2.1).drop ((L w.2.1).length - 1)
  · rw [if_pos (dec_true c)]
    have lm : L ((cutS w.2.1 (some (-(1 : Int))) none) ++ (cutS w.2.1 none (some (-(1 : Int))))) = (L w.2.1).drop ((L w.2.1).length - 1) ++ (L w.2.1).take ((L w.2.1).length - 1) := by rw [L_app, cut_last, cut_init]
    refine ⟨line4 h4, line4 m4, line4 m4, ?_, ⟨?_, ?_, ?_, hw.t4, ?_, ?_, hw.mt⟩, red_of ?_ rfl⟩
    · rw [len_L, len_L, cut_last, cut_init, List.length_drop, List.length_take]
      omega
    · show (L (cutS w.1 none (some (-1)))).length ≤ 4
      rw [cut_init, List.length_take]
      omega
    · show 1 ≤ (L (_ ++ _)).length
      rw [lm, List.length_append, List.length_drop, List.length_take]
      omega
    · show (L (_ ++ _)).length ≤ 4
      rw [lm, List.length_append, List.length_drop, List.length_take]
      omega
    · show Mk (L (cutS w.1 none (some (-1))))
      rw [cut_init]
      exact fun c hc => hw.mh c (List.mem_of_mem_take hc)
    · show Mk (L (_ ++ _))
      rw [lm]
      exact mk_app (fun c hc => hw.mm c (List.mem_of_mem_drop hc)) fun c hc => hw.mm c (List.mem_of_mem_take hc)
    · show red2 (L (cutS w.1 none (some (-1)))) (L (_ ++ _)) = _
      rw [lm, cut_init]
      have := fin_use (p := fun h m => h.drop (h.length - 1) != m.drop (m.length - 1) || red2 (h.take (h.length - 1)) (m.drop (m.length - 1) ++ m.take (m.length - 1)) == red2 h m) finA3 h4 m1 m4 hw.mh hw.mm
      simp only [c, bne_self_eq_false, Bool.false_or, beq_iff_eq] at this
      exact this
  · rw [if_neg (by simpa using c)]
    exact ⟨hw, rfl⟩
theorem alike_ok {w : Str × Str × Str} (hw : WV w) {k : Str × Str × Str → Prop} (q : ∀ v, WV v → red v = red w → k v) : M_alike w k := by
  have h4 := hw.h4
  have m1 := hw.m1
  have m4 := hw.m4
  have t4 := hw.t4
  have e : sizeLine = 16777216 := sizeLine_eq
  unfold M_alike
  refine draw_ok (by decide) (by decide) fun d d0 d1 => ?_
  have fall := fall_ok hw q
  have hh : w.1.length = (L w.1).length := len_L _
  have hm : w.2.1.length = (L w.2.1).length := len_L _
  have ht : w.2.2.length = (L w.2.2).length := len_L _
  have way0 : (L w.1).length < 4 → (w.2.1.length ≤ sizeLine ∧ ((w.1.length + (cutS w.2.1 none (some (1 : Int))).length ≤ sizeLine) ∧ (w.2.1.length ≤ sizeLine ∧ (w.2.1.length ≤ sizeLine ∧ (((cutS w.2.1 (some (1 : Int)) none).length + (cutS w.2.1 none (some (1 : Int))).length ≤ sizeLine) ∧ (k ((w.1 ++ (cutS w.2.1 none (some (1 : Int)))), ((cutS w.2.1 (some (1 : Int)) none) ++ (cutS w.2.1 none (some (1 : Int)))), w.2.2))))))) := fun c => by
    have l1 : L (w.1 ++ cutS w.2.1 none (some (1 : Int))) = L w.1 ++ (L w.2.1).take 1 := by rw [L_app, cut_one]
    have l2 : L (cutS w.2.1 (some (1 : Int)) none ++ cutS w.2.1 none (some (1 : Int))) = (L w.2.1).drop 1 ++ (L w.2.1).take 1 := by rw [L_app, cut_one, cut_rest]
    refine ⟨line4 m4, ?_, line4 m4, line4 m4, ?_, q _ ⟨?_, ?_, ?_, t4, ?_, ?_, hw.mt⟩ (red_of ?_ rfl)⟩
    · rw [len_L, len_L, cut_one, List.length_take]
      omega
    · rw [len_L, len_L, cut_one, cut_rest, List.length_take, List.length_drop]
      omega
    · show (L (w.1 ++ _)).length ≤ 4
      rw [l1, List.length_append, List.length_take]
      omega
    · show 1 ≤ (L (_ ++ _)).length
      rw [l2, List.length_append, List.length_take, List.length_drop]
      omega
    · show (L (_ ++ _)).length ≤ 4
      rw [l2, List.length_append, List.length_take, List.length_drop]
      omega
    · show Mk (L (_ ++ _))
      rw [l1]
      exact mk_app hw.mh fun c hc => hw.mm c (List.mem_of_mem_take hc)
    · show Mk (L (_ ++ _))
      rw [l2]
      exact mk_app (fun c hc => hw.mm c (List.mem_of_mem_drop hc)) fun c hc => hw.mm c (List.mem_of_mem_take hc)
    · show red2 (L (_ ++ _)) (L (_ ++ _)) = _
      rw [l1, l2]
      have := fin_use (p := fun h m => red2 (h ++ m.take 1) (m.drop 1 ++ m.take 1) == red2 h m) finA0 (h := L w.1) (by omega) m1 m4 hw.mh hw.mm
      exact eq_of_beq this
  have way1 : (L w.2.1).length < 3 → ((w.2.1.length + w.2.1.length ≤ sizeLine) ∧ (k (w.1, (w.2.1 ++ w.2.1), w.2.2))) := fun c => by
    refine ⟨by omega, q _ ⟨h4, ?_, ?_, t4, hw.mh, ?_, hw.mt⟩ (red_of ?_ rfl)⟩
    · show 1 ≤ (L (_ ++ _)).length
      rw [L_app, List.length_append]
      omega
    · show (L (_ ++ _)).length ≤ 4
      rw [L_app, List.length_append]
      omega
    · show Mk (L (_ ++ _))
      rw [L_app]
      exact mk_app hw.mm hw.mm
    · show red2 (L w.1) (L (_ ++ _)) = _
      rw [L_app]
      have := fin_use (p := fun h m => red2 h (m ++ m) == red2 h m) finA1 (m := L w.2.1) h4 m1 (by omega) hw.mh hw.mm
      exact eq_of_beq this
  have way2 : (L w.2.1).length = 1 → (L w.2.2).length < 4 → ((w.2.1.length + w.2.2.length ≤ sizeLine) ∧ (k (w.1, w.2.1, (w.2.1 ++ w.2.2)))) := fun c c' => by
    refine ⟨by omega, q _ ⟨h4, m1, m4, ?_, hw.mh, hw.mm, ?_⟩ (red_of rfl ?_)⟩
    · show (L (_ ++ _)).length ≤ 4
      rw [L_app, List.length_append]
      omega
    · show Mk (L (_ ++ _))
      rw [L_app]
      exact mk_app hw.mm hw.mt
    · show stp _ (L (_ ++ _)) = _
      rw [L_app, (rd hw).one c]
      obtain ⟨x, hx⟩ := List.length_eq_one_iff.mp c
      rw [hx]
      unfold stp
      rw [if_pos (show ([x] : List Nat).length = 1 from rfl), if_pos (show ([x] : List Nat).length = 1 from rfl)]
      show ((x :: L w.2.2).dropWhile _) = _
      rw [List.dropWhile_cons, if_pos (by simp)]
  have i1 : ∀ {a b : Int}, decide (V.int a = V.int b) = true → a = b := fun {a b} h => by
    rw [eqI] at h
    exact of_decide_eq_true h
  by_cases c0 : decide (V.int d = V.int (0 : Int)) = true
  · rw [if_pos c0]
    refine ⟨line4 h4, ?_⟩
    by_cases c : decide ((w.1.length : Int) < (4 : Int)) = true
    · rw [if_pos c]
      have := of_decide_eq_true c
      exact way0 (by omega)
    · rw [if_neg c]
      by_cases c1 : decide (V.int d = V.int (1 : Int)) = true
      · rw [if_pos c1]
        refine ⟨line4 m4, ?_⟩
        by_cases c5 : decide ((w.2.1.length : Int) < (3 : Int)) = true
        · rw [if_pos c5]
          have := of_decide_eq_true c5
          exact way1 (by omega)
        · rw [if_neg c5]
          by_cases c2 : decide (V.int d = V.int (2 : Int)) = true
          · rw [if_pos c2]
            refine ⟨line4 m4, ?_⟩
            by_cases c3 : decide (V.int (w.2.1.length : Int) = V.int (1 : Int)) = true
            · rw [if_pos c3]
              refine ⟨line4 t4, ?_⟩
              by_cases c4 : decide ((w.2.2.length : Int) < (4 : Int)) = true
              · rw [if_pos c4]
                have := of_decide_eq_true c4
                have := i1 c3
                exact way2 (by omega) (by omega)
              · rw [if_neg c4]
                exact fall
            · rw [if_neg c3]
              exact fall
          · rw [if_neg c2]
            exact fall
      · rw [if_neg c1]
        by_cases c2 : decide (V.int d = V.int (2 : Int)) = true
        · rw [if_pos c2]
          refine ⟨line4 m4, ?_⟩
          by_cases c3 : decide (V.int (w.2.1.length : Int) = V.int (1 : Int)) = true
          · rw [if_pos c3]
            refine ⟨line4 t4, ?_⟩
            by_cases c4 : decide ((w.2.2.length : Int) < (4 : Int)) = true
            · rw [if_pos c4]
              have := of_decide_eq_true c4
              have := i1 c3
              exact way2 (by omega) (by omega)
            · rw [if_neg c4]
              exact fall
          · rw [if_neg c3]
            exact fall
        · rw [if_neg c2]
          exact fall
  · rw [if_neg c0]
    by_cases c1 : decide (V.int d = V.int (1 : Int)) = true
    · rw [if_pos c1]
      refine ⟨line4 m4, ?_⟩
      by_cases c5 : decide ((w.2.1.length : Int) < (3 : Int)) = true
      · rw [if_pos c5]
        have := of_decide_eq_true c5
        exact way1 (by omega)
      · rw [if_neg c5]
        by_cases c2 : decide (V.int d = V.int (2 : Int)) = true
        · rw [if_pos c2]
          refine ⟨line4 m4, ?_⟩
          by_cases c3 : decide (V.int (w.2.1.length : Int) = V.int (1 : Int)) = true
          · rw [if_pos c3]
            refine ⟨line4 t4, ?_⟩
            by_cases c4 : decide ((w.2.2.length : Int) < (4 : Int)) = true
            · rw [if_pos c4]
              have := of_decide_eq_true c4
              have := i1 c3
              exact way2 (by omega) (by omega)
            · rw [if_neg c4]
              exact fall
          · rw [if_neg c3]
            exact fall
        · rw [if_neg c2]
          exact fall
    · rw [if_neg c1]
      by_cases c2 : decide (V.int d = V.int (2 : Int)) = true
      · rw [if_pos c2]
        refine ⟨line4 m4, ?_⟩
        by_cases c3 : decide (V.int (w.2.1.length : Int) = V.int (1 : Int)) = true
        · rw [if_pos c3]
          refine ⟨line4 t4, ?_⟩
          by_cases c4 : decide ((w.2.2.length : Int) < (4 : Int)) = true
          · rw [if_pos c4]
            have := of_decide_eq_true c4
            have := i1 c3
            exact way2 (by omega) (by omega)
          · rw [if_neg c4]
            exact fall
        · rw [if_neg c3]
          exact fall
      · rw [if_neg c2]
        exact fall
/-! ### law k23: lines, what reduced words tell, and what the law looks for -/
/-- a line, as long as need be -/
theorem line_ok {w : Str × Str × Str} (hw : WV w) {n : Int} (hn : lst w ≤ n) (hb : n ≤ 5000) {k : Str → Prop} (q : ∀ z : Str, L z = rw_ w n → k z) : M_line w n k := by
  have g := @lst_ge w
  have m1 := hw.m1
  have m4 := hw.m4
  have hm : 0 < (L w.2.1).length := by omega
  unfold M_line
  refine whileC_ok (fun s => ∃ j : Nat, L s = cyc (L w.2.1) (j * (L w.2.1).length) ∧ j * (L w.2.1).length ≤ n.toNat + 4) (fun s => n.toNat + 8 - (L s).length) (fun s k1 ⟨j, hs, hj⟩ hk => ?_) ⟨0, by rw [L_empty, Nat.zero_mul]; rfl, by omega⟩
  have hl : (L s).length = j * (L w.2.1).length := by rw [hs, cyc_len]
  refine ⟨line_of (n := 6000) (by omega) (by decide), ?_⟩
  rw [len_L]
  by_cases c : ((L s).length : Int) < n
  · rw [if_pos (dec_true c)]
    refine ⟨?_, hk _ ⟨j + 1, ?_, ?_⟩ ?_⟩
    · have e : sizeLine = 16777216 := sizeLine_eq
      rw [len_L, e]
      omega
    · rw [L_app, hs, cyc_end hm]
    · rw [Nat.succ_mul]
      omega
    · rw [L_app, List.length_append]
      omega
  · rw [if_neg (by simpa using c)]
    have hi : 0 ≤ n - ((L w.1).length : Int) - ((L w.2.2).length : Int) := by omega
    have hc : L (cutS s none (some (n - ((L w.1).length : Int) - ((L w.2.2).length : Int)))) = cyc (L w.2.1) (n.toNat - (L w.1).length - (L w.2.2).length) := by
      rw [cut_take _ hi, hs, cyc_take _ (by omega)]
      congr 1
      omega
    have e : sizeLine = 16777216 := sizeLine_eq
    refine ⟨line4 hw.h4, line4 hw.t4, line_of (n := 6000) (by omega) (by decide), ?_, ?_, q _ ?_⟩
    · rw [len_L, len_L, len_L, hc, cyc_len, e]
      have := hw.h4
      omega
    · rw [len_L, L_app, List.length_append, len_L, len_L, hc, cyc_len, e]
      have := hw.h4
      have := hw.t4
      omega
    · rw [L_app, L_app, len_L, len_L, hc]
      rfl
theorem finRR : ((allW 4).all fun h => (allW 4).all fun m => nb m (red2 (red2 h m).1 (red2 h m).2 == red2 h m)) = true := by decide +kernel
theorem stp_stp (m t : List Nat) : stp m (stp m t) = stp m t := by
  unfold stp
  split
  · generalize (fun x => m.contains x) = p
    induction t with
    | nil => rfl
    | cons x t ih =>
      rw [List.dropWhile_cons]
      split
      · exact ih
      · rename_i c
        rw [List.dropWhile_cons, if_neg c]
  · rfl
theorem red_red {w : Str × Str × Str} (hw : WV w) : red (red w) = red w := by
  have q := eq_of_beq (fin_use (p := fun h m => red2 (red2 h m).1 (red2 h m).2 == red2 h m) finRR hw.h4 hw.m1 hw.m4 hw.mh hw.mm)
  have e : red2 (L (red w).1) (L (red w).2.1) = red2 (L w.1) (L w.2.1) := by
    unfold red
    simp only [L_S]
    exact q
  refine red_of e ?_
  show stp _ (L (S _)) = _
  rw [L_S, stp_stp]

theorem forC_at {α : Type} {body : α → Unit → (Unit → Prop) → Prop} {k : Unit → Prop} {x : α} {post : List α} : ∀ {pre : List α}, (∀ y ∈ pre, ∀ k' : Unit → Prop, k' () → body y () k') → (∀ k' : Unit → Prop, body x () k') → forC body (pre ++ x :: post) () k
  | [], _, hx => hx _
  | y :: pre, hp, hx => hp y List.mem_cons_self _ (forC_at (fun z hz => hp z (List.mem_cons_of_mem _ hz)) hx)
theorem forC_all {α : Type} {body : α → Unit → (Unit → Prop) → Prop} {k : Unit → Prop} (q : k ()) : ∀ {xs : List α}, (∀ y ∈ xs, ∀ k' : Unit → Prop, k' () → body y () k') → forC body xs () k
  | [], _ => q
  | y :: xs, hp => hp y List.mem_cons_self _ (forC_all q fun z hz => hp z (List.mem_cons_of_mem _ hz))
theorem forC_okN {α S : Type} {body : α → S → (S → Prop) → Prop} {k : S → Prop} (I : Nat → S → Prop) (N : Nat) : ∀ {xs : List α} {i : Nat} {s0 : S}, i + xs.length ≤ N → (∀ x ∈ xs, ∀ (j : Nat) (s : S) (k' : S → Prop), j < N → I j s → (∀ s', I (j + 1) s' → k' s') → body x s k') → I i s0 → (∀ s, I (i + xs.length) s → k s) → forC body xs s0 k
  | [], i, s0, _, _, h, q => q s0 h
  | x :: xs, i, s0, hN, hb, h, q => hb x List.mem_cons_self i s0 _ (by rw [List.length_cons] at hN; omega) h fun s' h' => forC_okN I N (i := i + 1) (by rw [List.length_cons] at hN; omega) (fun y hy => hb y (List.mem_cons_of_mem _ hy)) h' fun s h2 => q s (by rw [List.length_cons, show i + (xs.length + 1) = i + 1 + xs.length by omega]; exact h2)
theorem rangeI_split {lo x hi : Int} (h1 : lo ≤ x) (h2 : x < hi) : rangeI lo hi = rangeI lo x ++ x :: rangeI (x + 1) hi := by
  apply List.ext_getElem?
  intro j
  by_cases c : j < (hi - lo).toNat
  · rw [rangeI_get c]
    by_cases c1 : j < (x - lo).toNat
    · rw [List.getElem?_append_left (by rw [rangeI_len]; exact c1), rangeI_get c1]
    · rw [List.getElem?_append_right (by rw [rangeI_len]; omega), rangeI_len]
      cases e : j - (x - lo).toNat with
      | zero =>
        show some (lo + (j : Int)) = some x
        congr 1
        omega
      | succ i =>
        rw [List.getElem?_cons_succ, rangeI_get (by omega)]
        congr 1
        omega
  · rw [List.getElem?_eq_none (by rw [rangeI_len]; omega), List.getElem?_eq_none (by rw [List.length_append, List.length_cons, rangeI_len, rangeI_len]; omega)]
/-! a reduced word, from what it tells -/
def per (l : List Nat) (p k : Nat) : Bool := (List.range (16 - p)).all fun j => decide (j < k) || l[j]? == l[j + p]?
def dec (l : List Nat) : List Nat × List Nat := match (List.range 20).find? fun i => per l (i / 5 + 1) (i % 5) with
  | some i => (l.take (i % 5), (l.drop (i % 5)).take (i / 5 + 1))
  | none => ([], [])
def st16 (h m : List Nat) : List Nat := (h ++ cyc m 16).take 16
theorem finD : ((allW 4).all fun h => (allW 4).all fun m => nb m (dec (st16 (red2 h m).1 (red2 h m).2) == red2 h m)) = true := by decide +kernel
theorem finC : ((allW 4).all fun h => (allW 4).all fun m => nb m ((red2 h m).2.length == 1 || !((red2 h m).2.all fun c => some c == (red2 h m).2[0]?))) = true := by decide +kernel
theorem finK : ((allW 4).all fun h => (allW 4).all fun m => nb m (red2 (h.map ctrc) (m.map ctrc) == ((red2 h m).1.map ctrc, (red2 h m).2.map ctrc))) = true := by decide +kernel
theorem finS : ((allW 4).all fun t => (allW 4).all fun m => nb m (stp (m.map ctrc) (t.map ctrc) == (stp m t).map ctrc)) = true := by decide +kernel
theorem row16 {h m t : List Nat} {n : Nat} (h4 : h.length ≤ 4) (hn : 16 + t.length ≤ n) : (row h m t n).take 16 = st16 h m := by
  have t1 : ∀ (K : Nat) (t : List Nat), 16 - h.length ≤ K → (cyc m K ++ t).take (16 - h.length) = cyc m (16 - h.length) := fun K t hk => by
    rw [List.take_append_of_le_length (by rw [cyc_len]; exact hk), cyc_take m hk]
  have t2 : ∀ (K : Nat) (t : List Nat), (h ++ (cyc m K ++ t)).take 16 = h.take 16 ++ (cyc m K ++ t).take (16 - h.length) := fun K t => List.take_append
  have e : st16 h m = (h ++ (cyc m 16 ++ [])).take 16 := by
    rw [List.append_nil]
    rfl
  unfold row
  rw [e, List.append_assoc, t2, t2, t1 _ _ (by omega), t1 _ _ (by omega)]
theorem tails_le {h m t t' : List Nat} {low : Nat} (m1 : 1 ≤ m.length) (m4 : m.length ≤ 4) (hc : (m.length == 1 || !(m.all fun c => some c == m[0]?)) = true) (ht : stp m t' = t') (h0 : h.length + t.length ≤ low) (h0' : h.length + t'.length ≤ low)
    (hr : ∀ n, low ≤ n → n < low + 29 → row h m t n = row h m t' n) : ¬ t.length < t'.length := by
  intro hl
  obtain ⟨y, t2, rfl⟩ : ∃ y t2, t' = y :: t2 := by
    cases t' with
    | nil => simp at hl
    | cons y t2 => exact ⟨y, t2, rfl⟩
  have hy : ∀ i, i < 29 → m[(low + i - (t2.length + 1) - h.length) % m.length]? = some y := fun i hi => by
    have e : (row h m t (low + i))[low + i - (t2.length + 1)]? = (row h m (y :: t2) (low + i))[low + i - (t2.length + 1)]? := by rw [hr (low + i) (by omega) (by omega)]
    simp only [List.length_cons] at hl h0'
    rw [row_mid (by omega) (by omega) (by omega) (by omega), row_tail (by rw [List.length_cons]; omega) (by rw [List.length_cons]; exact Nat.le_refl _)] at e
    rw [e, List.length_cons, Nat.sub_self]
    rfl
  have all : ∀ r, r < m.length → m[r]? = some y := fun r hr' => by
    simp only [List.length_cons] at h0'
    have q := hy ((r + m.length - (low - (t2.length + 1) - h.length) % m.length) % m.length) (by have := Nat.mod_lt (r + m.length - (low - (t2.length + 1) - h.length) % m.length) (show 0 < m.length by omega); omega)
    generalize hb : low - (t2.length + 1) - h.length = b at q
    rw [← q]
    congr 1
    have hb' : low + (r + m.length - b % m.length) % m.length - (t2.length + 1) - h.length = b + (r + m.length - b % m.length) % m.length := by omega
    rw [hb', Nat.add_mod, Nat.mod_mod, ← Nat.add_mod, Nat.add_mod b]
    have hbm := Nat.mod_lt b (show 0 < m.length by omega)
    rw [Nat.add_mod_mod, show b % m.length + (r + m.length - b % m.length) = r + m.length by omega, Nat.add_mod_right, Nat.mod_eq_of_lt hr']
  have h1 : m.length = 1 := by
    rcases Bool.or_eq_true_iff.mp hc with e | e
    · exact eq_of_beq e
    · exfalso
      rw [Bool.not_eq_true', ← Bool.not_eq_true] at e
      refine e (List.all_eq_true.mpr fun c hcm => ?_)
      obtain ⟨r, hr', hrc⟩ := List.getElem_of_mem hcm
      have a1 := all r hr'
      rw [List.getElem?_eq_getElem hr', hrc] at a1
      rw [all 0 (by omega), a1]
      exact beq_self_eq_true _
  obtain ⟨c, rfl⟩ := List.length_eq_one_iff.mp h1
  have ec : c = y := by
    have := all 0 Nat.zero_lt_one
    exact Option.some.inj this
  subst ec
  unfold stp at ht
  rw [if_pos (show ([c] : List Nat).length = 1 from rfl), List.dropWhile_cons, if_pos (by simp)] at ht
  have := dropW_len (p := fun x => [c].contains x) t2
  have e := congrArg List.length ht
  rw [List.length_cons] at e
  omega
theorem tails_eq {h m t t' : List Nat} {low : Nat} (h0 : h.length + t.length ≤ low) (hl : t.length = t'.length) (hr : row h m t low = row h m t' low) : t = t' := by
  apply List.ext_getElem?
  intro j
  by_cases c : j < t.length
  · have e : (row h m t low)[low - t.length + j]? = (row h m t' low)[low - t.length + j]? := by rw [hr]
    rw [row_tail h0 (by omega), row_tail (by omega) (by omega)] at e
    rw [show low - t.length + j - (low - t.length) = j by omega, show low - t.length + j - (low - t'.length) = j by omega] at e
    exact e
  · rw [List.getElem?_eq_none (by omega), List.getElem?_eq_none (by omega)]
/-- words that tell the same rows have one reduced word -/
theorem red_uniq {w v : Str × Str × Str} (hw : WV w) (hv : WV v) {low : Int} (h1 : lst w ≤ low) (h2 : lst v ≤ low) (hr : ∀ n, low ≤ n → n < low + 29 → rw_ w n = rw_ v n) : red v = red w := by
  have rw1 := rd hw
  have rv1 := rd hv
  have wr := red_wv hw
  have vr := red_wv hv
  have gl := @lst_ge (red w)
  have gv := @lst_ge (red v)
  have lw := red_lst hw
  have lv := red_lst hv
  have hr' : ∀ n, low ≤ n → n < low + 29 → rw_ (red w) n = rw_ (red v) n := fun n a b => by rw [red_row hw (by omega), red_row hv (by omega), hr n a b]
  have dw := eq_of_beq (fin_use (p := fun h m => dec (st16 (red2 h m).1 (red2 h m).2) == red2 h m) finD hw.h4 hw.m1 hw.m4 hw.mh hw.mm)
  have dv := eq_of_beq (fin_use (p := fun h m => dec (st16 (red2 h m).1 (red2 h m).2) == red2 h m) finD hv.h4 hv.m1 hv.m4 hv.mh hv.mm)
  have cw := fin_use (p := fun h m => ((red2 h m).2.length == 1 || !((red2 h m).2.all fun c => some c == (red2 h m).2[0]?))) finC hw.h4 hw.m1 hw.m4 hw.mh hw.mm
  have Lr : ∀ u : Str × Str × Str, L (red u).1 = (red2 (L u.1) (L u.2.1)).1 ∧ L (red u).2.1 = (red2 (L u.1) (L u.2.1)).2 ∧ L (red u).2.2 = stp (red2 (L u.1) (L u.2.1)).2 (L u.2.2) := fun u => ⟨L_S _, L_S _, L_S _⟩
  obtain ⟨w1, w2, w3⟩ := Lr w
  obtain ⟨v1, v2, v3⟩ := Lr v
  have s16 : st16 (red2 (L w.1) (L w.2.1)).1 (red2 (L w.1) (L w.2.1)).2 = st16 (red2 (L v.1) (L v.2.1)).1 (red2 (L v.1) (L v.2.1)).2 := by
    have e : (rw_ (red w) (low + 28)).take 16 = (rw_ (red v) (low + 28)).take 16 := by rw [hr' (low + 28) (by omega) (by omega)]
    unfold rw_ at e
    rw [row16 wr.h4 (by have := wr.t4; omega), row16 vr.h4 (by have := vr.t4; omega), w1, w2, v1, v2] at e
    exact e
  have er : red2 (L v.1) (L v.2.1) = red2 (L w.1) (L w.2.1) := by rw [← dw, ← dv, s16]
  have hm := wr.m1
  have hm4 := wr.m4
  rw [w2] at hm hm4
  rw [w1, w3] at gl
  rw [v1, v3, er] at gv
  have hrr : ∀ n : Nat, low.toNat ≤ n → n < low.toNat + 29 → row (red2 (L w.1) (L w.2.1)).1 (red2 (L w.1) (L w.2.1)).2 (stp (red2 (L w.1) (L w.2.1)).2 (L w.2.2)) n = row (red2 (L w.1) (L w.2.1)).1 (red2 (L w.1) (L w.2.1)).2 (stp (red2 (L w.1) (L w.2.1)).2 (L v.2.2)) n := fun n a b => by
    have e := hr' (n : Int) (by omega) (by omega)
    unfold rw_ at e
    rw [w1, w2, w3, v1, v2, v3, er, Int.toNat_natCast] at e
    exact e
  have n1 := tails_le (low := low.toNat) hm hm4 cw (stp_stp _ _) (by omega) (by omega) hrr
  have n2 := tails_le (low := low.toNat) hm hm4 cw (stp_stp _ _) (by omega) (by omega) fun n a b => (hrr n a b).symm
  have et := tails_eq (low := low.toNat) (by omega) (by omega) (hrr _ (Nat.le_refl _) (by omega))
  exact red_of er et.symm
theorem forC_atS {α : Type} {body : α → Unit → (Unit → Prop) → Prop} {k : Unit → Prop} {x : α} {xs pre post : List α} (e : xs = pre ++ x :: post) (hp : ∀ y ∈ pre, ∀ k' : Unit → Prop, k' () → body y () k') (hx : ∀ k' : Unit → Prop, body x () k') : forC body xs () k := by
  rw [e]
  exact forC_at hp hx
theorem cut_mid (z : Str) (a b : Nat) (hb : b ≤ (L z).length) (hab : a ≤ b) : L (cutS z (some (a : Int)) (some (b : Int))) = ((L z).drop a).take (b - a) := by
  unfold cutS
  rw [L_mk, HT.sIx_nat, HT.sIx_nat, len_L, Nat.min_eq_left hb, Nat.min_eq_left (by omega)]
theorem cand_wv {w : Str × Str × Str} (hw : WV w) {z : Str} (hz : L z = rw_ w 36) {a b c : Int} (a0 : 0 ≤ a) (a4 : a ≤ 4) (b1 : 1 ≤ b) (b4 : b ≤ 4) (c0 : 0 ≤ c) (c4 : c ≤ 4) :
    L (cutS z none (some a)) = (rw_ w 36).take a.toNat ∧ L (cutS z (some a) (some (a + b))) = ((rw_ w 36).drop a.toNat).take b.toNat ∧ L (cutS z (some ((36 : Int) - c)) none) = (rw_ w 36).drop (36 - c.toNat) ∧
    WV ((cutS z none (some a)), (cutS z (some a) (some (a + b))), (cutS z (some ((36 : Int) - c)) none)) := by
  have lw := lst_le hw
  have hl : (rw_ w 36).length = 36 := rw_len (by omega)
  have mk := rw_mk hw 36
  have e1 : L (cutS z none (some a)) = (rw_ w 36).take a.toNat := by rw [cut_take z a0, hz]
  have e2 : L (cutS z (some a) (some (a + b))) = ((rw_ w 36).drop a.toNat).take b.toNat := by
    have := cut_mid z a.toNat (a.toNat + b.toNat) (by rw [hz, hl]; omega) (by omega)
    rw [show ((a.toNat : Nat) : Int) = a by omega, show ((a.toNat + b.toNat : Nat) : Int) = a + b by omega, hz, show a.toNat + b.toNat - a.toNat = b.toNat by omega] at this
    exact this
  have e3 : L (cutS z (some ((36 : Int) - c)) none) = (rw_ w 36).drop (36 - c.toNat) := by
    have := cut_drop z (36 - c.toNat)
    rw [show ((36 - c.toNat : Nat) : Int) = (36 : Int) - c by omega, hz] at this
    exact this
  refine ⟨e1, e2, e3, ⟨?_, ?_, ?_, ?_, ?_, ?_, ?_⟩⟩
  · show (L (cutS z none (some a))).length ≤ 4
    rw [e1, List.length_take]
    omega
  · show 1 ≤ (L (cutS z (some a) (some (a + b)))).length
    rw [e2, List.length_take, List.length_drop, hl]
    omega
  · show (L (cutS z (some a) (some (a + b)))).length ≤ 4
    rw [e2, List.length_take]
    omega
  · show (L (cutS z (some ((36 : Int) - c)) none)).length ≤ 4
    rw [e3, List.length_drop, hl]
    omega
  · show Mk (L (cutS z none (some a)))
    rw [e1]
    exact mk_take mk _
  · show Mk (L (cutS z (some a) (some (a + b))))
    rw [e2]
    exact mk_take (mk_drop mk _) _
  · show Mk (L (cutS z (some ((36 : Int) - c)) none))
    rw [e3]
    exact mk_drop mk _
theorem strs_py (ns : List Str) : pyOf (D.lst (ns.map fun y => D.v (V.str y))) = .list (ns.map PyData.str) := by
  simp only [pyOf]
  congr 1
  induction ns with
  | nil => rfl
  | cons n ns ih =>
    rw [List.map_cons, List.map_cons]
    simp only [pyL, pyOf]
    rw [ih]
theorem strs_plain (ns : List Str) : plainD (D.lst (ns.map fun y => D.v (V.str y))) = true := by
  simp only [plainD]
  induction ns with
  | nil => rfl
  | cons n ns ih =>
    rw [List.map_cons]
    simp only [plainL, plainD, Bool.true_and]
    exact ih
theorem strOk_mk {z : Str} (h : Mk (L z)) : PyData.strOk z = true := by
  unfold PyData.strOk
  rw [← Array.all_toList, List.all_eq_true]
  intro c hc
  rcases h c hc with e | e <;> subst e <;> decide
theorem strs_shaped (ns : List Str) (ok : ∀ z ∈ ns, Mk (L z)) : SeqAt.shaped (pyOf (D.lst (ns.map fun y => D.v (V.str y)))) = true := by
  rw [strs_py]
  unfold SeqAt.shaped
  rw [Bool.and_eq_true]
  have h : ∀ ns : List Str, (∀ z ∈ ns, Mk (L z)) → PyData.canLayAll0 (ns.map PyData.str) = true ∧ PyData.depthAll (ns.map PyData.str) ≤ 1 := by
    intro ns
    induction ns with
    | nil => exact fun _ => ⟨rfl, by simp [PyData.depthAll]⟩
    | cons n ns ih =>
      intro ok
      replace ih := ih fun z hz => ok z (List.mem_cons_of_mem _ hz)
      refine ⟨?_, ?_⟩
      · rw [List.map_cons]
        simp only [PyData.canLayAll0, PyData.canLay0]
        rw [strOk_mk (ok n List.mem_cons_self), Bool.true_and]
        exact ih.1
      · rw [List.map_cons]
        simp only [PyData.depthAll, PyData.depth]
        have := ih.2
        omega
  refine ⟨?_, ?_⟩
  · simp only [PyData.canLay0]
    exact (h ns ok).1
  · refine decide_eq_true ?_
    simp only [PyData.depth]
    have := (h ns ok).2
    omega
theorem t3_plain (a b c : Str) : plainD (D.tup [(D.v (V.str a)), (D.v (V.str b)), (D.v (V.str c))]) = true := rfl
theorem wv_shaped {w : Str × Str × Str} (hw : WV w) : SeqAt.shaped (pyOf (D.tup [(D.v (V.str w.1)), (D.v (V.str w.2.1)), (D.v (V.str w.2.2))])) = true := by
  simp only [pyOf, pyL]
  unfold SeqAt.shaped
  simp only [PyData.canLay0, PyData.canLayAll0, PyData.depth, PyData.depthAll]
  rw [strOk_mk hw.mh, strOk_mk hw.mm, strOk_mk hw.mt]
  rfl
theorem mul_L0 (x : Str) (k : Nat) : L (Txt.mul x (k : Int)) = (List.replicate k (L x)).flatten := by
  cases k with
  | zero =>
    unfold Txt.mul
    rw [if_pos (by omega)]
    rfl
  | succ k => exact mul_L x (by omega)
theorem mulok0 {x : Str} {k : Nat} (h : (L x).length ≤ 4) (hk : k ≤ 1000) : MulOk x (k : Int) := by
  have hl : x.length ≤ 4 := by rw [len_L]; exact h
  refine ⟨?_, fun h1 _ => ?_, fun h1 _ => ?_⟩
  · rw [Bool.or_eq_false_iff, decide_eq_false_iff_not, decide_eq_false_iff_not]
    omega
  · have a : (4 : Int) ≤ (2 ^ 63 - 1) / (k : Int) := Int.le_ediv_of_mul_le (by omega) (by omega)
    have : (x.length : Int) ≤ 4 := by omega
    omega
  · unfold Builtin.Str.tooLong
    rw [decide_eq_false_iff_not, Int.toNat_natCast]
    have e : sizeLine = 16777216 := sizeLine_eq
    have : x.length * k ≤ 4 * 1000 := Nat.mul_le_mul hl hk
    omega
theorem cyc_rep {m : List Nat} (hm : 0 < m.length) : ∀ k : Nat, (List.replicate k m).flatten = cyc m (k * m.length)
  | 0 => by rw [Nat.zero_mul]; rfl
  | k + 1 => by
    rw [List.replicate_succ, List.flatten_cons, cyc_rep hm k, Nat.succ_mul, Nat.add_comm, cyc_add hm]
theorem wrow_ok {w : Str × Str × Str} (hw : WV w) {n : Int} (hn : lst w ≤ n) (hb : n ≤ 900) {k : Str → Prop} (q : k (S (rw_ w n))) : M_Word_row w n k := by
  have g := @lst_ge w
  have h4 := hw.h4
  have m1 := hw.m1
  have m4 := hw.m4
  have t4 := hw.t4
  have e : sizeLine = 16777216 := sizeLine_eq
  have kb : n - (w.1.length : Int) - (w.2.2.length : Int) = ((n.toNat - (L w.1).length - (L w.2.2).length : Nat) : Int) := by
    rw [len_L, len_L]
    omega
  unfold M_Word_row
  refine checkp_ok hw hn ?_
  rw [if_neg (by simp only [decide_eq_true_eq]; omega)]
  refine ⟨line4 h4, line4 t4, ?_⟩
  rw [kb]
  generalize hK : n.toNat - (L w.1).length - (L w.2.2).length = K
  have hc : L (cutS (Txt.mul w.2.1 (K : Int)) none (some (K : Int))) = cyc (L w.2.1) K := by
    rw [cut_take _ (by omega), Int.toNat_natCast, mul_L0, cyc_rep (by omega), cyc_take _ (Nat.le_mul_of_pos_right _ (by omega))]
  have hm : (L (Txt.mul w.2.1 (K : Int))).length ≤ 4000 := by
    rw [mul_L0, cyc_rep (by omega), cyc_len]
    have : K * (L w.2.1).length ≤ 900 * 4 := Nat.mul_le_mul (by omega) m4
    omega
  refine ⟨mulok0 m4 (by omega), line_of hm (by decide), ?_, ?_, ?_⟩
  · rw [len_L, len_L, hc, cyc_len]
    omega
  · rw [len_L, L_app, List.length_append, len_L, hc, cyc_len]
    omega
  · have ez : w.1 ++ cutS (Txt.mul w.2.1 (K : Int)) none (some (K : Int)) ++ w.2.2 = S (rw_ w n) := L_ext (by
      rw [L_app, L_app, hc, L_S, ← hK]
      rfl)
    rw [ez]
    exact q
theorem red_ctr {w : Str × Str × Str} (hw : WV w) : red (ctrw w) = ctrw (red w) := by
  have q := eq_of_beq (fin_use (p := fun h m => red2 (h.map ctrc) (m.map ctrc) == ((red2 h m).1.map ctrc, (red2 h m).2.map ctrc)) finK hw.h4 hw.m1 hw.m4 hw.mh hw.mm)
  have r := rd hw
  have hb := r.hb
  have hbm := r.hbm
  have m4 := hw.m4
  have s := eq_of_beq (fin_use (p := fun t m => stp (m.map ctrc) (t.map ctrc) == (stp m t).map ctrc) finS (h := L w.2.2) (m := (red2 (L w.1) (L w.2.1)).2) hw.t4 hb (by omega) hw.mt r.mb)
  unfold red ctrw
  simp only [L_S]
  rw [q]
  simp only
  rw [s]
/-! ### law k24: where two words part -/
structure PT (w v : Str × Str × Str) (n i : Int) : Prop where
  lw : lst w ≤ n
  lv : lst v ≤ n
  hi : n ≤ 37
  same : ∀ m, lst w ≤ m → lst v ≤ m → m < n → rw_ w m = rw_ v m
  i1 : 1 ≤ i
  i2 : i ≤ n
  pre : ∀ j, j < (i - 1).toNat → (rw_ w n)[j]? = (rw_ v n)[j]?
  ne : (rw_ w n)[(i - 1).toNat]? ≠ (rw_ v n)[(i - 1).toNat]?
theorem PT.symm {w v : Str × Str × Str} {n i : Int} (p : PT w v n i) : PT v w n i :=
  ⟨p.lv, p.lw, p.hi, fun m a b c => (p.same m b a c).symm, p.i1, p.i2, fun j h => (p.pre j h).symm, fun e => p.ne e.symm⟩
theorem PT.differ {w v : Str × Str × Str} {n i : Int} (p : PT w v n i) : rw_ w n ≠ rw_ v n := fun e => p.ne (by rw [e])
theorem PT.red {w v : Str × Str × Str} {n i : Int} (hw : WV w) (hv : WV v) (p : PT w v n i) : red w ≠ red v := fun e => p.differ (by
  rw [← red_row hw p.lw, ← red_row hv p.lv, e])
theorem first_nat {p : Nat → Prop} (dp : ∀ n, Decidable (p n)) : ∀ (k : Nat), (∃ j, j < k ∧ p j) → ∃ j, j < k ∧ p j ∧ ∀ i, i < j → ¬ p i
  | 0, ⟨j, h, _⟩ => absurd h (Nat.not_lt_zero _)
  | k + 1, ⟨j, h, hp⟩ => by
    by_cases c : ∃ j, j < k ∧ p j
    · obtain ⟨j, a, b, d⟩ := first_nat dp k c
      exact ⟨j, by omega, b, d⟩
    · refine ⟨j, h, hp, fun i hi q => c ⟨i, by omega, q⟩⟩
theorem first_ne {a b : List Nat} (hl : a.length = b.length) (h : a ≠ b) : ∃ j, j < a.length ∧ a[j]? ≠ b[j]? ∧ ∀ i, i < j → a[i]? = b[i]? := by
  have ex : ∃ j, j < a.length ∧ a[j]? ≠ b[j]? := by
    refine Classical.byContradiction fun c => h (List.ext_getElem? fun j => ?_)
    by_cases hj : j < a.length
    · exact Classical.byContradiction fun q => c ⟨j, hj, q⟩
    · rw [List.getElem?_eq_none (by omega), List.getElem?_eq_none (by omega)]
  obtain ⟨j, h1, h2, h3⟩ := first_nat (p := fun j => a[j]? ≠ b[j]?) (fun _ => inferInstance) _ ex
  exact ⟨j, h1, h2, fun i hi => Classical.byContradiction (h3 i hi)⟩
abbrev low2 (w v : Str × Str × Str) : Int := if lst v > lst w then lst v else lst w
theorem low2_ge (w v : Str × Str × Str) : lst w ≤ low2 w v ∧ lst v ≤ low2 w v ∧ (low2 w v = lst w ∨ low2 w v = lst v) := by
  unfold low2
  split <;> omega
theorem pt_ex {w v : Str × Str × Str} (hw : WV w) (hv : WV v) (h : red w ≠ red v) : ∃ n i, PT w v n i ∧ n < low2 w v + 29 := by
  obtain ⟨l1, l2, l3⟩ := low2_ge w v
  have hw8 := lst_le hw
  have hv8 := lst_le hv
  have gw := (@lst_ge w).2
  have ex : ∃ j, j < 29 ∧ rw_ w (low2 w v + (j : Nat)) ≠ rw_ v (low2 w v + (j : Nat)) := by
    refine Classical.byContradiction fun c => h (red_uniq hw hv l1 l2 fun n a b => ?_).symm
    refine Classical.byContradiction fun q => c ⟨(n - low2 w v).toNat, by omega, ?_⟩
    rw [show low2 w v + ((n - low2 w v).toNat : Int) = n by omega]
    exact q
  obtain ⟨j, j1, j2, j3⟩ := first_nat (p := fun j : Nat => rw_ w (low2 w v + (j : Int)) ≠ rw_ v (low2 w v + (j : Int))) (fun _ => inferInstance) _ ex
  have e1 : (rw_ w (low2 w v + (j : Int))).length = (low2 w v + (j : Int)).toNat := rw_len (by omega)
  have e2 : (rw_ v (low2 w v + (j : Int))).length = (low2 w v + (j : Int)).toNat := rw_len (by omega)
  obtain ⟨i, i1, i2, i3⟩ := first_ne (e1.trans e2.symm) j2
  refine ⟨low2 w v + (j : Int), (i : Int) + 1, ⟨by omega, by omega, by omega, fun m a b c => ?_, by omega, by omega, fun j' h' => i3 j' (by omega), ?_⟩, by omega⟩
  · refine Classical.byContradiction fun q => j3 (m - low2 w v).toNat (by omega) ?_
    rw [show low2 w v + ((m - low2 w v).toNat : Int) = m by omega]
    exact q
  · rw [show ((i : Int) + 1 - 1).toNat = i by omega]
    exact i2
theorem PT.get {w v : Str × Str × Str} {n i : Int} (p : PT w v n i) : ∃ a b, (rw_ w n)[(i - 1).toNat]? = some a ∧ (rw_ v n)[(i - 1).toNat]? = some b ∧ a ≠ b := by
  have e1 := rw_len p.lw
  have e2 := rw_len p.lv
  have := p.i1
  have := p.i2
  refine ⟨_, _, List.getElem?_eq_getElem (by omega), List.getElem?_eq_getElem (by omega), fun e => p.ne ?_⟩
  rw [List.getElem?_eq_getElem (by omega), List.getElem?_eq_getElem (by omega), e]
theorem rangeI_memL {lo hi n : Int} (h1 : lo ≤ n) (h2 : n < hi) : n ∈ rangeI lo hi := by
  rw [rangeI_split h1 h2]
  exact List.mem_append_right _ List.mem_cons_self
theorem filC_ok {α β : Type} {body : α → (Option β → Prop) → Prop} {k : List β → Prop} (g : α → Option β) : ∀ {xs : List α} {acc : List β}, (∀ x ∈ xs, ∀ k' : Option β → Prop, k' (g x) → body x k') → k (acc ++ xs.filterMap g) → filC body xs acc k
  | [], acc, _, q => by
    rw [List.filterMap_nil, List.append_nil] at q
    exact q
  | x :: xs, acc, hb, q => hb x List.mem_cons_self _ (by
    cases e : g x with
    | none =>
      rw [List.filterMap_cons_none e] at q
      exact filC_ok g (fun y hy => hb y (List.mem_cons_of_mem _ hy)) q
    | some y =>
      rw [List.filterMap_cons_some e] at q
      exact filC_ok g (fun y hy => hb y (List.mem_cons_of_mem _ hy)) (by rw [List.append_assoc]; exact q))
/-- what the law looks for -/
theorem due_none {w v : Str × Str × Str} (hw : WV w) (hv : WV v) (h : red w = red v) {k : Option (Int × Int) → Prop} (q : k none) : M_due w v k := by
  obtain ⟨l1, l2, l3⟩ := low2_ge w v
  have hw8 := lst_le hw
  have hv8 := lst_le hv
  unfold M_due
  refine least_ok hw (least_ok hv (forC_all q fun n hn k' hk => ?_))
  obtain ⟨n1, n2⟩ := rangeI_mem hn
  change low2 w v ≤ n at n1
  change n < low2 w v + 29 at n2
  refine line_ok hw (by omega) (by omega) fun z hz => line_ok hv (by omega) (by omega) fun z' hz' => ?_
  have e : z = z' := L_ext (by rw [hz, hz', ← red_row hw (by omega), ← red_row hv (by omega), h])
  rw [e, if_neg (by simp)]
  exact hk
theorem due_some {w v : Str × Str × Str} (hw : WV w) (hv : WV v) {n i : Int} (p : PT w v n i) (hn : n < low2 w v + 29) {k : Option (Int × Int) → Prop} (q : k (some (n, i))) : M_due w v k := by
  obtain ⟨l1, l2, l3⟩ := low2_ge w v
  have hw8 := lst_le hw
  have hv8 := lst_le hv
  have gw := (@lst_ge w).2
  have pl := p.lw
  have pv := p.lv
  have ph := p.hi
  have i1 := p.i1
  have i2 := p.i2
  have ln : low2 w v ≤ n := by omega
  unfold M_due
  refine least_ok hw (least_ok hv ?_)
  change forC _ (rangeI (low2 w v) (low2 w v + 29)) () _
  rw [rangeI_split ln hn]
  refine forC_at (fun m hm k' hk => ?_) fun k' => ?_
  · obtain ⟨m1, m2⟩ := rangeI_mem hm
    refine line_ok hw (by omega) (by omega) fun z hz => line_ok hv (by omega) (by omega) fun z' hz' => ?_
    have e : z = z' := L_ext (by rw [hz, hz', p.same m (by omega) (by omega) m2])
    rw [e, if_neg (by simp)]
    exact hk
  · refine line_ok hw (by omega) (by omega) fun z hz => line_ok hv (by omega) (by omega) fun z' hz' => ?_
    have ne : z ≠ z' := fun e => p.differ (by rw [← hz, ← hz', e])
    rw [if_pos (by rw [eqS, decide_eq_false (fun e => ne (L_ext e))]; rfl)]
    refine ⟨by rw [rangeI_len]; omega, ?_⟩
    have lz : (L z).length = n.toNat := by rw [hz]; exact rw_len pl
    have lz' : (L z').length = n.toNat := by rw [hz']; exact rw_len pv
    refine filC_ok (fun x : Int => if (L z)[x.toNat]? = (L z')[x.toNat]? then none else some x) (fun x hx k' hk => ?_) ?_
    · obtain ⟨x1, x2⟩ := rangeI_mem hx
      obtain ⟨a, ha⟩ : ∃ a, (L z)[x.toNat]? = some a := ⟨_, List.getElem?_eq_getElem (by omega)⟩
      obtain ⟨b, hb⟩ : ∃ b, (L z')[x.toNat]? = some b := ⟨_, List.getElem?_eq_getElem (by omega)⟩
      refine ⟨line_of (n := 100) (by omega) (by decide), a, at_nat' x1 ha, line_of (n := 100) (by omega) (by decide), b, at_nat' x1 hb, ?_⟩
      rw [eqS, L_one, L_one]
      rw [ha, hb] at hk
      by_cases c : a = b
      · subst c
        rw [if_pos rfl] at hk
        rw [if_neg (by simp)]
        exact hk
      · rw [if_neg (by simpa using c)] at hk
        rw [if_pos (by simpa using c)]
        exact hk
    · rw [List.nil_append]
      have mem : ∀ x : Int, x ∈ (rangeI 0 n).filterMap (fun x : Int => if (L z)[x.toNat]? = (L z')[x.toNat]? then none else some x) ↔ (0 ≤ x ∧ x < n) ∧ (L z)[x.toNat]? ≠ (L z')[x.toNat]? := fun x => by
        rw [List.mem_filterMap]
        constructor
        · rintro ⟨y, hy, e⟩
          split at e
          · cases e
          · rename_i c
            cases e
            exact ⟨rangeI_mem hy, c⟩
        · rintro ⟨⟨a, b⟩, c⟩
          exact ⟨x, rangeI_memL a b, by rw [if_neg c]⟩
      have here : i - 1 ∈ (rangeI 0 n).filterMap (fun x : Int => if (L z)[x.toNat]? = (L z')[x.toNat]? then none else some x) := (mem _).mpr ⟨⟨by omega, by omega⟩, by rw [hz, hz']; exact p.ne⟩
      refine ⟨List.length_pos_of_mem here, fun y hy hmin => ?_⟩
      obtain ⟨⟨y1, y2⟩, y3⟩ := (mem y).mp hy
      have y4 := hmin _ here
      have e : y = i - 1 := by
        refine Classical.byContradiction fun c => y3 ?_
        rw [hz, hz']
        exact p.pre _ (by omega)
      rw [e, show (1 : Int) + (i - 1) = i by omega]
      exact q
/-! what the words tell -/
theorem same_false {w v : Str × Str × Str} (hw : WV w) (hv : WV v) (e : red w ≠ red v) {k : Bool → Prop} (q : k false) : M_same_rows w v k := by
  unfold M_same_rows
  refine reduced_ok hw (reduced_ok hv ?_)
  unfold M_Word_eq
  have h : ¬ ((red w).1 = (red v).1 ∧ (red w).2.1 = (red v).2.1 ∧ (red w).2.2 = (red v).2.2) := fun ⟨a, b, c⟩ => e (Prod.ext a (Prod.ext b c))
  by_cases a : (red w).1 = (red v).1
  · rw [if_pos (decide_eq_true (congrArg V.str a))]
    by_cases b : (red w).2.1 = (red v).2.1
    · rw [if_pos (decide_eq_true (congrArg V.str b))]
      by_cases c : (red w).2.2 = (red v).2.2
      · exact absurd ⟨a, b, c⟩ h
      · rw [decide_eq_false (fun z => c (V.str.inj z))]
        exact q
    · rw [if_neg (by simp only [decide_eq_true_eq]; exact fun z => b (V.str.inj z))]
      exact q
  · rw [if_neg (by simp only [decide_eq_true_eq]; exact fun z => a (V.str.inj z))]
    exact q
theorem unlike_none {w v : Str × Str × Str} (hw : WV w) (hv : WV v) (h : red w = red v) {k : Option (Int × Int) → Prop} (q : k none) : M_first_unlike_place w v k := by
  unfold M_first_unlike_place
  refine same_ok hw hv h ?_
  rw [if_pos rfl]
  exact q
theorem fdiff_ok {a b : Str} {n : Nat} {i : Int} (la : (L a).length = n) (lb : (L b).length = n) (hn : n ≤ 1000) (i1 : 1 ≤ i) (i2 : i ≤ n) (pre : ∀ j, j < (i - 1).toNat → (L a)[j]? = (L b)[j]?) (ne : (L a)[(i - 1).toNat]? ≠ (L b)[(i - 1).toNat]?) {k : Int → Prop} (q : k i) : M_first_difference a b k := by
  unfold M_first_difference
  refine whileC_ok (fun s => 1 ≤ s ∧ s ≤ i) (fun s => (i - s).toNat) (fun s k1 ⟨s1, s2⟩ hk => ?_) ⟨by decide, i1⟩
  obtain ⟨x, hx⟩ : ∃ x, (L a)[(s - 1).toNat]? = some x := ⟨_, List.getElem?_eq_getElem (by omega)⟩
  obtain ⟨y, hy⟩ : ∃ y, (L b)[(s - 1).toNat]? = some y := ⟨_, List.getElem?_eq_getElem (by omega)⟩
  refine ⟨line_of (n := 1000) (by omega) (by decide), x, at_nat' (by omega) hx, line_of (n := 1000) (by omega) (by decide), y, at_nat' (by omega) hy, ?_⟩
  rw [eqS, L_one, L_one]
  by_cases c : s = i
  · subst c
    rw [hx, hy] at ne
    have c' : x ≠ y := fun e => ne (by rw [e])
    rw [if_neg (by simpa using c')]
    exact q
  · have e := pre (s - 1).toNat (by omega)
    rw [hx, hy] at e
    cases e
    rw [if_pos (by simp)]
    exact hk _ ⟨by omega, by omega⟩ (by omega)
theorem unlike_some {w v : Str × Str × Str} (hw : WV w) (hv : WV v) {n i : Int} (p : PT w v n i) {k : Option (Int × Int) → Prop} (q : k (some (n, i))) : M_first_unlike_place w v k := by
  obtain ⟨l1, l2, l3⟩ := low2_ge w v
  have gw := (@lst_ge w).2
  have pl := p.lw
  have pv := p.lv
  have ph := p.hi
  unfold M_first_unlike_place
  refine same_false hw hv (p.red hw hv) ?_
  rw [if_neg (by decide)]
  refine wleast_ok hw (wleast_ok hv ?_)
  change ∃ fu18, whileC _ fu18 (low2 w v) _
  refine whileC_ok (fun s => low2 w v ≤ s ∧ s ≤ n) (fun s => (n - s).toNat) (fun s k1 ⟨s1, s2⟩ hk => ?_) ⟨by omega, by omega⟩
  refine wrow_ok hw (by omega) (by omega) (wrow_ok hv (by omega) (by omega) ?_)
  rw [eqS, L_S, L_S]
  by_cases c : s = n
  · subst c
    rw [if_neg (by simpa using p.differ)]
    refine wrow_ok hw (by omega) (by omega) (wrow_ok hv (by omega) (by omega) ?_)
    exact fdiff_ok (n := s.toNat) (by rw [L_S]; exact rw_len pl) (by rw [L_S]; exact rw_len pv) (by omega) p.i1 (by have := p.i2; omega) (by rw [L_S, L_S]; exact p.pre) (by rw [L_S, L_S]; exact p.ne) q
  · rw [if_pos (by rw [p.same s (by omega) (by omega) (by omega)]; simp)]
    exact hk _ ⟨by omega, by omega⟩ (by omega)
/-! texts of words and of places -/
def okd (d : D) : Bool := plainD d && (pyOf d).showable && !(pyOf d).hasDict && decide ((pyOf d).depth ≤ 60) && decide ((pyOf d).shown.length ≤ 16777216) && SeqAt.shaped (pyOf d)
structure OD (d : D) : Prop where
  pl : plainD d = true
  rp : plainD d = true ∧ (pyOf d).showable = true ∧ (pyOf d).hasDict = false ∧ (pyOf d).depth ≤ 60 ∧ (pyOf d).shown.length ≤ sizeLine
  sh : SeqAt.shaped (pyOf d) = true
  rf : PyData.eqv (pyOf d) (pyOf d) = true
theorem OD.of {d : D} (h : okd d = true) : OD d := by
  unfold okd at h
  simp only [Bool.and_eq_true, Bool.not_eq_true', decide_eq_true_eq] at h
  obtain ⟨⟨⟨⟨⟨a, b⟩, c⟩, e⟩, f⟩, g⟩ := h
  exact ⟨a, ⟨a, b, c, e, by rw [sizeLine_eq]; exact f⟩, g, SeqAt.eqv_refl _ (SeqAt.canLay_of_shaped g)⟩
abbrev encP (y : Int × Int) : D := D.tup [(D.v (V.int y.1)), (D.v (V.int y.2))]
theorem finP : ((List.range 40).all fun n => (List.range 40).all fun i => okd (encP ((n : Int), (i : Int)))) = true := by decide +kernel
theorem od_none : OD (encO encP none) := OD.of (by decide +kernel)
theorem od_some {n i : Int} (n0 : 0 ≤ n) (n1 : n < 40) (i0 : 0 ≤ i) (i1 : i < 40) : OD (encO encP (some (n, i))) := by
  refine OD.of ?_
  have h := List.all_eq_true.mp (List.all_eq_true.mp finP n.toNat (List.mem_range.mpr (by omega))) i.toNat (List.mem_range.mpr (by omega))
  rw [show ((n.toNat : Nat) : Int) = n by omega, show ((i.toNat : Nat) : Int) = i by omega] at h
  exact h
theorem od_bl (b : Bool) : OD (D.v (V.bl b)) := OD.of (by cases b <;> decide +kernel)
theorem finT : ((allW 4).all fun t => decide ((L (reprText (S t))).length ≤ 6) && (L (reprText (S t))).all (fun c => decide (c < 128))) = true := by decide +kernel
def asc (l : List Nat) : Prop := ∀ c ∈ l, c < 128
theorem asc_app {a b : List Nat} (ha : asc a) (hb : asc b) : asc (a ++ b) := fun c hc => (List.mem_append.mp hc).elim (ha c) (hb c)
theorem rt_ok {z : Str} (h4 : (L z).length ≤ 4) (hm : Mk (L z)) : (L (reprText z)).length ≤ 6 ∧ asc (L (reprText z)) := by
  have h := List.all_eq_true.mp finT (L z) (mem_allW _ _ h4 hm)
  rw [S_L, Bool.and_eq_true, decide_eq_true_eq, List.all_eq_true] at h
  exact ⟨h.1, fun c hc => of_decide_eq_true (h.2 c hc)⟩
theorem strOk_asc {z : Str} (h : asc (L z)) : PyData.strOk z = true := by
  unfold PyData.strOk
  rw [← Array.all_toList, List.all_eq_true]
  intro c hc
  have q := h c hc
  have f : ∀ c : Nat, c < 128 → (fun i => decide (i < 55296) || decide (57344 ≤ i) && decide (i < 1114112)) c = true := fun c hc => by simp; omega
  first
    | exact f c q
    | (have q' := q; simp; omega)
theorem len_app (a b : Str) : (a ++ b).length = a.length + b.length := by
  rw [len_L, len_L, len_L, L_app, List.length_append]
def wtx (w : Str × Str × Str) : Str := ((((((((Str.empty ++ ("Word(" : Str)) ++ (reprText w.1)) ++ (", " : Str)) ++ (reprText w.2.1)) ++ (", " : Str)) ++ (reprText w.2.2)) ++ (")" : Str)))
theorem wrepr_ok {w : Str × Str × Str} (hw : WV w) : ∃ z : Str, PyData.strOk z = true ∧ ∀ k : Str → Prop, k z → M_Word_repr w k := by
  obtain ⟨a1, a2⟩ := rt_ok hw.h4 hw.mh
  obtain ⟨b1, b2⟩ := rt_ok hw.m4 hw.mm
  obtain ⟨c1, c2⟩ := rt_ok hw.t4 hw.mt
  have e : sizeLine = 16777216 := sizeLine_eq
  have l1 : (Str.empty ++ ("Word(" : Str)).length = 5 := by decide +kernel
  have l2 : (", " : Str).length = 2 := by decide +kernel
  have l3 : (")" : Str).length = 1 := by decide +kernel
  have s1 : asc (L (Str.empty ++ ("Word(" : Str))) := fun c hc => of_decide_eq_true (List.all_eq_true.mp (show ((L (Str.empty ++ ("Word(" : Str))).all fun c => decide (c < 128)) = true by decide +kernel) c hc)
  have s2 : asc (L (", " : Str)) := fun c hc => of_decide_eq_true (List.all_eq_true.mp (show ((L (", " : Str)).all fun c => decide (c < 128)) = true by decide +kernel) c hc)
  have s3 : asc (L (")" : Str)) := fun c hc => of_decide_eq_true (List.all_eq_true.mp (show ((L (")" : Str)).all fun c => decide (c < 128)) = true by decide +kernel) c hc)
  rw [← len_L] at a1 b1 c1
  refine ⟨wtx w, ?_, fun k q => ?_⟩
  rotate_left
  · unfold M_Word_repr
    refine ⟨?_, ?_, ?_, ?_, ?_, ?_, ?_, ?_, ?_, ?_, q⟩
    all_goals (simp only [len_app, l2, l3] at l1 ⊢; omega)
  · refine strOk_asc ?_
    unfold wtx
    simp only [L_app] at s1 ⊢
    exact asc_app (asc_app (asc_app (asc_app (asc_app (asc_app s1 a2) s2) b2) s2) c2) s3
theorem two_ok {a b : Str} (ha : PyData.strOk a = true) (hb : PyData.strOk b = true) : plainD (D.lst (([a, b] : List Str).map (fun y_ : Str => (D.v (V.str y_))))) = true ∧ SeqAt.shaped (pyOf (D.lst (([a, b] : List Str).map (fun y_ : Str => (D.v (V.str y_)))))) = true := by
  refine ⟨rfl, ?_⟩
  simp only [List.map_cons, List.map_nil, pyOf, pyL]
  unfold SeqAt.shaped
  simp only [PyData.canLay0, PyData.canLayAll0, PyData.depth, PyData.depthAll]
  rw [ha, hb]
  rfl
theorem bmark {l : List Nat} {j a : Nat} (h : l[j]? = some a) : cn 104 (l.take (j + 1)) = cn 104 (l.take j) + (if a = 104 then 1 else 0) := cn_succ 104 h
theorem newp {z s : Str} {d : Int} (h4 : (L z).length ≤ 4) (hm : Mk (L z)) (d0 : 0 ≤ d) (d1 : d < ((L z).length : Int)) (hs : s = ("a" : Str) ∨ s = ("h" : Str)) :
    (L (cutS z none (some d) ++ s ++ cutS z (some (d + (1 : Int))) none)).length = (L z).length ∧ Mk (L (cutS z none (some d) ++ s ++ cutS z (some (d + (1 : Int))) none)) ∧ (cutS z none (some d)).length + s.length ≤ 5 ∧ ((cutS z none (some d)) ++ s).length + (cutS z (some (d + (1 : Int))) none).length ≤ 5 := by
  obtain ⟨c, hc, hl⟩ : ∃ c, (c = 104 ∨ c = 97) ∧ L s = [c] := by
    rcases hs with rfl | rfl
    · exact ⟨97, .inr rfl, L_a⟩
    · exact ⟨104, .inl rfl, L_h⟩
  have e : d + (1 : Int) = ((d.toNat + 1 : Nat) : Int) := by omega
  rw [e]
  have ea := cut_take z d0
  have eb := cut_drop z (d.toNat + 1)
  refine ⟨?_, ?_, ?_, ?_⟩
  · rw [L_app, L_app, ea, eb, hl, List.length_append, List.length_append, List.length_take, List.length_drop]
    simp only [List.length_cons, List.length_nil]
    omega
  · rw [L_app, L_app, ea, eb, hl]
    refine mk_app (mk_app (mk_take hm _) fun x hx => ?_) (mk_drop hm _)
    rw [List.mem_singleton.mp hx]
    exact hc
  · rw [len_L, len_L, ea, hl, List.length_take]
    simp only [List.length_cons, List.length_nil]
    omega
  · rw [len_app, len_L, len_L, len_L, ea, eb, hl, List.length_take, List.length_drop]
    simp only [List.length_cons, List.length_nil]
    omega
theorem getD_at {α : Type} {xs : List α} {j : Nat} (d : α) (h : j < xs.length) : xs.getD j d = xs[j]'h := by
  rw [List.getD_eq_getElem?_getD, List.getElem?_eq_getElem h]
  rfl
/-! ### law k26 -/
theorem turned_ok {z : Str} {n : Nat} (h4 : (L z).length ≤ n) (hn : n ≤ 1000) (hm : Mk (L z)) {k : Str → Prop} (q : k (S ((L z).map ctrc))) : M_turned z k := by
  unfold M_turned
  refine ⟨by rw [signs_len]; have : z.cps.size = (L z).length := len_L z; omega, ?_⟩
  refine mapC_ok (fun x : Str => Str.mk #[ctrc (x.cps.getD 0 0)]) (fun x hx k' hk => ?_) ?_
  · obtain ⟨c, hc, rfl⟩ := List.mem_map.mp hx
    refine ⟨fun s => s = Str.mk #[ctrc c], ?_, fun r hr => by rw [hr]; exact hk⟩
    rcases hm c hc with rfl | rfl
    · rw [if_pos (by decide +kernel)]
      exact a_mk
    · rw [if_neg (by decide +kernel)]
      exact h_mk
  · rw [List.nil_append]
    have e : (Rx.signs z).map (fun x : Str => Str.mk #[ctrc (x.cps.getD 0 0)]) = (L z).map fun c => Str.mk #[ctrc c] := by
      unfold Rx.signs
      rw [List.map_map]
      rfl
    rw [e]
    refine ⟨?_, ?_⟩
    · rw [ones_sum, List.length_map, len_L, L_empty]
      simp only [List.length_nil]
      omega
    · rw [show Txt.join ("" : Str) ((L z).map fun c => Str.mk #[ctrc c]) = S ((L z).map ctrc) from L_ext (by rw [ones_join, L_S])]
      exact q
def rolD (z : List Nat) (d : Nat) : List Nat := z.drop (z.length - d % z.length) ++ z.take (z.length - d % z.length)
def ahd (z : List Nat) (d : Nat) : List Nat := ((List.replicate 4 z).flatten).drop (4 * z.length - d)
def menuN : List (List Nat × List Nat) := [([104, 104, 97], [104, 104, 97, 104]), ([104, 104, 97, 104], [104, 104, 97]), ([104, 97, 104], [104, 97, 104, 104]), ([104, 97], [104, 97, 104]), ([104], [104, 104, 104, 97]), ([104, 104, 104, 97], [104]),
  ([104, 97, 97], [104, 97, 97, 104]), ([104, 97, 104], [104, 97]), ([104, 97, 104, 97], [104, 97, 104]), ([104, 104, 97], [104, 104])]
def menu2 : List (List Nat × List Nat) := menuN ++ menuN.map fun p => (p.1.map ctrc, p.2.map ctrc)
theorem finLate : (menu2.all fun p => (List.range 5).all fun d => (allW (4 - d)).all fun l => !(red2 l (rolD p.1 d) == red2 (l ++ ahd p.1 d) p.2)) = true := by decide +kernel
theorem finMenu : (menu2.all fun p => decide (1 ≤ p.1.length) && decide (p.1.length ≤ 4) && decide (1 ≤ p.2.length) && decide (p.2.length ≤ 4) && p.1.all isM && p.2.all isM) = true := by decide +kernel
theorem finAhd : (menu2.all fun p => (List.range 5).all fun d => decide ((ahd p.1 d).length = d) && (ahd p.1 d).all isM && decide ((rolD p.1 d).length = p.1.length) && (rolD p.1 d).all isM) = true := by decide +kernel
theorem red_ne {w v : Str × Str × Str} (h : red2 (L w.1) (L w.2.1) ≠ red2 (L v.1) (L v.2.1)) : red w ≠ red v := fun e => h (by
  have e1 : L (red w).1 = L (red v).1 := by rw [e]
  have e2 : L (red w).2.1 = L (red v).2.1 := by rw [e]
  unfold red at e1 e2
  simp only [L_S] at e1 e2
  exact Prod.ext e1 e2)
theorem mulokS {x : Str} {k : Nat} (h : (L x).length ≤ 4) (hk : k ≤ 4) : MulOk x (k : Int) := mulok0 h (by omega)
/-- the rest of the two words, from a pair of the menu on -/
theorem late_rest {z o : Str} (hp : (L z, L o) ∈ menu2) {d : Int} (d0 : 0 ≤ d) (d5 : d < 5) {l t : Str} (l4 : ((L l).length : Int) ≤ 4 - d) (lm : Mk (L l)) (t4 : (L t).length ≤ 4) (tm : Mk (L t)) :
    MulOk z (4 : Int) ∧ (Txt.mul z (4 : Int)).length ≤ sizeLine ∧ z.length ≤ sizeLine ∧ 0 < (z.length : Int) ∧
    ((cutS z (some ((z.length : Int) - (d % (z.length : Int)))) none).length + (cutS z none (some ((z.length : Int) - (d % (z.length : Int))))).length ≤ sizeLine) ∧
    (l.length + (cutS (Txt.mul z (4 : Int)) (some (((Txt.mul z (4 : Int)).length : Int) - d)) none).length ≤ sizeLine) ∧
    WV (l, (cutS z (some ((z.length : Int) - (d % (z.length : Int)))) none) ++ (cutS z none (some ((z.length : Int) - (d % (z.length : Int))))), t) ∧
    WV (l ++ (cutS (Txt.mul z (4 : Int)) (some (((Txt.mul z (4 : Int)).length : Int) - d)) none), o, t) ∧
    red (l, (cutS z (some ((z.length : Int) - (d % (z.length : Int)))) none) ++ (cutS z none (some ((z.length : Int) - (d % (z.length : Int))))), t) ≠ red (l ++ (cutS (Txt.mul z (4 : Int)) (some (((Txt.mul z (4 : Int)).length : Int) - d)) none), o, t) := by
  have fm := List.all_eq_true.mp finMenu _ hp
  simp only [Bool.and_eq_true, decide_eq_true_eq] at fm
  obtain ⟨⟨⟨⟨⟨z1, z4⟩, o1⟩, o4⟩, zm⟩, om⟩ := fm
  have dr : d.toNat ∈ List.range 5 := List.mem_range.mpr (by omega)
  have fa := List.all_eq_true.mp (List.all_eq_true.mp finAhd _ hp) _ dr
  simp only [Bool.and_eq_true, decide_eq_true_eq] at fa
  obtain ⟨⟨⟨a1, am⟩, r1⟩, rm⟩ := fa
  have fl := List.all_eq_true.mp (List.all_eq_true.mp (List.all_eq_true.mp finLate _ hp) _ dr) (L l) (mem_allW _ _ (by omega) lm)
  rw [Bool.not_eq_true'] at fl
  have e : sizeLine = 16777216 := sizeLine_eq
  have em : L (Txt.mul z (4 : Int)) = (List.replicate 4 (L z)).flatten := mul_L0 z 4
  have el : (L (Txt.mul z (4 : Int))).length = 4 * (L z).length := by
    rw [em]
    simp
    omega
  have hz : 0 < (z.length : Int) := by rw [len_L]; omega
  have m0 := Int.emod_nonneg d (show (z.length : Int) ≠ 0 by omega)
  have m1 := Int.emod_lt_of_pos d hz
  have at_ : (z.length : Int) - (d % (z.length : Int)) = (((L z).length - d.toNat % (L z).length : Nat) : Int) := by
    have q := emod_nat (x := d) (n := (L z).length) d0
    rw [len_L] at m0 m1 ⊢
    have := Nat.mod_lt d.toNat (show 0 < (L z).length by omega)
    omega
  have eroll : L ((cutS z (some ((z.length : Int) - (d % (z.length : Int)))) none) ++ (cutS z none (some ((z.length : Int) - (d % (z.length : Int)))))) = rolD (L z) d.toNat := by
    rw [at_, L_app, cut_drop, cut_take _ (by omega), Int.toNat_natCast]
    rfl
  have ew : ((Txt.mul z (4 : Int)).length : Int) - d = ((4 * (L z).length - d.toNat : Nat) : Int) := by
    rw [len_L, el]
    omega
  have eahd : L (cutS (Txt.mul z (4 : Int)) (some (((Txt.mul z (4 : Int)).length : Int) - d)) none) = ahd (L z) d.toNat := by
    rw [ew, cut_drop, em]
    rfl
  refine ⟨mulokS z4 (by decide), line_of (n := 100) (by omega) (by decide), line4 z4, hz, ?_, ?_, ⟨?_, ?_, ?_, t4, lm, ?_, tm⟩, ⟨?_, o1, o4, t4, ?_, isM_all om, tm⟩, red_ne ?_⟩
  · rw [← len_app, len_L, eroll, r1]
    omega
  · rw [len_L, len_L, eahd, a1]
    omega
  · show (L l).length ≤ 4
    omega
  · show 1 ≤ (L (_ ++ _)).length
    rw [eroll, r1]
    exact z1
  · show (L (_ ++ _)).length ≤ 4
    rw [eroll, r1]
    exact z4
  · show Mk (L (_ ++ _))
    rw [eroll]
    exact isM_all rm
  · show (L (_ ++ _)).length ≤ 4
    rw [L_app, List.length_append, eahd, a1]
    omega
  · show Mk (L (_ ++ _))
    rw [L_app, eahd]
    exact mk_app lm (isM_all am)
  · show red2 (L l) (L (_ ++ _)) ≠ red2 (L (_ ++ _)) (L o)
    rw [eroll, L_app, eahd]
    intro z
    rw [z] at fl
    simp at fl
theorem menu_mem {p : Str × Str} (h : p ∈ ([(("hha" : Str), ("hhah" : Str)), (("hhah" : Str), ("hha" : Str)), (("hah" : Str), ("hahh" : Str)), (("ha" : Str), ("hah" : Str)), (("h" : Str), ("hhha" : Str)), (("hhha" : Str), ("h" : Str))] : List (Str × Str)) ++ ([(("haa" : Str), ("haah" : Str)), (("hah" : Str), ("ha" : Str)), (("haha" : Str), ("hah" : Str)), (("hha" : Str), ("hh" : Str))] : List (Str × Str))) :
    (L p.1, L p.2) ∈ menuN := by
  have all : (([(("hha" : Str), ("hhah" : Str)), (("hhah" : Str), ("hha" : Str)), (("hah" : Str), ("hahh" : Str)), (("ha" : Str), ("hah" : Str)), (("h" : Str), ("hhha" : Str)), (("hhha" : Str), ("h" : Str))] : List (Str × Str)) ++ ([(("haa" : Str), ("haah" : Str)), (("hah" : Str), ("ha" : Str)), (("haha" : Str), ("hah" : Str)), (("hha" : Str), ("hh" : Str))] : List (Str × Str))).all (fun p => menuN.contains (L p.1, L p.2)) = true := by decide +kernel
  have q := List.all_eq_true.mp all p h
  simpa using q
theorem late_ok {k : List (Str × Str × Str) → Prop} (q : ∀ a b, WV a → WV b → red a ≠ red b → k [a, b]) : M_late k := by
  unfold M_late
  refine ⟨by decide +kernel, ?_⟩
  unfold M_pick
  refine draw_ok (by decide) (by decide) fun d d0 d1 => ⟨d0, ?_, fun p hp => ?_⟩
  · have : (d.toNat : Int) < 10 := by
      have : (((([(("hha" : Str), ("hhah" : Str)), (("hhah" : Str), ("hha" : Str)), (("hah" : Str), ("hahh" : Str)), (("ha" : Str), ("hah" : Str)), (("h" : Str), ("hhha" : Str)), (("hhha" : Str), ("h" : Str))] : List (Str × Str)) ++ ([(("haa" : Str), ("haah" : Str)), (("hah" : Str), ("ha" : Str)), (("haha" : Str), ("hah" : Str)), (("hha" : Str), ("hh" : Str))] : List (Str × Str))).length : Nat) : Int) = 10 := rfl
      omega
    show d.toNat < 10
    omega
  · have hm := menu_mem (p := p) (by rw [hp]; exact List.getElem_mem _)
    have fm := List.all_eq_true.mp finMenu (L p.1, L p.2) (List.mem_append_left _ hm)
    simp only [Bool.and_eq_true, decide_eq_true_eq] at fm
    obtain ⟨⟨⟨⟨⟨z1, z4⟩, o1⟩, o4⟩, zm⟩, om⟩ := fm
    refine draw_ok (by decide) (by decide) fun f f0 f1 => ?_
    by_cases hf : f = 0
    · rw [if_pos (by rw [eqI]; simpa using hf)]
      refine turned_ok (n := 4) z4 (by decide) (isM_all zm) (turned_ok (n := 4) o4 (by decide) (isM_all om) ?_)
      have hp2 : (L (S ((L p.1).map ctrc)), L (S ((L p.2).map ctrc))) ∈ menu2 := by
        rw [L_S, L_S]
        exact List.mem_append_right _ (List.mem_map.mpr ⟨_, hm, rfl⟩)
      refine draw_ok (by decide) (by decide) fun d d0 d5 => ?_
      have base := @late_rest _ _ hp2 d d0 d5 ("" : Str) ("" : Str) (by rw [L_empty]; simp; omega) (by rw [L_empty]; exact fun c hc => absurd hc (by simp)) (by rw [L_empty]; simp) (by rw [L_empty]; exact fun c hc => absurd hc (by simp))
      obtain ⟨b1, b2, b3, b4, b5, _⟩ := base
      refine ⟨b1, b2, b2, b3, b3, b4, signs_ok (by decide) (by omega) (by omega) fun l l0 l4 lm => signs_ok (by decide) (by decide) (by decide) fun t t0 t4 tm => ?_⟩
      obtain ⟨_, _, _, _, _, c6, c7, c8, c9⟩ := late_rest hp2 d0 d5 l4 lm (by omega) tm
      exact ⟨b3, b3, b5, c6, q _ _ c7 c8 c9⟩
    · rw [if_neg (by rw [eqI]; simpa using hf)]
      have hp2 : (L p.1, L p.2) ∈ menu2 := List.mem_append_left _ hm
      refine draw_ok (by decide) (by decide) fun d d0 d5 => ?_
      have base := @late_rest _ _ hp2 d d0 d5 ("" : Str) ("" : Str) (by rw [L_empty]; simp; omega) (by rw [L_empty]; exact fun c hc => absurd hc (by simp)) (by rw [L_empty]; simp) (by rw [L_empty]; exact fun c hc => absurd hc (by simp))
      obtain ⟨b1, b2, b3, b4, b5, _⟩ := base
      refine ⟨b1, b2, b2, b3, b3, b4, signs_ok (by decide) (by omega) (by omega) fun l l0 l4 lm => signs_ok (by decide) (by decide) (by decide) fun t t0 t4 tm => ?_⟩
      obtain ⟨_, _, _, _, _, c6, c7, c8, c9⟩ := late_rest hp2 d0 d5 l4 lm (by omega) tm
      exact ⟨b3, b3, b5, c6, q _ _ c7 c8 c9⟩
theorem bent_ok {w : Str × Str × Str} (hw : WV w) {k : Str × Str × Str → Prop} (q : ∀ v, WV v → k v) : M_bent w k := by
  have h4 := hw.h4
  have m1 := hw.m1
  have m4 := hw.m4
  have t4 := hw.t4
  have le : ∀ n : Nat, n ≤ 5 → n ≤ sizeLine := fun n h => by rw [sizeLine_eq]; omega
  unfold M_bent
  have at3 : ∀ r : Int, 0 ≤ r → r < 3 → ∃ z, atI ([w.1, w.2.1, w.2.2] : List Str) r = some z ∧ ([w.1, w.2.1, w.2.2] : List Str).getD r.toNat ("" : Str) = z := fun r r0 r1 => by
    have hr : r = 0 ∨ r = 1 ∨ r = 2 := by omega
    rcases hr with rfl | rfl | rfl
    · exact ⟨w.1, at_nat' (by decide) rfl, rfl⟩
    · exact ⟨w.2.1, at_nat' (by decide) rfl, rfl⟩
    · exact ⟨w.2.2, at_nat' (by decide) rfl, rfl⟩
  refine ⟨by rw [rangeI_len]; decide, filC_ok (fun x : Int => if L (([w.1, w.2.1, w.2.2] : List Str).getD x.toNat ("" : Str)) = [] then none else some x) (fun x hx k' hk => ?_) ?_⟩
  · obtain ⟨x1, x2⟩ := rangeI_mem hx
    obtain ⟨z, hz, ez⟩ := at3 x x1 x2
    refine ⟨z, hz, ?_⟩
    rw [ez] at hk
    rw [eqS, L_empty]
    by_cases c : L z = []
    · rw [if_pos c] at hk
      rw [if_neg (by simpa using c)]
      exact hk
    · rw [if_neg c] at hk
      rw [if_pos (by simpa using c)]
      exact hk
  · rw [List.nil_append]
    have mem : ∀ x : Int, x ∈ (rangeI 0 3).filterMap (fun x : Int => if L (([w.1, w.2.1, w.2.2] : List Str).getD x.toNat ("" : Str)) = [] then none else some x) ↔ (0 ≤ x ∧ x < 3) ∧ L (([w.1, w.2.1, w.2.2] : List Str).getD x.toNat ("" : Str)) ≠ [] := fun x => by
      rw [List.mem_filterMap]
      constructor
      · rintro ⟨y, hy, e⟩
        split at e
        · cases e
        · rename_i c
          cases e
          exact ⟨rangeI_mem hy, c⟩
      · rintro ⟨⟨a, b⟩, c⟩
        exact ⟨x, rangeI_memL a b, by rw [if_neg c]⟩
    have one : (1 : Int) ∈ (rangeI 0 3).filterMap (fun x : Int => if L (([w.1, w.2.1, w.2.2] : List Str).getD x.toNat ("" : Str)) = [] then none else some x) := (mem 1).mpr ⟨by decide, fun e => by
      change L w.2.1 = [] at e
      rw [e] at m1
      simp at m1⟩
    have few : ((rangeI 0 3).filterMap (fun x : Int => if L (([w.1, w.2.1, w.2.2] : List Str).getD x.toNat ("" : Str)) = [] then none else some x)).length ≤ 3 := Nat.le_trans (List.length_filterMap_le _ _) (by rw [rangeI_len]; decide)
    have pos := List.length_pos_of_mem one
    generalize (rangeI 0 3).filterMap (fun x : Int => if L (([w.1, w.2.1, w.2.2] : List Str).getD x.toNat ("" : Str)) = [] then none else some x) = ys at mem one few pos
    unfold M_pick_pli
    refine draw_ok (by omega) (by omega) fun d d0 d1 => ⟨d0, by omega, fun r hr => ?_⟩
    have hrm : r ∈ ys := by
      rw [hr]
      exact List.getElem_mem _
    obtain ⟨⟨r0, r3⟩, rne⟩ := (mem r).mp hrm
    obtain ⟨z, hz, ez⟩ := at3 r r0 r3
    rw [ez] at rne
    have hr3 : r = 0 ∨ r = 1 ∨ r = 2 := by omega
    have zz : (L z).length ≤ 4 ∧ Mk (L z) := by
      rcases hr3 with rfl | rfl | rfl
      · rw [← ez]
        exact ⟨h4, hw.mh⟩
      · rw [← ez]
        exact ⟨m4, hw.mm⟩
      · rw [← ez]
        exact ⟨t4, hw.mt⟩
    obtain ⟨z4, zm⟩ := zz
    have z1 : 1 ≤ (L z).length := List.length_pos_iff.mpr rne
    refine ⟨z, hz, line4 z4, draw_ok (by rw [len_L]; omega) (by rw [len_L]; omega) fun d d0 d1 => ?_⟩
    rw [len_L] at d1
    obtain ⟨c, hc⟩ : ∃ c, (L z)[d.toNat]? = some c := ⟨_, List.getElem?_eq_getElem (by omega)⟩
    have mc : c = 104 ∨ c = 97 := zm c (List.mem_of_getElem? hc)
    refine ⟨line4 z4, line4 z4, c, at_nat' d0 hc, turned_ok (n := 1) (by rw [L_one]; exact Nat.le_refl _) (by decide) (by rw [L_one]; exact fun x hx => by rw [List.mem_singleton.mp hx]; exact mc) ?_⟩
    rw [L_one]
    have hs : S ([c].map ctrc) = ("a" : Str) ∨ S ([c].map ctrc) = ("h" : Str) := by
      rcases mc with rfl | rfl
      · exact .inl (by decide +kernel)
      · exact .inr (by decide +kernel)
    generalize S ([c].map ctrc) = s at hs
    obtain ⟨n1, n2, n3, n4⟩ := newp z4 zm d0 d1 hs
    refine ⟨le _ n3, line4 z4, le _ n4, r0, ?_, by decide, by rw [List.length_set]; exact Nat.le_of_ble_eq_true rfl, fun a ha => ⟨by decide, by rw [List.length_set]; exact Nat.le_of_ble_eq_true rfl, fun b hb => ⟨by decide, by rw [List.length_set]; exact Nat.le_of_ble_eq_true rfl, fun c hc => q _ ?_⟩⟩⟩
    · show r.toNat < 3
      omega
    rcases hr3 with rfl | rfl | rfl
    · change w.1 = _ at ez
      subst ez
      change a = _ at ha
      change b = w.2.1 at hb
      change c = w.2.2 at hc
      subst ha hb hc
      exact ⟨Nat.le_trans (Nat.le_of_eq n1) h4, m1, m4, t4, n2, hw.mm, hw.mt⟩
    · change w.2.1 = _ at ez
      subst ez
      change a = w.1 at ha
      change b = _ at hb
      change c = w.2.2 at hc
      subst ha hb hc
      exact ⟨h4, Nat.le_trans m1 (Nat.le_of_eq n1.symm), Nat.le_trans (Nat.le_of_eq n1) m4, t4, hw.mh, n2, hw.mt⟩
    · change w.2.2 = _ at ez
      subst ez
      change a = w.1 at ha
      change b = w.2.1 at hb
      change c = _ at hc
      subst ha hb hc
      exact ⟨h4, m1, m4, Nat.le_trans (Nat.le_of_eq n1) t4, hw.mh, hw.mm, n2⟩
theorem mixed_ok {P : Int × Int → Prop} {xs : List (Int × Int)} (hx : ∀ p ∈ xs, P p) (hl : xs.length < 1000) {k : List (Int × Int) → Prop} (q : ∀ ys, (∀ p ∈ ys, P p) → k ys) : M_mixed xs k := by
  unfold M_mixed
  refine ⟨by rw [rangeI_len]; omega, ?_⟩
  have go : ∀ (items : List Int) (acc s : List (Int × Int)), (∀ p ∈ acc, P p) → (∀ p ∈ s, P p) → items.length = s.length → s.length < 1000 →
      mapS (fun (x25 : Int) (s28 : (List (Int × Int))) (k18 : (Int × Int) → ((List (Int × Int))) → Prop) => (M_draw (s28.length : Int) fun r33 => ((0 ≤ r33 ∧ r33 < 2 ^ 63) ∧ ∃ y43, s28[Int.toNat r33]? = some y43 ∧ (k18 y43 ((s28.eraseIdx (Int.toNat r33))))))) items acc s fun ys54 s28 => (k ys54) := by
    intro items
    induction items with
    | nil => exact fun acc s ha _ _ _ => q acc ha
    | cons x items ih =>
      intro acc s ha hs he hb
      rw [List.length_cons] at he
      refine draw_ok (by omega) (by omega) fun d d0 d1 => ⟨⟨d0, by omega⟩, _, List.getElem?_eq_getElem (by omega), ih _ _ (fun p hp => ?_) (fun p hp => hs p (List.mem_of_mem_eraseIdx hp)) ?_ ?_⟩
      · rcases List.mem_append.mp hp with h | h
        · exact ha p h
        · rw [List.mem_singleton.mp h]
          exact hs _ (List.getElem_mem _)
      · rw [List.length_eraseIdx_of_lt (by omega)]
        omega
      · rw [List.length_eraseIdx_of_lt (by omega)]
        omega
  exact go _ _ _ (fun p hp => absurd hp (by simp)) hx (by rw [rangeI_len]; omega) hl
/-! two words asked -/
abbrev encA (r : Option (Int × Int)) (b : Bool) : D := D.lst (([(encO (fun y_ : (Int × Int) => (D.tup [(D.v (V.int y_.1)), (D.v (V.int y_.2))])) r), (D.v (V.bl b))] : List D).map (fun y_ : D => y_))
theorem finA : ((List.range 40).all fun n => (List.range 40).all fun i => okd (encA (some ((n : Int), (i : Int))) false)) = true := by decide +kernel
theorem oa_none : OD (encA none true) := OD.of (by decide +kernel)
theorem oa_some {n i : Int} (n0 : 0 ≤ n) (n1 : n < 40) (i0 : 0 ≤ i) (i1 : i < 40) : OD (encA (some (n, i)) false) := by
  refine OD.of ?_
  have h := List.all_eq_true.mp (List.all_eq_true.mp finA n.toNat (List.mem_range.mpr (by omega))) i.toNat (List.mem_range.mpr (by omega))
  rw [show ((n.toNat : Nat) : Int) = n by omega, show ((i.toNat : Nat) : Int) = i by omega] at h
  exact h
structure Ans (w v : Str × Str × Str) (r : Option (Int × Int)) : Prop where
  du : ∀ k : Option (Int × Int) → Prop, k r → M_due w v k
  fu : ∀ k : Option (Int × Int) → Prop, k r → M_first_unlike_place w v k
  sm : ∀ k : Bool → Prop, k r.isNone → M_same_rows w v k
  o : OD (encA r r.isNone)
theorem ans {w v : Str × Str × Str} (hw : WV w) (hv : WV v) : ∃ r, Ans w v r ∧ (red w ≠ red v → r.isNone = false) := by
  by_cases h : red w = red v
  · exact ⟨none, ⟨fun _ => due_none hw hv h, fun _ => unlike_none hw hv h, fun _ => same_ok hw hv h, oa_none⟩, fun n => absurd h n⟩
  · obtain ⟨n, i, p, hn⟩ := pt_ex hw hv h
    have gw := (@lst_ge w).2
    have := p.lw
    have := p.hi
    have := p.i1
    have := p.i2
    exact ⟨some (n, i), ⟨fun _ => due_some hw hv p hn, fun _ => unlike_some hw hv p, fun _ => same_false hw hv h, oa_some (by omega) (by omega) (by omega) (by omega)⟩, fun _ => rfl⟩
theorem pairs_ok {xs : List (Str × Str × Str)} (hx : ∀ w ∈ xs, WV w) {ps : List (Int × Int)} (hp : ∀ p ∈ ps, (0 ≤ p.1 ∧ p.1 < xs.length) ∧ (0 ≤ p.2 ∧ p.2 < xs.length)) {k : Bool → Prop} (q : k true) : M_pairs_right xs xs ps k := by
  unfold M_pairs_right
  refine forC_all q fun p hpm k' hk => ?_
  obtain ⟨⟨a0, a1⟩, b0, b1⟩ := hp p hpm
  have ga : Int.toNat p.1 < xs.length := by omega
  have gb : Int.toNat p.2 < xs.length := by omega
  obtain ⟨r, A, _⟩ := ans (hx _ (List.getElem_mem ga)) (hx _ (List.getElem_mem gb))
  refine ⟨a0, ga, fun x ex => ⟨b0, gb, fun y ey => ?_⟩⟩
  subst ex ey
  refine A.du _ ⟨a0, ga, fun x ex => ⟨b0, gb, fun y ey => ?_⟩⟩
  subst ex ey
  refine A.fu _ ⟨a0, ga, fun x ex => ⟨b0, gb, fun y ey => ?_⟩⟩
  subst ex ey
  refine A.sm _ ⟨A.o.rp, A.o.rp, ?_⟩
  rw [if_neg (by simp)]
  exact hk
/-! a word of one mark -/
def onesW (c a b d : Nat) : Str × Str × Str := (S (List.replicate a c), S (List.replicate b c), S (List.replicate d c))
theorem finOne : ([104, 97].all fun c => (List.range 5).all fun a => (List.range 4).all fun b => (List.range 5).all fun d => red2 (List.replicate a c) (List.replicate (b + 1) c) == ([], [c]) && stp [c] (List.replicate d c) == []) = true := by decide +kernel
theorem red_one {c a b d : Nat} (hc : c = 104 ∨ c = 97) (ha : a ≤ 4) (b1 : 1 ≤ b) (b4 : b ≤ 4) (hd : d ≤ 4) : red (onesW c a b d) = (("" : Str), S [c], ("" : Str)) := by
  have h := List.all_eq_true.mp (List.all_eq_true.mp (List.all_eq_true.mp (List.all_eq_true.mp finOne c (by rcases hc with rfl | rfl <;> simp)) a (List.mem_range.mpr (by omega))) (b - 1) (List.mem_range.mpr (by omega))) d (List.mem_range.mpr (by omega))
  rw [show b - 1 + 1 = b by omega, Bool.and_eq_true] at h
  obtain ⟨h1, h2⟩ := h
  have e1 := eq_of_beq h1
  have e2 := eq_of_beq h2
  unfold red onesW
  simp only [L_S]
  rw [e1]
  simp only
  rw [e2]
  rfl
theorem ones_wv {c a b d : Nat} (hc : c = 104 ∨ c = 97) (ha : a ≤ 4) (b1 : 1 ≤ b) (b4 : b ≤ 4) (hd : d ≤ 4) : WV (onesW c a b d) := by
  unfold onesW
  have mk : ∀ n, Mk (List.replicate n c) := fun n x hx => by
    rw [List.eq_of_mem_replicate hx]
    exact hc
  refine ⟨?_, ?_, ?_, ?_, ?_, ?_, ?_⟩
  all_goals (simp only [L_S, List.length_replicate]; first | omega | exact mk _)
theorem mul_one (s : Str) {c : Nat} (hs : L s = [c]) (n : Nat) : Txt.mul s (n : Int) = S (List.replicate n c) := L_ext (by
  rw [mul_L0, hs, L_S]
  induction n with
  | zero => rfl
  | succ n ih =>
    rw [List.replicate_succ, List.flatten_cons, ih]
    rfl)
abbrev tup3 (s : Str) : D := D.tup [(D.v (V.str (("" : Str), s, ("" : Str)).1)), (D.v (V.str (("" : Str), s, ("" : Str)).2.1)), (D.v (V.str (("" : Str), s, ("" : Str)).2.2))]
theorem tup3_ok : ∀ c : Nat, (c = 104 ∨ c = 97) → OD (tup3 (S [c])) ∧ (("Word" : Str).length + (pyOf (tup3 (S [c]))).shown.length ≤ sizeLine) ∧ wtx (("" : Str), S [c], ("" : Str)) = ("Word" : Str) ++ (pyOf (tup3 (S [c]))).shown := by
  intro c hc
  have e : sizeLine = 16777216 := sizeLine_eq
  rcases hc with rfl | rfl
  · exact ⟨OD.of (by decide +kernel), by rw [e]; decide +kernel, by decide +kernel⟩
  · exact ⟨OD.of (by decide +kernel), by rw [e]; decide +kernel, by decide +kernel⟩
theorem wreprX {w : Str × Str × Str} (hw : WV w) : PyData.strOk (wtx w) = true ∧ ∀ k : Str → Prop, k (wtx w) → M_Word_repr w k := by
  obtain ⟨a1, a2⟩ := rt_ok hw.h4 hw.mh
  obtain ⟨b1, b2⟩ := rt_ok hw.m4 hw.mm
  obtain ⟨c1, c2⟩ := rt_ok hw.t4 hw.mt
  have e : sizeLine = 16777216 := sizeLine_eq
  have l1 : (Str.empty ++ ("Word(" : Str)).length = 5 := by decide +kernel
  have l2 : (", " : Str).length = 2 := by decide +kernel
  have l3 : (")" : Str).length = 1 := by decide +kernel
  have s1 : asc (L (Str.empty ++ ("Word(" : Str))) := fun c hc => of_decide_eq_true (List.all_eq_true.mp (show ((L (Str.empty ++ ("Word(" : Str))).all fun c => decide (c < 128)) = true by decide +kernel) c hc)
  have s2 : asc (L (", " : Str)) := fun c hc => of_decide_eq_true (List.all_eq_true.mp (show ((L (", " : Str)).all fun c => decide (c < 128)) = true by decide +kernel) c hc)
  have s3 : asc (L (")" : Str)) := fun c hc => of_decide_eq_true (List.all_eq_true.mp (show ((L (")" : Str)).all fun c => decide (c < 128)) = true by decide +kernel) c hc)
  rw [← len_L] at a1 b1 c1
  refine ⟨?_, fun k q => ?_⟩
  rotate_left
  · unfold M_Word_repr
    refine ⟨?_, ?_, ?_, ?_, ?_, ?_, ?_, ?_, ?_, ?_, q⟩
    all_goals (simp only [len_app, l2, l3] at l1 ⊢; omega)
  · refine strOk_asc ?_
    unfold wtx
    simp only [L_app] at s1 ⊢
    exact asc_app (asc_app (asc_app (asc_app (asc_app (asc_app s1 a2) s2) b2) s2) c2) s3
theorem strs_shapedO (ns : List Str) (ok : ∀ z ∈ ns, PyData.strOk z = true) : SeqAt.shaped (pyOf (D.lst (ns.map fun y => D.v (V.str y)))) = true := by
  rw [strs_py]
  unfold SeqAt.shaped
  rw [Bool.and_eq_true]
  have h : ∀ ns : List Str, (∀ z ∈ ns, PyData.strOk z = true) → PyData.canLayAll0 (ns.map PyData.str) = true ∧ PyData.depthAll (ns.map PyData.str) ≤ 1 := by
    intro ns
    induction ns with
    | nil => exact fun _ => ⟨rfl, by simp [PyData.depthAll]⟩
    | cons n ns ih =>
      intro ok
      replace ih := ih fun z hz => ok z (List.mem_cons_of_mem _ hz)
      refine ⟨?_, ?_⟩
      · rw [List.map_cons]
        simp only [PyData.canLayAll0, PyData.canLay0]
        rw [ok n List.mem_cons_self, Bool.true_and]
        exact ih.1
      · rw [List.map_cons]
        simp only [PyData.depthAll, PyData.depth]
        have := ih.2
        omega
  refine ⟨?_, ?_⟩
  · simp only [PyData.canLay0]
    exact (h ns ok).1
  · refine decide_eq_true ?_
    simp only [PyData.depth]
    have := (h ns ok).2
    omega
theorem pick_int {xs : List Int} {P : Int → Prop} (h0 : 0 < xs.length) (h1 : xs.length < 1000) (hp : ∀ x ∈ xs, P x) {k : Int → Prop} (q : ∀ x, P x → k x) : M_pick_pli xs k := by
  unfold M_pick_pli
  exact draw_ok (by omega) (by omega) fun d d0 d1 => ⟨d0, by omega, fun x hx => q x (hp x (by rw [hx]; exact List.getElem_mem _))⟩
theorem mul_ok1 {c : Nat} {n : Int} (h0 : 0 ≤ n) (h4 : n ≤ 4) : MulOk (S [c]) n := by
  rw [show n = ((n.toNat : Nat) : Int) by omega]
  exact mulok0 (by rw [L_S]; simp) (by omega)
theorem mul_one1 {c : Nat} {n : Int} (h0 : 0 ≤ n) : Txt.mul (S [c]) n = S (List.replicate n.toNat c) := by
  rw [show Txt.mul (S [c]) n = Txt.mul (S [c]) ((n.toNat : Nat) : Int) by congr 1; omega]
  exact mul_one _ (L_S _) _
theorem at_lastG {α : Type} {l : List α} (h : 1 ≤ l.length) : atI l (-(1 : Int)) = l.getLast? := by
  unfold atI ixN
  rw [if_neg (by decide), if_pos (by omega), List.getLast?_eq_getElem?]
  show l[((-1 : Int) + (l.length : Int)).toNat]? = _
  congr 1
  omega
def kf (w : Str × Str × Str) : Str := wtx (red w)
theorem kf_of {w v : Str × Str × Str} (h : red w = red v) : kf w = kf v := by unfold kf; rw [h]
theorem right_trueK {k : Bool → Prop} (q : k true) : M_right k := by
  have e : sizeLine = 16777216 := sizeLine_eq
  unfold M_right
  refine late_ok fun a b ha hb hab => ⟨by decide, Nat.le_of_ble_eq_true rfl, fun x hx => ?_⟩
  change x = a at hx
  subst hx
  refine alike_ok ha fun a2 ha2 ea => ⟨by decide, Nat.le_of_ble_eq_true rfl, fun y hy => ?_⟩
  change y = b at hy
  subst hy
  refine alike_ok hb fun b1 hb1 eb1 => alike_ok hb1 fun b2 hb2 eb2 => ⟨by rw [e]; simp, ?_⟩
  unfold M_pick_pltsss
  refine draw_ok (by simp) (by simp) fun r r0 r1 => ⟨r0, by omega, fun z hz => ?_⟩
  have hzm : z ∈ [x, y] ++ [a2, b2] := by
    rw [hz]
    exact List.getElem_mem _
  have hzw : WV z := by
    simp only [List.mem_append, List.mem_cons, List.not_mem_nil, or_false] at hzm
    rcases hzm with (rfl | rfl) | rfl | rfl
    · exact ha
    · exact hb
    · exact ha2
    · exact hb2
  refine bent_ok hzw fun u hu => ⟨by simp, ?_⟩
  unfold M_pick_pls
  refine draw_ok (by decide) (by decide) fun r r0 r1 => ⟨r0, by show r.toNat < 2; change r < 2 at r1; omega, fun s hs => ?_⟩
  obtain ⟨c, hc, es⟩ : ∃ c, (c = 104 ∨ c = 97) ∧ s = S [c] := by
    have hsm : s ∈ ([("h" : Str), ("a" : Str)] : List Str) := by
      rw [hs]
      exact List.getElem_mem _
    simp only [List.mem_cons, List.not_mem_nil, or_false] at hsm
    rcases hsm with rfl | rfl
    · exact ⟨104, .inl rfl, h_mk⟩
    · exact ⟨97, .inr rfl, a_mk⟩
  subst es
  refine pick_int (P := fun x => 0 ≤ x ∧ x ≤ 4) (by decide) (by decide) (by decide) fun s0 ⟨s00, s04⟩ => draw_ok (by decide) (by decide) fun f f0 f1 => pick_int (P := fun x => 0 ≤ x ∧ x ≤ 4) (by decide) (by decide) (by decide) fun s2 ⟨s20, s24⟩ => ?_
  refine ⟨by decide, Nat.le_of_ble_eq_true rfl, fun t0 ht0 => ?_⟩
  change t0 = s0 at ht0
  subst ht0
  refine ⟨mul_ok1 s00 s04, by decide, Nat.le_of_ble_eq_true rfl, fun t1 ht1 => ?_⟩
  change t1 = 1 + f at ht1
  subst ht1
  refine ⟨mul_ok1 (by omega) (by omega), by decide, Nat.le_of_ble_eq_true rfl, fun t2 ht2 => ?_⟩
  change t2 = s2 at ht2
  subst ht2
  refine ⟨mul_ok1 s20 s24, by simp, ?_⟩
  rw [mul_one1 s00, mul_one1 (show 0 ≤ 1 + f by omega), mul_one1 s20]
  have wo : WV (S (List.replicate t0.toNat c), S (List.replicate (1 + f).toNat c), S (List.replicate t2.toNat c)) := ones_wv hc (by omega) (by omega) (by omega) (by omega)
  have ro : red (S (List.replicate t0.toNat c), S (List.replicate (1 + f).toNat c), S (List.replicate t2.toNat c)) = (("" : Str), S [c], ("" : Str)) := red_one hc (by omega) (by omega) (by omega) (by omega)
  generalize (S (List.replicate t0.toNat c), S (List.replicate (1 + f).toNat c), S (List.replicate t2.toNat c)) = o at wo ro ⊢
  have all6 : ∀ w ∈ [x, y] ++ [a2, b2] ++ [u] ++ [o], WV w := fun w hw => by
    simp only [List.mem_append, List.mem_cons, List.not_mem_nil, or_false] at hw
    rcases hw with (((rfl | rfl) | rfl | rfl) | rfl) | rfl <;> assumption
  refine ⟨by simp, mapC_ok (fun w => w) (fun w hw k' hk => ⟨word_ok (all6 w hw), hk⟩) ?_⟩
  rw [List.nil_append, List.map_id']
  have kept : ∀ (K : List Str → Prop), K (([x, y] ++ [a2, b2] ++ [u] ++ [o]).map kf) → mapC (fun (x196 : (Str × Str × Str)) (k189 : Str → Prop) => (M_Word_reduced x196 fun r202 => (M_Word_repr r202 fun r207 => (k189 r207)))) ([x, y] ++ [a2, b2] ++ [u] ++ [o]) [] K := fun K hK => by
    refine mapC_ok kf (fun w hw k' hk => reduced_ok (all6 w hw) ((wreprX (red_wv (all6 w hw))).2 _ hk)) ?_
    rw [List.nil_append]
    exact hK
  refine ⟨by simp, kept _ ⟨kf o, by rw [at_lastG (by simp)]; simp, ?_⟩⟩
  obtain ⟨o1, o2, o3⟩ := tup3_ok c hc
  refine ⟨o1.rp, o2, ?_⟩
  rw [if_neg (by rw [show kf o = wtx (red o) from rfl, ro, o3]; simp)]
  refine ⟨by decide, by simp, fun z0 hz0 => ⟨by decide, by simp, fun z2 hz2 => ?_⟩⟩
  have hz0' : z0 = kf x := by rw [hz0]; simp
  have hz2' : z2 = kf a2 := by rw [hz2]; simp
  rw [if_neg (by rw [hz0', hz2', kf_of ea]; simp)]
  refine ⟨by decide, by simp, fun z1 hz1 => ⟨by decide, by simp, fun z3 hz3 => ?_⟩⟩
  have hz1' : z1 = kf y := by rw [hz1]; simp
  have hz3' : z3 = kf b2 := by rw [hz3]; simp
  rw [if_neg (by rw [hz1', hz3', kf_of (eb2.trans eb1)]; simp)]
  have len6 : ([x, y] ++ [a2, b2] ++ [u] ++ [o]).length = 6 := rfl
  have got0 : ∀ (g : Int.toNat (0 : Int) < ([x, y] ++ [a2, b2] ++ [u] ++ [o]).length), ([x, y] ++ [a2, b2] ++ [u] ++ [o])[Int.toNat (0 : Int)]'g = x := fun _ => rfl
  have got1 : ∀ (g : Int.toNat (1 : Int) < ([x, y] ++ [a2, b2] ++ [u] ++ [o]).length), ([x, y] ++ [a2, b2] ++ [u] ++ [o])[Int.toNat (1 : Int)]'g = y := fun _ => rfl
  generalize [x, y] ++ [a2, b2] ++ [u] ++ [o] = xs at all6 len6 kept got0 got1
  refine forC_okN (fun (j : Nat) (s : List (Int × Int)) => s.length = 6 * j ∧ ∀ p ∈ s, (0 ≤ p.1 ∧ p.1 < ((xs.length : Nat) : Int)) ∧ (0 ≤ p.2 ∧ p.2 < ((xs.length : Nat) : Int))) 6 (i := 0) (by rw [rangeI_len]; omega) (fun m hm j s k2 hj ⟨hl, hs⟩ h2 => ?_) ⟨rfl, fun p hp => absurd hp (by simp)⟩ fun s ⟨hl, hs⟩ => ?_
  · obtain ⟨m0, m1⟩ := rangeI_mem hm
    refine ⟨by rw [rangeI_len]; omega, mapC_ok (fun n => (m, n)) (fun n hn k' hk => hk) ?_⟩
    rw [List.nil_append]
    refine ⟨by rw [hl, List.length_map, rangeI_len]; omega, h2 _ ⟨by rw [List.length_append, hl, List.length_map, rangeI_len]; omega, fun p hp => ?_⟩⟩
    rcases List.mem_append.mp hp with h | h
    · exact hs p h
    · obtain ⟨n, hn, en⟩ := List.mem_map.mp h
      obtain ⟨n0, n1⟩ := rangeI_mem hn
      rw [← en]
      exact ⟨⟨m0, m1⟩, n0, n1⟩
  · refine mixed_ok hs (by rw [hl, rangeI_len]; omega) fun ps hps => pairs_ok all6 hps ?_
    rw [if_neg (by decide)]
    refine pairs_ok all6 (fun p hp => hps p (List.mem_reverse.mp hp)) ?_
    rw [if_neg (by decide)]
    refine ⟨by decide, by rw [len6]; decide, fun v0 hv0 => ⟨by decide, by rw [len6]; decide, fun v1 hv1 => ?_⟩⟩
    rw [got0] at hv0
    rw [got1] at hv1
    subst hv0 hv1
    obtain ⟨r, A, hr⟩ := ans ha hb
    refine A.fu _ ?_
    rw [hr hab, if_neg (by decide)]
    refine ⟨by rw [len6]; decide, kept _ ?_⟩
    have ok : ∀ z ∈ xs.map kf, PyData.strOk z = true := fun z hz => by
      obtain ⟨w, hw, ew⟩ := List.mem_map.mp hz
      rw [← ew]
      exact (wreprX (red_wv (all6 w hw))).1
    refine ⟨⟨strs_plain _, strs_plain _, strs_shapedO _ ok, strs_shapedO _ ok⟩, ?_⟩
    rw [SeqAt.eqv_refl _ (SeqAt.canLay_of_shaped (strs_shapedO _ ok))]
    exact q
theorem right_true : M_right fun r => r = true := right_trueK rfl

def sp_law (K : PySem.W.Frag) : Sp := fun vs H Q _ => ∃ (a : Addr) (ns : List Int), vs = [.ref a] ∧ SqL K H a (ns.map V.int) ∧ ns.length ≤ 63 ∧ ∀ H1 : Hp, Q (.bl true) H1
theorem law_enter {K : PySem.W.Frag} {H : Hp} {a : Addr} {ns : List Int} (hl : ns.length ≤ 63) (_ : Only H) (hS : SqL K H a (ns.map V.int)) : sp_law K [.ref a] H (fun v _ => v = .bl true) fun _ _ _ => False := ⟨a, ns, rfl, hS, hl, fun _ => rfl⟩
theorem sq_keep {K : PySem.W.Frag} {H H1 : Hp} {a : Addr} {xs : List V} (k : ∀ b o, H b = some o → H1 b = some o) (h : SqL K H a xs) : SqL K H1 a xs := by
  rcases h with (h | ⟨o, h⟩) | h
  · exact .inl (.inl (k _ _ h))
  · exact .inl (.inr ⟨o, k _ _ h⟩)
  · exact .inr h
theorem ok_law {P : Program} {w : World} {K : PySem.W.Frag} {mg : Str → Option Value} {base : Heap} {A : Ad} (T : Txt w K mg A) : FnG P w K mg base 10 A.a_law A.d_law ["_law_script"] (sp_law K) := by
  refine okG T.F_law sc_law (fun vs H Q E h => ?_) (fun cdv A_ outer s_ H_0 vs Q E gu hr h => ?_)
  · obtain ⟨a, ns, rfl, _⟩ := h
    rfl
  · obtain ⟨a, ns, rfl, hS, hl, hQ⟩ := h
    refine ⟨_, pss_one (ps_ret (pe_callB (cr_all rfl) (by rfl) T.z_all (by decide +kernel) (pa_cons (pe_lc (own := [("_law_k", 1)]) (g := gName 1) rfl sc_law.nd
      (pi_range1 (by rfl) T.z_range (pa_cons (pe_callB (call_max2 rfl) (by rfl) T.z_max (by decide +kernel) (pa_cons pe_int (pa_cons (pe_callB (call_min2 rfl) (by rfl) T.z_min (by decide +kernel) (pa_cons (pe_callB call_len (by rfl) T.z_len PySem.boot_len (pa_cons (pv 0) pa_nil)) (pa_cons pe_int pa_nil))) pa_nil))) pa_nil))
      (blkOk_by (N := ["_law_script", "_law_k"]) (sc := defScope s_law) (by decide +kernel)) (fun _ _ _ _ _ => pg_name (i := 1) sc_law.nd rfl (by first | exact Or.inl rfl | exact Or.inr rfl)) (fun _ _ _ _ _ => pts_nil)
      (fun _ _ _ _ _ => pe_callG (ok_right T) gu (hr.mono (by decide)) (by rfl) T.g_right T.F_right.kp T.b_right (pa_cons (pe_call (ok_pot T) (hr.mono (by decide)) (by rfl) T.g_pot T.F_pot.kp T.b_pot .nil pass0 (pa_cons (pv 0) (pa_cons (pv 1) pa_nil))) pa_nil))) pa_nil))), ?_⟩
    refine ⟨_, rfl, _, ns.length, rfl, .inl ⟨_, hS, by rw [List.length_map]⟩, _, _, rfl, _, _, rfl, _, rfl, ?_, ?_, fun L nl => ?_⟩
    · split <;> split <;> omega
    · split <;> split <;> omega
    have hsq : ∀ H : Hp, (∀ o, H_0 a = some o → H a = some o) → SqL K H a (ns.map V.int) := fun H k => by
      rcases hS with (h | ⟨o, h⟩) | h
      · exact .inl (.inl (k _ h))
      · exact .inl (.inr ⟨o, k _ h⟩)
      · exact .inr h
    refine lc_range (lo := 0) (fun i H => (∀ o, H_0 a = some o → H a = some o) ∧ ∃ n, n ≤ i ∧ H L = some (.lst (List.replicate n (.bl true)))) ⟨fun o h => (Rx.Ext.new nl).keep h, 0, Nat.le_refl _, upd_same⟩ (fun i H hi ⟨hS1, n, hn, hL⟩ => ?_) (fun H ⟨hS1, n, hn, hL⟩ => ?_)
    · refine ⟨rfl, ?_⟩
      refine tyes_of ?_
      have hi4 : i < 64 := by
        refine Nat.lt_of_lt_of_le hi ?_
        split <;> split <;> omega
      refine ⟨_, rfl, _, rfl, a, ns, 0 + (i : Int), rfl, hsq H hS1, hl, by omega, by omega, fun p H1 i1 j1 np e1 hp hj => ?_⟩
      refine ⟨[p], p, fun r => r = true, rfl, ⟨fun _ _ _ h => h, fun _ h => h, fun m hm => ?_, fun b hb => ?_, fun b hb => hb, fun c hc => absurd hc List.not_mem_nil⟩, right_true, fun r u H2 hr2 e2 hu => ?_⟩
      · rw [List.mem_singleton.mp hm, hp]
        exact fun z => nomatch z
      · rw [List.mem_singleton.mp hb]
        exact ⟨i1, j1, hp, hj⟩
      · obtain rfl := of_v hu
        have e3 : ∀ b o, H b = some o → H2 b = some o := fun b o h => e2.kp b o (fun z => by
          rw [List.mem_singleton.mp z, np] at h
          cases h) (e1.keep h)
        refine ⟨_, e3 _ _ hL, ?_, fun o h => ?_, n + 1, Nat.succ_le_succ hn, by rw [upd_same, hr2, List.replicate_succ']⟩
        · rw [List.length_replicate]
          exact Nat.lt_of_le_of_lt (show n ≤ 64 by omega) (by decide)
        · rw [upd_ne (ne_of_none h nl)]
          exact e3 _ _ (hS1 _ h)
    · refine ⟨L, List.replicate n true, rfl, .inl (.inl (by rw [List.map_replicate]; exact hL)), ?_⟩
      have : (List.replicate n true).all id = true := by
        rw [List.all_eq_true]
        intro x hx
        rw [(List.mem_replicate.mp hx).2]
        rfl
      rw [this]
      exact hQ _

theorem all_mk {l : PySem.W.OpenLaw} {w : World} {K : PySem.W.Frag} {h : Heap} {mg : Str → Option Value} {fa Ais_marks Acheck_part Adraw Apick Aturned Asigns Alate Aalike Abent Ashortest_said AWord_reduced AWord_repr Amixed Aleast Aline Adue AWord_eq Asame_rows AWord_least Ais_integer Acheck_places AWord_row Afirst_difference Afirst_unlike_place Apairs_right Aright Apot Alaw AWord_init CWord : Addr} (X : K.In h) (G : h.Ns mainGlobals mg) (hfa : mg "law" = some (.ref fa))
    {odis_marks anis_marks : Option Addr} {slis_marks : Array (Option Value)} {ocis_marks kVis_marks dcis_marks pmis_marks cdis_marks ctis_marks : Value}
    {odcheck_part ancheck_part : Option Addr} {slcheck_part : Array (Option Value)} {occheck_part kVcheck_part dccheck_part pmcheck_part cdcheck_part ctcheck_part : Value}
    {oddraw andraw : Option Addr} {sldraw : Array (Option Value)} {ocdraw kVdraw dcdraw pmdraw cddraw ctdraw : Value}
    {odpick anpick : Option Addr} {slpick : Array (Option Value)} {ocpick kVpick dcpick pmpick cdpick ctpick : Value}
    {odturned anturned : Option Addr} {slturned : Array (Option Value)} {octurned kVturned dcturned pmturned cdturned ctturned : Value}
    {odsigns ansigns : Option Addr} {slsigns : Array (Option Value)} {ocsigns kVsigns dcsigns pmsigns cdsigns ctsigns : Value}
    {odlate anlate : Option Addr} {sllate : Array (Option Value)} {oclate kVlate dclate pmlate cdlate ctlate : Value}
    {odalike analike : Option Addr} {slalike : Array (Option Value)} {ocalike kValike dcalike pmalike cdalike ctalike : Value}
    {odbent anbent : Option Addr} {slbent : Array (Option Value)} {ocbent kVbent dcbent pmbent cdbent ctbent : Value}
    {odshortest_said anshortest_said : Option Addr} {slshortest_said : Array (Option Value)} {ocshortest_said kVshortest_said dcshortest_said pmshortest_said cdshortest_said ctshortest_said : Value}
    {odWord_reduced anWord_reduced : Option Addr} {slWord_reduced : Array (Option Value)} {ocWord_reduced kVWord_reduced dcWord_reduced pmWord_reduced cdWord_reduced ctWord_reduced : Value}
    {odWord_repr anWord_repr : Option Addr} {slWord_repr : Array (Option Value)} {ocWord_repr kVWord_repr dcWord_repr pmWord_repr cdWord_repr ctWord_repr : Value}
    {odmixed anmixed : Option Addr} {slmixed : Array (Option Value)} {ocmixed kVmixed dcmixed pmmixed cdmixed ctmixed : Value}
    {odleast anleast : Option Addr} {slleast : Array (Option Value)} {ocleast kVleast dcleast pmleast cdleast ctleast : Value}
    {odline anline : Option Addr} {slline : Array (Option Value)} {ocline kVline dcline pmline cdline ctline : Value}
    {oddue andue : Option Addr} {sldue : Array (Option Value)} {ocdue kVdue dcdue pmdue cddue ctdue : Value}
    {odWord_eq anWord_eq : Option Addr} {slWord_eq : Array (Option Value)} {ocWord_eq kVWord_eq dcWord_eq pmWord_eq cdWord_eq ctWord_eq : Value}
    {odsame_rows ansame_rows : Option Addr} {slsame_rows : Array (Option Value)} {ocsame_rows kVsame_rows dcsame_rows pmsame_rows cdsame_rows ctsame_rows : Value}
    {PWord_least : Addr}
    {RWord_least : List Value}
    {odWord_least anWord_least : Option Addr} {slWord_least : Array (Option Value)} {ocWord_least kVWord_least dcWord_least pmWord_least cdWord_least ctWord_least : Value}
    {odis_integer anis_integer : Option Addr} {slis_integer : Array (Option Value)} {ocis_integer kVis_integer dcis_integer pmis_integer cdis_integer ctis_integer : Value}
    {odcheck_places ancheck_places : Option Addr} {slcheck_places : Array (Option Value)} {occheck_places kVcheck_places dccheck_places pmcheck_places cdcheck_places ctcheck_places : Value}
    {odWord_row anWord_row : Option Addr} {slWord_row : Array (Option Value)} {ocWord_row kVWord_row dcWord_row pmWord_row cdWord_row ctWord_row : Value}
    {odfirst_difference anfirst_difference : Option Addr} {slfirst_difference : Array (Option Value)} {ocfirst_difference kVfirst_difference dcfirst_difference pmfirst_difference cdfirst_difference ctfirst_difference : Value}
    {odfirst_unlike_place anfirst_unlike_place : Option Addr} {slfirst_unlike_place : Array (Option Value)} {ocfirst_unlike_place kVfirst_unlike_place dcfirst_unlike_place pmfirst_unlike_place cdfirst_unlike_place ctfirst_unlike_place : Value}
    {odpairs_right anpairs_right : Option Addr} {slpairs_right : Array (Option Value)} {ocpairs_right kVpairs_right dcpairs_right pmpairs_right cdpairs_right ctpairs_right : Value}
    {odright anright : Option Addr} {slright : Array (Option Value)} {ocright kVright dcright pmright cdright ctright : Value}
    {odpot anpot : Option Addr} {slpot : Array (Option Value)} {ocpot kVpot dcpot pmpot cdpot ctpot : Value}
    {odlaw anlaw : Option Addr} {sllaw : Array (Option Value)} {oclaw kVlaw dclaw pmlaw cdlaw ctlaw : Value}
    {odWord_init anWord_init : Option Addr} {slWord_init : Array (Option Value)} {ocWord_init kVWord_init dcWord_init pmWord_init cdWord_init ctWord_init : Value}
    {tMOST_MARKS : Tok}
    {tMOST_PLACES : Tok}
    (a_is_marks : PySem.W.nsIn K mainGlobals "is_marks" = some (some (.ref Ais_marks)))
    (l_is_marks : K.lookup Ais_marks = some ⟨ocis_marks, odis_marks, .func (PySem.W.fnOf "is_marks" "is_marks" (defArgs s_is_marks) (defBody s_is_marks) (defScope s_is_marks) .none kVis_marks dcis_marks pmis_marks anis_marks cdis_marks ctis_marks), slis_marks⟩)
    (o_is_marks : PySem.W.codeIn K cdis_marks "is_marks" = true)
    (k_is_marks : PySem.W.keepIn K (.ref Ais_marks) = true)
    (a_check_part : PySem.W.nsIn K mainGlobals "_check_part" = some (some (.ref Acheck_part)))
    (l_check_part : K.lookup Acheck_part = some ⟨occheck_part, odcheck_part, .func (PySem.W.fnOf "_check_part" "_check_part" (defArgs s_check_part) (defBody s_check_part) (defScope s_check_part) .none kVcheck_part dccheck_part pmcheck_part ancheck_part cdcheck_part ctcheck_part), slcheck_part⟩)
    (o_check_part : PySem.W.codeIn K cdcheck_part "_check_part" = true)
    (k_check_part : PySem.W.keepIn K (.ref Acheck_part) = true)
    (a_draw : PySem.W.nsIn K mainGlobals "_law_draw" = some (some (.ref Adraw)))
    (l_draw : K.lookup Adraw = some ⟨ocdraw, oddraw, .func (PySem.W.fnOf "_law_draw" "_law_draw" (defArgs s_draw) (defBody s_draw) (defScope s_draw) .none kVdraw dcdraw pmdraw andraw cddraw ctdraw), sldraw⟩)
    (o_draw : PySem.W.codeIn K cddraw "_law_draw" = true)
    (k_draw : PySem.W.keepIn K (.ref Adraw) = true)
    (a_pick : PySem.W.nsIn K mainGlobals "_law_pick" = some (some (.ref Apick)))
    (l_pick : K.lookup Apick = some ⟨ocpick, odpick, .func (PySem.W.fnOf "_law_pick" "_law_pick" (defArgs s_pick) (defBody s_pick) (defScope s_pick) .none kVpick dcpick pmpick anpick cdpick ctpick), slpick⟩)
    (o_pick : PySem.W.codeIn K cdpick "_law_pick" = true)
    (k_pick : PySem.W.keepIn K (.ref Apick) = true)
    (a_turned : PySem.W.nsIn K mainGlobals "_law_turned" = some (some (.ref Aturned)))
    (l_turned : K.lookup Aturned = some ⟨octurned, odturned, .func (PySem.W.fnOf "_law_turned" "_law_turned" (defArgs s_turned) (defBody s_turned) (defScope s_turned) .none kVturned dcturned pmturned anturned cdturned ctturned), slturned⟩)
    (o_turned : PySem.W.codeIn K cdturned "_law_turned" = true)
    (k_turned : PySem.W.keepIn K (.ref Aturned) = true)
    (a_signs : PySem.W.nsIn K mainGlobals "_law_signs" = some (some (.ref Asigns)))
    (l_signs : K.lookup Asigns = some ⟨ocsigns, odsigns, .func (PySem.W.fnOf "_law_signs" "_law_signs" (defArgs s_signs) (defBody s_signs) (defScope s_signs) .none kVsigns dcsigns pmsigns ansigns cdsigns ctsigns), slsigns⟩)
    (o_signs : PySem.W.codeIn K cdsigns "_law_signs" = true)
    (k_signs : PySem.W.keepIn K (.ref Asigns) = true)
    (a_late : PySem.W.nsIn K mainGlobals "_law_late" = some (some (.ref Alate)))
    (l_late : K.lookup Alate = some ⟨oclate, odlate, .func (PySem.W.fnOf "_law_late" "_law_late" (defArgs s_late) (defBody s_late) (defScope s_late) .none kVlate dclate pmlate anlate cdlate ctlate), sllate⟩)
    (o_late : PySem.W.codeIn K cdlate "_law_late" = true)
    (k_late : PySem.W.keepIn K (.ref Alate) = true)
    (a_alike : PySem.W.nsIn K mainGlobals "_law_alike" = some (some (.ref Aalike)))
    (l_alike : K.lookup Aalike = some ⟨ocalike, odalike, .func (PySem.W.fnOf "_law_alike" "_law_alike" (defArgs s_alike) (defBody s_alike) (defScope s_alike) .none kValike dcalike pmalike analike cdalike ctalike), slalike⟩)
    (o_alike : PySem.W.codeIn K cdalike "_law_alike" = true)
    (k_alike : PySem.W.keepIn K (.ref Aalike) = true)
    (a_bent : PySem.W.nsIn K mainGlobals "_law_bent" = some (some (.ref Abent)))
    (l_bent : K.lookup Abent = some ⟨ocbent, odbent, .func (PySem.W.fnOf "_law_bent" "_law_bent" (defArgs s_bent) (defBody s_bent) (defScope s_bent) .none kVbent dcbent pmbent anbent cdbent ctbent), slbent⟩)
    (o_bent : PySem.W.codeIn K cdbent "_law_bent" = true)
    (k_bent : PySem.W.keepIn K (.ref Abent) = true)
    (a_shortest_said : PySem.W.nsIn K mainGlobals "_shortest_said" = some (some (.ref Ashortest_said)))
    (l_shortest_said : K.lookup Ashortest_said = some ⟨ocshortest_said, odshortest_said, .func (PySem.W.fnOf "_shortest_said" "_shortest_said" (defArgs s_shortest_said) (defBody s_shortest_said) (defScope s_shortest_said) .none kVshortest_said dcshortest_said pmshortest_said anshortest_said cdshortest_said ctshortest_said), slshortest_said⟩)
    (o_shortest_said : PySem.W.codeIn K cdshortest_said "_shortest_said" = true)
    (k_shortest_said : PySem.W.keepIn K (.ref Ashortest_said) = true)
    (a_Word_reduced : PySem.W.findIn K (.ref CWord) "reduced" = some (some (.ref AWord_reduced)))
    (i_Word_reduced : PySem.W.isFn K (.ref AWord_reduced) = true)
    (l_Word_reduced : K.lookup AWord_reduced = some ⟨ocWord_reduced, odWord_reduced, .func (PySem.W.fnOf "reduced" "Word.reduced" (defArgs s_Word_reduced) (defBody s_Word_reduced) (defScope s_Word_reduced) .none kVWord_reduced dcWord_reduced pmWord_reduced anWord_reduced cdWord_reduced ctWord_reduced), slWord_reduced⟩)
    (o_Word_reduced : PySem.W.codeIn K cdWord_reduced "Word.reduced" = true)
    (k_Word_reduced : PySem.W.keepIn K (.ref AWord_reduced) = true)
    (a_Word_repr : PySem.W.findIn K (.ref CWord) "__repr__" = some (some (.ref AWord_repr)))
    (i_Word_repr : PySem.W.isFn K (.ref AWord_repr) = true)
    (l_Word_repr : K.lookup AWord_repr = some ⟨ocWord_repr, odWord_repr, .func (PySem.W.fnOf "__repr__" "Word.__repr__" (defArgs s_Word_repr) (defBody s_Word_repr) (defScope s_Word_repr) .none kVWord_repr dcWord_repr pmWord_repr anWord_repr cdWord_repr ctWord_repr), slWord_repr⟩)
    (o_Word_repr : PySem.W.codeIn K cdWord_repr "Word.__repr__" = true)
    (k_Word_repr : PySem.W.keepIn K (.ref AWord_repr) = true)
    (a_mixed : PySem.W.nsIn K mainGlobals "_law_mixed" = some (some (.ref Amixed)))
    (l_mixed : K.lookup Amixed = some ⟨ocmixed, odmixed, .func (PySem.W.fnOf "_law_mixed" "_law_mixed" (defArgs s_mixed) (defBody s_mixed) (defScope s_mixed) .none kVmixed dcmixed pmmixed anmixed cdmixed ctmixed), slmixed⟩)
    (o_mixed : PySem.W.codeIn K cdmixed "_law_mixed" = true)
    (k_mixed : PySem.W.keepIn K (.ref Amixed) = true)
    (a_least : PySem.W.nsIn K mainGlobals "_law_least" = some (some (.ref Aleast)))
    (l_least : K.lookup Aleast = some ⟨ocleast, odleast, .func (PySem.W.fnOf "_law_least" "_law_least" (defArgs s_least) (defBody s_least) (defScope s_least) .none kVleast dcleast pmleast anleast cdleast ctleast), slleast⟩)
    (o_least : PySem.W.codeIn K cdleast "_law_least" = true)
    (k_least : PySem.W.keepIn K (.ref Aleast) = true)
    (a_line : PySem.W.nsIn K mainGlobals "_law_line" = some (some (.ref Aline)))
    (l_line : K.lookup Aline = some ⟨ocline, odline, .func (PySem.W.fnOf "_law_line" "_law_line" (defArgs s_line) (defBody s_line) (defScope s_line) .none kVline dcline pmline anline cdline ctline), slline⟩)
    (o_line : PySem.W.codeIn K cdline "_law_line" = true)
    (k_line : PySem.W.keepIn K (.ref Aline) = true)
    (a_due : PySem.W.nsIn K mainGlobals "_law_due" = some (some (.ref Adue)))
    (l_due : K.lookup Adue = some ⟨ocdue, oddue, .func (PySem.W.fnOf "_law_due" "_law_due" (defArgs s_due) (defBody s_due) (defScope s_due) .none kVdue dcdue pmdue andue cddue ctdue), sldue⟩)
    (o_due : PySem.W.codeIn K cddue "_law_due" = true)
    (k_due : PySem.W.keepIn K (.ref Adue) = true)
    (a_Word_eq : PySem.W.findIn K (.ref CWord) "__eq__" = some (some (.ref AWord_eq)))
    (i_Word_eq : PySem.W.isFn K (.ref AWord_eq) = true)
    (l_Word_eq : K.lookup AWord_eq = some ⟨ocWord_eq, odWord_eq, .func (PySem.W.fnOf "__eq__" "Word.__eq__" (defArgs s_Word_eq) (defBody s_Word_eq) (defScope s_Word_eq) .none kVWord_eq dcWord_eq pmWord_eq anWord_eq cdWord_eq ctWord_eq), slWord_eq⟩)
    (o_Word_eq : PySem.W.codeIn K cdWord_eq "Word.__eq__" = true)
    (k_Word_eq : PySem.W.keepIn K (.ref AWord_eq) = true)
    (a_same_rows : PySem.W.nsIn K mainGlobals "same_rows" = some (some (.ref Asame_rows)))
    (l_same_rows : K.lookup Asame_rows = some ⟨ocsame_rows, odsame_rows, .func (PySem.W.fnOf "same_rows" "same_rows" (defArgs s_same_rows) (defBody s_same_rows) (defScope s_same_rows) .none kVsame_rows dcsame_rows pmsame_rows ansame_rows cdsame_rows ctsame_rows), slsame_rows⟩)
    (o_same_rows : PySem.W.codeIn K cdsame_rows "same_rows" = true)
    (k_same_rows : PySem.W.keepIn K (.ref Asame_rows) = true)
    (pa_Word_least : PySem.W.findIn K (.ref CWord) "least" = some (some (.ref PWord_least)))
    (pg_Word_least : PySem.W.specialIn K (.ref PWord_least) "__get__" = some (some (.builtin "property.__get__")))
    (pt_Word_least : PySem.W.takesIn K (.ref PWord_least) = some true)
    (pr_Word_least : PySem.W.recIn K PWord_least "property" = some (.ref AWord_least :: RWord_least))
    (l_Word_least : K.lookup AWord_least = some ⟨ocWord_least, odWord_least, .func (PySem.W.fnOf "least" "Word.least" (defArgs s_Word_least) (defBody s_Word_least) (defScope s_Word_least) .none kVWord_least dcWord_least pmWord_least anWord_least cdWord_least ctWord_least), slWord_least⟩)
    (o_Word_least : PySem.W.codeIn K cdWord_least "Word.least" = true)
    (k_Word_least : PySem.W.keepIn K (.ref AWord_least) = true)
    (a_is_integer : PySem.W.nsIn K mainGlobals "is_integer" = some (some (.ref Ais_integer)))
    (l_is_integer : K.lookup Ais_integer = some ⟨ocis_integer, odis_integer, .func (PySem.W.fnOf "is_integer" "is_integer" (defArgs s_is_integer) (defBody s_is_integer) (defScope s_is_integer) .none kVis_integer dcis_integer pmis_integer anis_integer cdis_integer ctis_integer), slis_integer⟩)
    (o_is_integer : PySem.W.codeIn K cdis_integer "is_integer" = true)
    (k_is_integer : PySem.W.keepIn K (.ref Ais_integer) = true)
    (a_check_places : PySem.W.nsIn K mainGlobals "_check_places" = some (some (.ref Acheck_places)))
    (l_check_places : K.lookup Acheck_places = some ⟨occheck_places, odcheck_places, .func (PySem.W.fnOf "_check_places" "_check_places" (defArgs s_check_places) (defBody s_check_places) (defScope s_check_places) .none kVcheck_places dccheck_places pmcheck_places ancheck_places cdcheck_places ctcheck_places), slcheck_places⟩)
    (o_check_places : PySem.W.codeIn K cdcheck_places "_check_places" = true)
    (k_check_places : PySem.W.keepIn K (.ref Acheck_places) = true)
    (a_Word_row : PySem.W.findIn K (.ref CWord) "row" = some (some (.ref AWord_row)))
    (i_Word_row : PySem.W.isFn K (.ref AWord_row) = true)
    (l_Word_row : K.lookup AWord_row = some ⟨ocWord_row, odWord_row, .func (PySem.W.fnOf "row" "Word.row" (defArgs s_Word_row) (defBody s_Word_row) (defScope s_Word_row) .none kVWord_row dcWord_row pmWord_row anWord_row cdWord_row ctWord_row), slWord_row⟩)
    (o_Word_row : PySem.W.codeIn K cdWord_row "Word.row" = true)
    (k_Word_row : PySem.W.keepIn K (.ref AWord_row) = true)
    (a_first_difference : PySem.W.nsIn K mainGlobals "_first_difference" = some (some (.ref Afirst_difference)))
    (l_first_difference : K.lookup Afirst_difference = some ⟨ocfirst_difference, odfirst_difference, .func (PySem.W.fnOf "_first_difference" "_first_difference" (defArgs s_first_difference) (defBody s_first_difference) (defScope s_first_difference) .none kVfirst_difference dcfirst_difference pmfirst_difference anfirst_difference cdfirst_difference ctfirst_difference), slfirst_difference⟩)
    (o_first_difference : PySem.W.codeIn K cdfirst_difference "_first_difference" = true)
    (k_first_difference : PySem.W.keepIn K (.ref Afirst_difference) = true)
    (a_first_unlike_place : PySem.W.nsIn K mainGlobals "first_unlike_place" = some (some (.ref Afirst_unlike_place)))
    (l_first_unlike_place : K.lookup Afirst_unlike_place = some ⟨ocfirst_unlike_place, odfirst_unlike_place, .func (PySem.W.fnOf "first_unlike_place" "first_unlike_place" (defArgs s_first_unlike_place) (defBody s_first_unlike_place) (defScope s_first_unlike_place) .none kVfirst_unlike_place dcfirst_unlike_place pmfirst_unlike_place anfirst_unlike_place cdfirst_unlike_place ctfirst_unlike_place), slfirst_unlike_place⟩)
    (o_first_unlike_place : PySem.W.codeIn K cdfirst_unlike_place "first_unlike_place" = true)
    (k_first_unlike_place : PySem.W.keepIn K (.ref Afirst_unlike_place) = true)
    (a_pairs_right : PySem.W.nsIn K mainGlobals "_law_pairs_right" = some (some (.ref Apairs_right)))
    (l_pairs_right : K.lookup Apairs_right = some ⟨ocpairs_right, odpairs_right, .func (PySem.W.fnOf "_law_pairs_right" "_law_pairs_right" (defArgs s_pairs_right) (defBody s_pairs_right) (defScope s_pairs_right) .none kVpairs_right dcpairs_right pmpairs_right anpairs_right cdpairs_right ctpairs_right), slpairs_right⟩)
    (o_pairs_right : PySem.W.codeIn K cdpairs_right "_law_pairs_right" = true)
    (k_pairs_right : PySem.W.keepIn K (.ref Apairs_right) = true)
    (a_right : PySem.W.nsIn K mainGlobals "_law_right" = some (some (.ref Aright)))
    (l_right : K.lookup Aright = some ⟨ocright, odright, .func (PySem.W.fnOf "_law_right" "_law_right" (defArgs s_right) (defBody s_right) (defScope s_right) .none kVright dcright pmright anright cdright ctright), slright⟩)
    (o_right : PySem.W.codeIn K cdright "_law_right" = true)
    (k_right : PySem.W.keepIn K (.ref Aright) = true)
    (a_pot : PySem.W.nsIn K mainGlobals "_law_pot" = some (some (.ref Apot)))
    (l_pot : K.lookup Apot = some ⟨ocpot, odpot, .func (PySem.W.fnOf "_law_pot" "_law_pot" (defArgs s_pot) (defBody s_pot) (defScope s_pot) .none kVpot dcpot pmpot anpot cdpot ctpot), slpot⟩)
    (o_pot : PySem.W.codeIn K cdpot "_law_pot" = true)
    (k_pot : PySem.W.keepIn K (.ref Apot) = true)
    (a_law : PySem.W.nsIn K mainGlobals "law" = some (some (.ref Alaw)))
    (l_law : K.lookup Alaw = some ⟨oclaw, odlaw, .func (PySem.W.fnOf "law" "law" (defArgs s_law) (defBody s_law) (defScope s_law) .none kVlaw dclaw pmlaw anlaw cdlaw ctlaw), sllaw⟩)
    (o_law : PySem.W.codeIn K cdlaw "law" = true)
    (k_law : PySem.W.keepIn K (.ref Alaw) = true)
    (a_Word_init : PySem.W.findIn K (.ref CWord) "__init__" = some (some (.ref AWord_init)))
    (i_Word_init : PySem.W.isFn K (.ref AWord_init) = true)
    (l_Word_init : K.lookup AWord_init = some ⟨ocWord_init, odWord_init, .func (PySem.W.fnOf "__init__" "Word.__init__" (defArgs s_Word_init) (defBody s_Word_init) (defScope s_Word_init) .none kVWord_init dcWord_init pmWord_init anWord_init cdWord_init ctWord_init), slWord_init⟩)
    (o_Word_init : PySem.W.codeIn K cdWord_init "Word.__init__" = true)
    (k_Word_init : PySem.W.keepIn K (.ref AWord_init) = true)
    (aC_Word : PySem.W.nsIn K mainGlobals "Word" = some (some (.ref CWord)))
    (pg_Word : PySem.W.plainGet K CWord Str.empty = true)
    (hd_Word : PySem.W.hasDictIn K CWord = true)
    (po_Word : PySem.W.plainOver K CWord = true)
    (sa_Word : PySem.W.findIn K (.ref CWord) "__setattr__" = some (some (.builtin "object.__setattr__")))
    (mk_Word : PySem.W.makesIn K CWord = true)
    (kc_Word : PySem.W.keepIn K (.ref CWord) = true)
    (na_Word__head : PySem.W.findIn K (.ref CWord) "_head" = some none)
    (na_Word__middle : PySem.W.findIn K (.ref CWord) "_middle" = some none)
    (na_Word__tail : PySem.W.findIn K (.ref CWord) "_tail" = some none)
    (ic1_Word : PySem.W.findIn K (.ref CWord) "__class__" = some (some (.builtin "object.__class__")))
    (ic2_Word : PySem.W.specialIn K (.builtin "object.__class__") "__get__" = some (some (.builtin "getset_descriptor.__get__")))
    (ic3_Word : PySem.W.takesIn K (.builtin "object.__class__") = some true)
    (ic4_Word : PySem.W.mroIn K CWord (.type "object") = some true)
    (z_abs : PySem.W.nsIn K mainGlobals "abs" = some none)
    (z_all : PySem.W.nsIn K mainGlobals "all" = some none)
    (z_bool : PySem.W.nsIn K mainGlobals "bool" = some none)
    (z_divmod : PySem.W.nsIn K mainGlobals "divmod" = some none)
    (z_int : PySem.W.nsIn K mainGlobals "int" = some none)
    (z_isinstance : PySem.W.nsIn K mainGlobals "isinstance" = some none)
    (z_len : PySem.W.nsIn K mainGlobals "len" = some none)
    (z_list : PySem.W.nsIn K mainGlobals "list" = some none)
    (z_max : PySem.W.nsIn K mainGlobals "max" = some none)
    (z_min : PySem.W.nsIn K mainGlobals "min" = some none)
    (z_range : PySem.W.nsIn K mainGlobals "range" = some none)
    (z_repr : PySem.W.nsIn K mainGlobals "repr" = some none)
    (z_str : PySem.W.nsIn K mainGlobals "str" = some none)
    (c_MOST_MARKS : PySem.W.nsIn K mainGlobals "MOST_MARKS" = some (some (.int 4 tMOST_MARKS)))
    (c_MOST_PLACES : PySem.W.nsIn K mainGlobals "MOST_PLACES" = some (some (.int 2000 tMOST_PLACES))) :
    ∃ fd : FuncData, (∀ (s : Shared) (v : Value), BindsTo s fd ⟨[v], []⟩ [("_law_script", v)]) ∧ ∀ base : Heap, K.In base → base.Ns mainGlobals mg → FnG l.prog w K mg base 10 fa fd ["_law_script"] (sp_law K) := by
  have e := hfa.symm.trans (PySem.W.mg_of X G a_law)
  cases e
  have T : Txt w K mg ⟨Ais_marks, (PySem.W.fnOf "is_marks" "is_marks" (defArgs s_is_marks) (defBody s_is_marks) (defScope s_is_marks) .none kVis_marks dcis_marks pmis_marks anis_marks cdis_marks ctis_marks), Acheck_part, (PySem.W.fnOf "_check_part" "_check_part" (defArgs s_check_part) (defBody s_check_part) (defScope s_check_part) .none kVcheck_part dccheck_part pmcheck_part ancheck_part cdcheck_part ctcheck_part), Adraw, (PySem.W.fnOf "_law_draw" "_law_draw" (defArgs s_draw) (defBody s_draw) (defScope s_draw) .none kVdraw dcdraw pmdraw andraw cddraw ctdraw), Apick, (PySem.W.fnOf "_law_pick" "_law_pick" (defArgs s_pick) (defBody s_pick) (defScope s_pick) .none kVpick dcpick pmpick anpick cdpick ctpick), Aturned, (PySem.W.fnOf "_law_turned" "_law_turned" (defArgs s_turned) (defBody s_turned) (defScope s_turned) .none kVturned dcturned pmturned anturned cdturned ctturned), Asigns, (PySem.W.fnOf "_law_signs" "_law_signs" (defArgs s_signs) (defBody s_signs) (defScope s_signs) .none kVsigns dcsigns pmsigns ansigns cdsigns ctsigns), Alate, (PySem.W.fnOf "_law_late" "_law_late" (defArgs s_late) (defBody s_late) (defScope s_late) .none kVlate dclate pmlate anlate cdlate ctlate), Aalike, (PySem.W.fnOf "_law_alike" "_law_alike" (defArgs s_alike) (defBody s_alike) (defScope s_alike) .none kValike dcalike pmalike analike cdalike ctalike), Abent, (PySem.W.fnOf "_law_bent" "_law_bent" (defArgs s_bent) (defBody s_bent) (defScope s_bent) .none kVbent dcbent pmbent anbent cdbent ctbent), Ashortest_said, (PySem.W.fnOf "_shortest_said" "_shortest_said" (defArgs s_shortest_said) (defBody s_shortest_said) (defScope s_shortest_said) .none kVshortest_said dcshortest_said pmshortest_said anshortest_said cdshortest_said ctshortest_said), AWord_reduced, (PySem.W.fnOf "reduced" "Word.reduced" (defArgs s_Word_reduced) (defBody s_Word_reduced) (defScope s_Word_reduced) .none kVWord_reduced dcWord_reduced pmWord_reduced anWord_reduced cdWord_reduced ctWord_reduced), AWord_repr, (PySem.W.fnOf "__repr__" "Word.__repr__" (defArgs s_Word_repr) (defBody s_Word_repr) (defScope s_Word_repr) .none kVWord_repr dcWord_repr pmWord_repr anWord_repr cdWord_repr ctWord_repr), Amixed, (PySem.W.fnOf "_law_mixed" "_law_mixed" (defArgs s_mixed) (defBody s_mixed) (defScope s_mixed) .none kVmixed dcmixed pmmixed anmixed cdmixed ctmixed), Aleast, (PySem.W.fnOf "_law_least" "_law_least" (defArgs s_least) (defBody s_least) (defScope s_least) .none kVleast dcleast pmleast anleast cdleast ctleast), Aline, (PySem.W.fnOf "_law_line" "_law_line" (defArgs s_line) (defBody s_line) (defScope s_line) .none kVline dcline pmline anline cdline ctline), Adue, (PySem.W.fnOf "_law_due" "_law_due" (defArgs s_due) (defBody s_due) (defScope s_due) .none kVdue dcdue pmdue andue cddue ctdue), AWord_eq, (PySem.W.fnOf "__eq__" "Word.__eq__" (defArgs s_Word_eq) (defBody s_Word_eq) (defScope s_Word_eq) .none kVWord_eq dcWord_eq pmWord_eq anWord_eq cdWord_eq ctWord_eq), Asame_rows, (PySem.W.fnOf "same_rows" "same_rows" (defArgs s_same_rows) (defBody s_same_rows) (defScope s_same_rows) .none kVsame_rows dcsame_rows pmsame_rows ansame_rows cdsame_rows ctsame_rows), AWord_least, (PySem.W.fnOf "least" "Word.least" (defArgs s_Word_least) (defBody s_Word_least) (defScope s_Word_least) .none kVWord_least dcWord_least pmWord_least anWord_least cdWord_least ctWord_least), Ais_integer, (PySem.W.fnOf "is_integer" "is_integer" (defArgs s_is_integer) (defBody s_is_integer) (defScope s_is_integer) .none kVis_integer dcis_integer pmis_integer anis_integer cdis_integer ctis_integer), Acheck_places, (PySem.W.fnOf "_check_places" "_check_places" (defArgs s_check_places) (defBody s_check_places) (defScope s_check_places) .none kVcheck_places dccheck_places pmcheck_places ancheck_places cdcheck_places ctcheck_places), AWord_row, (PySem.W.fnOf "row" "Word.row" (defArgs s_Word_row) (defBody s_Word_row) (defScope s_Word_row) .none kVWord_row dcWord_row pmWord_row anWord_row cdWord_row ctWord_row), Afirst_difference, (PySem.W.fnOf "_first_difference" "_first_difference" (defArgs s_first_difference) (defBody s_first_difference) (defScope s_first_difference) .none kVfirst_difference dcfirst_difference pmfirst_difference anfirst_difference cdfirst_difference ctfirst_difference), Afirst_unlike_place, (PySem.W.fnOf "first_unlike_place" "first_unlike_place" (defArgs s_first_unlike_place) (defBody s_first_unlike_place) (defScope s_first_unlike_place) .none kVfirst_unlike_place dcfirst_unlike_place pmfirst_unlike_place anfirst_unlike_place cdfirst_unlike_place ctfirst_unlike_place), Apairs_right, (PySem.W.fnOf "_law_pairs_right" "_law_pairs_right" (defArgs s_pairs_right) (defBody s_pairs_right) (defScope s_pairs_right) .none kVpairs_right dcpairs_right pmpairs_right anpairs_right cdpairs_right ctpairs_right), Aright, (PySem.W.fnOf "_law_right" "_law_right" (defArgs s_right) (defBody s_right) (defScope s_right) .none kVright dcright pmright anright cdright ctright), Apot, (PySem.W.fnOf "_law_pot" "_law_pot" (defArgs s_pot) (defBody s_pot) (defScope s_pot) .none kVpot dcpot pmpot anpot cdpot ctpot), fa, (PySem.W.fnOf "law" "law" (defArgs s_law) (defBody s_law) (defScope s_law) .none kVlaw dclaw pmlaw anlaw cdlaw ctlaw), AWord_init, (PySem.W.fnOf "__init__" "Word.__init__" (defArgs s_Word_init) (defBody s_Word_init) (defScope s_Word_init) .none kVWord_init dcWord_init pmWord_init anWord_init cdWord_init ctWord_init), CWord, PWord_least⟩ := ⟨fun_mk (st := s_is_marks) l_is_marks o_is_marks k_is_marks, (fun_mk (st := s_is_marks) l_is_marks o_is_marks k_is_marks).binds (ps := ["value"]) fun _ _ _ _ _ _ us hl => match us, hl with | [_], _ => rfl, PySem.W.mg_of X G a_is_marks, fun_mk (st := s_check_part) l_check_part o_check_part k_check_part, (fun_mk (st := s_check_part) l_check_part o_check_part k_check_part).binds (ps := ["marks"]) fun _ _ _ _ _ _ us hl => match us, hl with | [_], _ => rfl, PySem.W.mg_of X G a_check_part, fun_mk (st := s_draw) l_draw o_draw k_draw, (fun_mk (st := s_draw) l_draw o_draw k_draw).binds (ps := ["_law_pot_here", "_law_size"]) fun _ _ _ _ _ _ us hl => match us, hl with | [_, _], _ => rfl, PySem.W.mg_of X G a_draw, fun_mk (st := s_pick) l_pick o_pick k_pick, (fun_mk (st := s_pick) l_pick o_pick k_pick).binds (ps := ["_law_pot_here", "_law_some"]) fun _ _ _ _ _ _ us hl => match us, hl with | [_, _], _ => rfl, PySem.W.mg_of X G a_pick, fun_mk (st := s_turned) l_turned o_turned k_turned, (fun_mk (st := s_turned) l_turned o_turned k_turned).binds (ps := ["_law_signs_here"]) fun _ _ _ _ _ _ us hl => match us, hl with | [_], _ => rfl, PySem.W.mg_of X G a_turned, fun_mk (st := s_signs) l_signs o_signs k_signs, (fun_mk (st := s_signs) l_signs o_signs k_signs).binds (ps := ["_law_pot_here", "_law_few", "_law_many"]) fun _ _ _ _ _ _ us hl => match us, hl with | [_, _, _], _ => rfl, PySem.W.mg_of X G a_signs, fun_mk (st := s_late) l_late o_late k_late, (fun_mk (st := s_late) l_late o_late k_late).binds (ps := ["_law_pot_here"]) fun _ _ _ _ _ _ us hl => match us, hl with | [_], _ => rfl, PySem.W.mg_of X G a_late, fun_mk (st := s_alike) l_alike o_alike k_alike, (fun_mk (st := s_alike) l_alike o_alike k_alike).binds (ps := ["_law_pot_here", "_law_parts_here"]) fun _ _ _ _ _ _ us hl => match us, hl with | [_, _], _ => rfl, PySem.W.mg_of X G a_alike, fun_mk (st := s_bent) l_bent o_bent k_bent, (fun_mk (st := s_bent) l_bent o_bent k_bent).binds (ps := ["_law_pot_here", "_law_parts_here"]) fun _ _ _ _ _ _ us hl => match us, hl with | [_, _], _ => rfl, PySem.W.mg_of X G a_bent, fun_mk (st := s_shortest_said) l_shortest_said o_shortest_said k_shortest_said, (fun_mk (st := s_shortest_said) l_shortest_said o_shortest_said k_shortest_said).binds (ps := ["middle"]) fun _ _ _ _ _ _ us hl => match us, hl with | [_], _ => rfl, PySem.W.mg_of X G a_shortest_said, fun_mk (st := s_Word_reduced) l_Word_reduced o_Word_reduced k_Word_reduced, (fun_mk (st := s_Word_reduced) l_Word_reduced o_Word_reduced k_Word_reduced).binds (ps := ["self"]) fun _ _ _ _ _ _ us hl => match us, hl with | [_], _ => rfl, ⟨a_Word_reduced, i_Word_reduced, k_Word_reduced⟩, fun_mk (st := s_Word_repr) l_Word_repr o_Word_repr k_Word_repr, (fun_mk (st := s_Word_repr) l_Word_repr o_Word_repr k_Word_repr).binds (ps := ["self"]) fun _ _ _ _ _ _ us hl => match us, hl with | [_], _ => rfl, ⟨a_Word_repr, i_Word_repr, k_Word_repr⟩, fun_mk (st := s_mixed) l_mixed o_mixed k_mixed, (fun_mk (st := s_mixed) l_mixed o_mixed k_mixed).binds (ps := ["_law_pot_here", "_law_some"]) fun _ _ _ _ _ _ us hl => match us, hl with | [_, _], _ => rfl, PySem.W.mg_of X G a_mixed, fun_mk (st := s_least) l_least o_least k_least, (fun_mk (st := s_least) l_least o_least k_least).binds (ps := ["_law_parts_here"]) fun _ _ _ _ _ _ us hl => match us, hl with | [_], _ => rfl, PySem.W.mg_of X G a_least, fun_mk (st := s_line) l_line o_line k_line, (fun_mk (st := s_line) l_line o_line k_line).binds (ps := ["_law_parts_here", "_law_size"]) fun _ _ _ _ _ _ us hl => match us, hl with | [_, _], _ => rfl, PySem.W.mg_of X G a_line, fun_mk (st := s_due) l_due o_due k_due, (fun_mk (st := s_due) l_due o_due k_due).binds (ps := ["_law_parts_here", "_law_others"]) fun _ _ _ _ _ _ us hl => match us, hl with | [_, _], _ => rfl, PySem.W.mg_of X G a_due, fun_mk (st := s_Word_eq) l_Word_eq o_Word_eq k_Word_eq, (fun_mk (st := s_Word_eq) l_Word_eq o_Word_eq k_Word_eq).binds (ps := ["self", "other"]) fun _ _ _ _ _ _ us hl => match us, hl with | [_, _], _ => rfl, ⟨a_Word_eq, i_Word_eq, k_Word_eq⟩, fun_mk (st := s_same_rows) l_same_rows o_same_rows k_same_rows, (fun_mk (st := s_same_rows) l_same_rows o_same_rows k_same_rows).binds (ps := ["one", "other"]) fun _ _ _ _ _ _ us hl => match us, hl with | [_, _], _ => rfl, PySem.W.mg_of X G a_same_rows, fun_mk (st := s_Word_least) l_Word_least o_Word_least k_Word_least, (fun_mk (st := s_Word_least) l_Word_least o_Word_least k_Word_least).binds (ps := ["self"]) fun _ _ _ _ _ _ us hl => match us, hl with | [_], _ => rfl, ⟨pa_Word_least, pg_Word_least, pt_Word_least, ⟨_, pr_Word_least⟩⟩, fun_mk (st := s_is_integer) l_is_integer o_is_integer k_is_integer, (fun_mk (st := s_is_integer) l_is_integer o_is_integer k_is_integer).binds (ps := ["value"]) fun _ _ _ _ _ _ us hl => match us, hl with | [_], _ => rfl, PySem.W.mg_of X G a_is_integer, fun_mk (st := s_check_places) l_check_places o_check_places k_check_places, (fun_mk (st := s_check_places) l_check_places o_check_places k_check_places).binds (ps := ["word", "places"]) fun _ _ _ _ _ _ us hl => match us, hl with | [_, _], _ => rfl, PySem.W.mg_of X G a_check_places, fun_mk (st := s_Word_row) l_Word_row o_Word_row k_Word_row, (fun_mk (st := s_Word_row) l_Word_row o_Word_row k_Word_row).binds (ps := ["self", "places"]) fun _ _ _ _ _ _ us hl => match us, hl with | [_, _], _ => rfl, ⟨a_Word_row, i_Word_row, k_Word_row⟩, fun_mk (st := s_first_difference) l_first_difference o_first_difference k_first_difference, (fun_mk (st := s_first_difference) l_first_difference o_first_difference k_first_difference).binds (ps := ["row", "other"]) fun _ _ _ _ _ _ us hl => match us, hl with | [_, _], _ => rfl, PySem.W.mg_of X G a_first_difference, fun_mk (st := s_first_unlike_place) l_first_unlike_place o_first_unlike_place k_first_unlike_place, (fun_mk (st := s_first_unlike_place) l_first_unlike_place o_first_unlike_place k_first_unlike_place).binds (ps := ["one", "other"]) fun _ _ _ _ _ _ us hl => match us, hl with | [_, _], _ => rfl, PySem.W.mg_of X G a_first_unlike_place, fun_mk (st := s_pairs_right) l_pairs_right o_pairs_right k_pairs_right, (fun_mk (st := s_pairs_right) l_pairs_right o_pairs_right k_pairs_right).binds (ps := ["_law_made", "_law_some", "_law_pairs"]) fun _ _ _ _ _ _ us hl => match us, hl with | [_, _, _], _ => rfl, PySem.W.mg_of X G a_pairs_right, fun_mk (st := s_right) l_right o_right k_right, (fun_mk (st := s_right) l_right o_right k_right).binds (ps := ["_law_pot_here"]) fun _ _ _ _ _ _ us hl => match us, hl with | [_], _ => rfl, PySem.W.mg_of X G a_right, fun_mk (st := s_pot) l_pot o_pot k_pot, (fun_mk (st := s_pot) l_pot o_pot k_pot).binds (ps := ["_law_script", "_law_k"]) fun _ _ _ _ _ _ us hl => match us, hl with | [_, _], _ => rfl, PySem.W.mg_of X G a_pot, fun_mk (st := s_law) l_law o_law k_law, (fun_mk (st := s_law) l_law o_law k_law).binds (ps := ["_law_script"]) fun _ _ _ _ _ _ us hl => match us, hl with | [_], _ => rfl, PySem.W.mg_of X G a_law, fun_mk (st := s_Word_init) l_Word_init o_Word_init k_Word_init, (fun_mk (st := s_Word_init) l_Word_init o_Word_init k_Word_init).binds (ps := ["self", "head", "middle", "tail"]) fun _ _ _ _ _ _ us hl => match us, hl with | [_, _, _, _], _ => rfl, ⟨pg_Word, hd_Word, po_Word, sa_Word⟩, PySem.W.mg_of X G aC_Word, ⟨mk_Word, a_Word_init, i_Word_init, kc_Word⟩, na_Word__head, na_Word__middle, na_Word__tail, ⟨⟨pg_Word, hd_Word, po_Word, sa_Word⟩, ic1_Word, ic2_Word, ic3_Word, ic4_Word⟩, ⟨a_Word_repr, i_Word_repr⟩, ⟨a_Word_eq, i_Word_eq⟩, PySem.W.mg_none_of X G z_abs, PySem.W.mg_none_of X G z_all, PySem.W.mg_none_of X G z_bool, PySem.W.mg_none_of X G z_divmod, PySem.W.mg_none_of X G z_int, PySem.W.mg_none_of X G z_isinstance, PySem.W.mg_none_of X G z_len, PySem.W.mg_none_of X G z_list, PySem.W.mg_none_of X G z_max, PySem.W.mg_none_of X G z_min, PySem.W.mg_none_of X G z_range, PySem.W.mg_none_of X G z_repr, PySem.W.mg_none_of X G z_str, ⟨_, PySem.W.mg_of X G c_MOST_MARKS, ⟨_, rfl⟩⟩, ⟨_, PySem.W.mg_of X G c_MOST_PLACES, ⟨_, rfl⟩⟩⟩
  exact ⟨_, fun s v => .of_eq rfl, fun base _ _ => ok_law T⟩
end Lw
open PySem PySem.W PyProof.Rows in
set_option maxRecDepth 100000 in
set_option maxHeartbeats 0 in
theorem PySem.Challenge.cw_ringrows_k26_whole_words_that_part_late_holds : PySem.Challenge.rw_ringrows_k26_whole_words_that_part_late.Holds := by
  w_on; o_law; k_head; (case hw => w_witness2)
  k_fill
  refine Rx.walk_ofG (l := PySem.Challenge.rw_ringrows_k26_whole_words_that_part_late) (n := 63) (k := 10) (x := "_law_script") (sp := fun w => Lw.sp_law _) rfl (by decide) rfl ⟨rfl, by decide, by decide⟩ (fun w h Y => PySem.W.kIn_of Y) ?F (fun w H a ns hl hO hS => Lw.law_enter hl hO hS)
  case F =>
    intro w mg fa h KX G hmg
    refine' Lw.all_mk KX G hmg ?a_is_marks ?l_is_marks ?o_is_marks ?k_is_marks ?a_check_part ?l_check_part ?o_check_part ?k_check_part ?a_draw ?l_draw ?o_draw ?k_draw ?a_pick ?l_pick ?o_pick ?k_pick ?a_turned ?l_turned ?o_turned ?k_turned ?a_signs ?l_signs ?o_signs ?k_signs ?a_late ?l_late ?o_late ?k_late ?a_alike ?l_alike ?o_alike ?k_alike ?a_bent ?l_bent ?o_bent ?k_bent ?a_shortest_said ?l_shortest_said ?o_shortest_said ?k_shortest_said ?a_Word_reduced ?i_Word_reduced ?l_Word_reduced ?o_Word_reduced ?k_Word_reduced ?a_Word_repr ?i_Word_repr ?l_Word_repr ?o_Word_repr ?k_Word_repr ?a_mixed ?l_mixed ?o_mixed ?k_mixed ?a_least ?l_least ?o_least ?k_least ?a_line ?l_line ?o_line ?k_line ?a_due ?l_due ?o_due ?k_due ?a_Word_eq ?i_Word_eq ?l_Word_eq ?o_Word_eq ?k_Word_eq ?a_same_rows ?l_same_rows ?o_same_rows ?k_same_rows ?pa_Word_least ?pg_Word_least ?pt_Word_least ?pr_Word_least ?l_Word_least ?o_Word_least ?k_Word_least ?a_is_integer ?l_is_integer ?o_is_integer ?k_is_integer ?a_check_places ?l_check_places ?o_check_places ?k_check_places ?a_Word_row ?i_Word_row ?l_Word_row ?o_Word_row ?k_Word_row ?a_first_difference ?l_first_difference ?o_first_difference ?k_first_difference ?a_first_unlike_place ?l_first_unlike_place ?o_first_unlike_place ?k_first_unlike_place ?a_pairs_right ?l_pairs_right ?o_pairs_right ?k_pairs_right ?a_right ?l_right ?o_right ?k_right ?a_pot ?l_pot ?o_pot ?k_pot ?a_law ?l_law ?o_law ?k_law ?a_Word_init ?i_Word_init ?l_Word_init ?o_Word_init ?k_Word_init ?aC_Word ?pg_Word ?hd_Word ?po_Word ?sa_Word ?mk_Word ?kc_Word ?na_Word__head ?na_Word__middle ?na_Word__tail ?ic1_Word ?ic2_Word ?ic3_Word ?ic4_Word ?z_abs ?z_all ?z_bool ?z_divmod ?z_int ?z_isinstance ?z_len ?z_list ?z_max ?z_min ?z_range ?z_repr ?z_str ?c_MOST_MARKS ?c_MOST_PLACES
    (case aC_Word => k_is); (case a_is_marks => k_is); (case l_is_marks => k_is); (case o_is_marks => k_is); (case k_is_marks => k_is); (case a_check_part => k_is); (case l_check_part => k_is); (case o_check_part => k_is); (case k_check_part => k_is); (case a_draw => k_is); (case l_draw => k_is); (case o_draw => k_is); (case k_draw => k_is); (case a_pick => k_is); (case l_pick => k_is); (case o_pick => k_is); (case k_pick => k_is); (case a_turned => k_is); (case l_turned => k_is); (case o_turned => k_is); (case k_turned => k_is); (case a_signs => k_is); (case l_signs => k_is); (case o_signs => k_is); (case k_signs => k_is); (case a_late => k_is); (case l_late => k_is); (case o_late => k_is); (case k_late => k_is); (case a_alike => k_is); (case l_alike => k_is); (case o_alike => k_is); (case k_alike => k_is); (case a_bent => k_is); (case l_bent => k_is); (case o_bent => k_is); (case k_bent => k_is); (case a_shortest_said => k_is); (case l_shortest_said => k_is); (case o_shortest_said => k_is); (case k_shortest_said => k_is); (case a_Word_reduced => k_is); (case i_Word_reduced => k_is); (case l_Word_reduced => k_is); (case o_Word_reduced => k_is); (case k_Word_reduced => k_is); (case a_Word_repr => k_is); (case i_Word_repr => k_is); (case l_Word_repr => k_is); (case o_Word_repr => k_is); (case k_Word_repr => k_is); (case a_mixed => k_is); (case l_mixed => k_is); (case o_mixed => k_is); (case k_mixed => k_is); (case a_least => k_is); (case l_least => k_is); (case o_least => k_is); (case k_least => k_is); (case a_line => k_is); (case l_line => k_is); (case o_line => k_is); (case k_line => k_is); (case a_due => k_is); (case l_due => k_is); (case o_due => k_is); (case k_due => k_is); (case a_Word_eq => k_is); (case i_Word_eq => k_is); (case l_Word_eq => k_is); (case o_Word_eq => k_is); (case k_Word_eq => k_is); (case a_same_rows => k_is); (case l_same_rows => k_is); (case o_same_rows => k_is); (case k_same_rows => k_is); (case pa_Word_least => k_is); (case pg_Word_least => k_is); (case pt_Word_least => k_is); (case pr_Word_least => k_is); (case l_Word_least => k_is); (case o_Word_least => k_is); (case k_Word_least => k_is); (case a_is_integer => k_is); (case l_is_integer => k_is); (case o_is_integer => k_is); (case k_is_integer => k_is); (case a_check_places => k_is); (case l_check_places => k_is); (case o_check_places => k_is); (case k_check_places => k_is); (case a_Word_row => k_is); (case i_Word_row => k_is); (case l_Word_row => k_is); (case o_Word_row => k_is); (case k_Word_row => k_is); (case a_first_difference => k_is); (case l_first_difference => k_is); (case o_first_difference => k_is); (case k_first_difference => k_is); (case a_first_unlike_place => k_is); (case l_first_unlike_place => k_is); (case o_first_unlike_place => k_is); (case k_first_unlike_place => k_is); (case a_pairs_right => k_is); (case l_pairs_right => k_is); (case o_pairs_right => k_is); (case k_pairs_right => k_is); (case a_right => k_is); (case l_right => k_is); (case o_right => k_is); (case k_right => k_is); (case a_pot => k_is); (case l_pot => k_is); (case o_pot => k_is); (case k_pot => k_is); (case a_law => k_is); (case l_law => k_is); (case o_law => k_is); (case k_law => k_is); (case a_Word_init => k_is); (case i_Word_init => k_is); (case l_Word_init => k_is); (case o_Word_init => k_is); (case k_Word_init => k_is); (case pg_Word => k_is); (case hd_Word => k_is); (case po_Word => k_is); (case sa_Word => k_is); (case mk_Word => k_is); (case kc_Word => k_is); (case na_Word__head => k_is); (case na_Word__middle => k_is); (case na_Word__tail => k_is); (case ic1_Word => k_is); (case ic2_Word => k_is); (case ic3_Word => k_is); (case ic4_Word => k_is); (case z_abs => k_is); (case z_all => k_is); (case z_bool => k_is); (case z_divmod => k_is); (case z_int => k_is); (case z_isinstance => k_is); (case z_len => k_is); (case z_list => k_is); (case z_max => k_is); (case z_min => k_is); (case z_range => k_is); (case z_repr => k_is); (case z_str => k_is); (case c_MOST_MARKS => k_is); (case c_MOST_PLACES => k_is)
