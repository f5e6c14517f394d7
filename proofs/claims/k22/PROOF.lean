import PyProof.Rows.All
import Wide.All
import OpenK.AllK
import Wide.FinOn
import HandS.ForMost
import HandS.Property
import HandS.IsInst
import HandS.Wide
import HandS.WideBits
import HandS.Defaults
import HandS.StrMore
import HandS.Style
import HandS.Codes
import PySem.Challenge.RW_ringrows_k22_marks_and_homes
set_option Elab.async false
set_option linter.all false
set_option maxRecDepth 100000
set_option maxHeartbeats 4000000
namespace Rx
open PySem PySem.Spec PyProof.Rows L2

inductive D where
  | v (x : V)
  | lst (xs : List D)
  | tup (xs : List D)
  | ins (C : Addr) (ns : List Str) (xs : List D)

mutual
def rep (ms : List Addr) (H : Hp) : D → V → Prop
  | .v x, u => u = x
  | .lst ds, u => ∃ p vs, u = .ref p ∧ p ∉ ms ∧ H p = some (.lst vs) ∧ repL ms H ds vs
  | .tup ds, u => ∃ p vs, u = .ref p ∧ p ∉ ms ∧ H p = some (.tup vs) ∧ repL ms H ds vs
  | .ins C ns ds, u => ∃ p dx vs, u = .ref p ∧ p ∉ ms ∧ H p = some (.ins C dx (ns.zip vs)) ∧ ns.length = vs.length ∧ repL ms H ds vs
def repL (ms : List Addr) (H : Hp) : List D → List V → Prop
  | [], vs => vs = []
  | d :: ds, vs => ∃ u us, vs = u :: us ∧ rep ms H d u ∧ repL ms H ds us
end

mutual
theorem rep_map {ms ms' : List Addr} {H H' : Hp} (f : ∀ p o, p ∉ ms → H p = some o → p ∉ ms' ∧ H' p = some o) : ∀ (d : D) (u : V), rep ms H d u → rep ms' H' d u
  | .v x, u, h => by
    simp only [rep] at h ⊢
    exact h
  | .lst ds, u, h => by
    simp only [rep] at h ⊢
    obtain ⟨p, vs, e, n, hp, hl⟩ := h
    exact ⟨p, vs, e, (f p _ n hp).1, (f p _ n hp).2, repL_map f ds vs hl⟩
  | .tup ds, u, h => by
    simp only [rep] at h ⊢
    obtain ⟨p, vs, e, n, hp, hl⟩ := h
    exact ⟨p, vs, e, (f p _ n hp).1, (f p _ n hp).2, repL_map f ds vs hl⟩
  | .ins C ns ds, u, h => by
    simp only [rep] at h ⊢
    obtain ⟨p, dx, vs, e, n, hp, hn, hl⟩ := h
    exact ⟨p, dx, vs, e, (f p _ n hp).1, (f p _ n hp).2, hn, repL_map f ds vs hl⟩
theorem repL_map {ms ms' : List Addr} {H H' : Hp} (f : ∀ p o, p ∉ ms → H p = some o → p ∉ ms' ∧ H' p = some o) : ∀ (ds : List D) (us : List V), repL ms H ds us → repL ms' H' ds us
  | [], us, h => by
    simp only [repL] at h ⊢
    exact h
  | d :: ds, us, h => by
    simp only [repL] at h ⊢
    obtain ⟨u, vs, e, h1, h2⟩ := h
    exact ⟨u, vs, e, rep_map f d u h1, repL_map f ds vs h2⟩
end

theorem repL_len {ms : List Addr} {H : Hp} : ∀ {ds : List D} {vs : List V}, repL ms H ds vs → ds.length = vs.length
  | [], vs, h => by
    simp only [repL] at h
    rw [h]
    rfl
  | d :: ds, vs, h => by
    simp only [repL] at h
    obtain ⟨u, us, e, _, h2⟩ := h
    rw [e]
    show ds.length + 1 = us.length + 1
    rw [repL_len h2]
theorem repL_get {ms : List Addr} {H : Hp} : ∀ {ds : List D} {vs : List V} {j : Nat} {d : D}, repL ms H ds vs → ds[j]? = some d → ∃ v, vs[j]? = some v ∧ rep ms H d v
  | [], vs, j, d, h, e => by simp at e
  | d0 :: ds, vs, 0, d, h, e => by
    simp only [repL] at h
    obtain ⟨u, us, rfl, h1, _⟩ := h
    have e' : d0 = d := Option.some.inj e
    subst e'
    exact ⟨u, rfl, h1⟩
  | d0 :: ds, vs, j + 1, d, h, e => by
    simp only [repL] at h
    obtain ⟨u, us, rfl, _, h2⟩ := h
    exact repL_get (j := j) h2 (by simpa using e)
theorem repL_app {ms : List Addr} {H : Hp} : ∀ {ds es : List D} {vs us : List V}, repL ms H ds vs → repL ms H es us → repL ms H (ds ++ es) (vs ++ us)
  | [], es, vs, us, h, h' => by
    simp only [repL] at h
    rw [h]
    exact h'
  | d :: ds, es, vs, us, h, h' => by
    simp only [repL] at h
    obtain ⟨u, ws, rfl, h1, h2⟩ := h
    show repL ms H (d :: (ds ++ es)) (u :: (ws ++ us))
    simp only [repL]
    exact ⟨u, ws ++ us, rfl, h1, repL_app h2 h'⟩
theorem repL_one {ms : List Addr} {H : Hp} {d : D} {u : V} (h : rep ms H d u) : repL ms H [d] [u] := by
  simp only [repL]
  exact ⟨u, [], rfl, h, rfl⟩
theorem repL_nil {ms : List Addr} {H : Hp} : repL ms H [] [] := by simp only [repL]
theorem repL_cons {ms : List Addr} {H : Hp} {d : D} {u : V} {ds : List D} {us : List V} (h : rep ms H d u) (t : repL ms H ds us) : repL ms H (d :: ds) (u :: us) := by
  simp only [repL]
  exact ⟨u, us, rfl, h, t⟩
theorem rep_v {ms : List Addr} {H : Hp} {x : V} : rep ms H (.v x) x := by simp only [rep]
theorem of_v {ms : List Addr} {H : Hp} {x u : V} (h : rep ms H (.v x) u) : u = x := by
  simp only [rep] at h
  exact h
/-- a list of flat values -/
theorem repL_flat {ms : List Addr} {H : Hp} : ∀ {xs vs : List V}, repL ms H (xs.map D.v) vs ↔ vs = xs
  | [], vs => by simp only [List.map_nil, repL]
  | x :: xs, vs => by
    simp only [List.map_cons, repL]
    constructor
    · rintro ⟨u, us, rfl, h1, h2⟩
      rw [of_v h1, repL_flat.mp h2]
    · rintro rfl
      exact ⟨x, xs, rfl, rep_v, repL_flat.mpr rfl⟩

/-! ### frames -/
def PotH (H : Hp) (a : Addr) : Prop := ∃ i j : Int, H a = some (.lst [.int i, .int j]) ∧ j.natAbs < 4294967296
structure Ret (ps : List Addr) (H H' : Hp) : Prop where
  kp : ∀ a o, a ∉ ps → H a = some o → H' a = some o
  pot : ∀ a ∈ ps, PotH H' a
  grow : ∀ a, H a ≠ none → H' a ≠ none
abbrev Ext (H H' : Hp) : Prop := Ret [] H H'
theorem Ret.rfl0 {H : Hp} : Ret [] H H := ⟨fun _ _ _ h => h, fun _ h => absurd h List.not_mem_nil, fun _ h => h⟩
theorem Ext.keep {H H' : Hp} (e : Ext H H') {a : Addr} {o : HO} (h : H a = some o) : H' a = some o := e.kp a o (by simp) h
theorem Ext.new {H : Hp} {p : Addr} {o : HO} (np : H p = none) : Ext H (upd H p o) := by
  refine ⟨fun a u _ h => ?_, fun _ h => absurd h List.not_mem_nil, fun a h => ?_⟩
  · rw [upd_ne (ne_of_none h np)]
    exact h
  · by_cases e : a = p
    · rw [e, upd_same]
      exact fun z => nomatch z
    · rw [upd_ne e]
      exact h
theorem newH {H : Hp} {o : HO} {Q : V → Hp → Prop} (h : ∀ p H', H p = none → Ext H H' → H' p = some o → Q (.ref p) H') : ∀ p, H p = none → Q (.ref p) (upd H p o) :=
  fun p np => h p _ np (Ext.new np) upd_same

structure Wd (ms ps : List Addr) (cs : List (Addr × List V)) (H0 H : Hp) : Prop where
  kp : ∀ a o, a ∉ ps → H0 a = some o → H a = some o
  grow : ∀ a, H0 a ≠ none → H a ≠ none
  tr : ∀ m ∈ ms, H m ≠ none
  pot : ∀ a ∈ ps, PotH H a
  pm : ∀ a ∈ ps, a ∈ ms
  cel : ∀ c ∈ cs, H c.1 = some (.lst c.2) ∧ c.1 ∈ ms ∧ c.1 ∉ ps ∧ H0 c.1 = none

section
variable {ms ps ps' : List Addr} {cs : List (Addr × List V)} {H0 H H' : Hp} {d : D} {u : V}
theorem Wd.ret (hs : ∀ a ∈ ps', a ∈ ps) (w : Wd ms ps cs H0 H) (e : Ret ps' H H') : Wd ms ps cs H0 H' where
  kp := fun a o n h => e.kp a o (fun z => n (hs a z)) (w.kp a o n h)
  grow := fun a h => e.grow a (w.grow a h)
  tr := fun m h => e.grow m (w.tr m h)
  pot := fun a h => by
    by_cases z : a ∈ ps'
    · exact e.pot a z
    · obtain ⟨i, j, h1, h2⟩ := w.pot a h
      exact ⟨i, j, e.kp a _ z h1, h2⟩
  pm := w.pm
  cel := fun c h => by
    obtain ⟨h1, h2, h3, h4⟩ := w.cel c h
    exact ⟨e.kp _ _ (fun z => h3 (hs _ z)) h1, h2, h3, h4⟩
theorem Wd.ret0 (w : Wd ms ps cs H0 H) (e : Ret [] H H') : Wd ms ps cs H0 H' := w.ret (fun _ h => absurd h List.not_mem_nil) e
theorem Wd.retP (w : Wd ms ps cs H0 H) (e : Ret ps H H') : Wd ms ps cs H0 H' := w.ret (fun _ h => h) e
theorem Wd.enter0 (w : Wd ms ps cs H0 H) : Wd ms [] [] H H := ⟨fun _ _ _ h => h, fun _ h => h, w.tr, fun _ h => absurd h List.not_mem_nil, fun _ h => absurd h List.not_mem_nil, fun _ h => absurd h List.not_mem_nil⟩
theorem Wd.enterP (w : Wd ms ps cs H0 H) : Wd ms ps [] H H := ⟨fun _ _ _ h => h, fun _ h => h, w.tr, w.pot, w.pm, fun _ h => absurd h List.not_mem_nil⟩
theorem Wd.out (w : Wd ms ps cs H0 H) : Ret ps H0 H := ⟨w.kp, w.pot, w.grow⟩
theorem rep_ret (w : Wd ms ps cs H0 H) (e : Ret ps H H') (h : rep ms H d u) : rep ms H' d u := rep_map (fun p o n hp => ⟨n, e.kp p o (fun z => n (w.pm p z)) hp⟩) d u h
theorem rep_ext (e : Ret [] H H') (h : rep ms H d u) : rep ms H' d u := rep_map (fun p o n hp => ⟨n, e.kp p o (by simp) hp⟩) d u h
theorem repL_ret {ds : List D} {us : List V} (w : Wd ms ps cs H0 H) (e : Ret ps H H') (h : repL ms H ds us) : repL ms H' ds us := repL_map (fun p o n hp => ⟨n, e.kp p o (fun z => n (w.pm p z)) hp⟩) ds us h
theorem repL_ext {ds : List D} {us : List V} (e : Ret [] H H') (h : repL ms H ds us) : repL ms H' ds us := repL_map (fun p o n hp => ⟨n, e.kp p o (by simp) hp⟩) ds us h
/-- a new cell -/
theorem Wd.cell {l : Addr} {xs : List V} (w : Wd ms ps cs H0 H) (nl : H l = none) : Wd (l :: ms) ps ((l, xs) :: cs) H0 (upd H l (.lst xs)) := by
  have e : Ext H (upd H l (.lst xs)) := Ext.new nl
  have w1 := w.ret0 e
  refine ⟨w1.kp, w1.grow, fun m h => ?_, w1.pot, fun a h => List.mem_cons_of_mem _ (w.pm a h), fun c h => ?_⟩
  · rcases List.mem_cons.mp h with rfl | h
    · rw [upd_same]
      exact fun z => nomatch z
    · exact w1.tr m h
  · rcases List.mem_cons.mp h with rfl | h
    · refine ⟨upd_same, List.mem_cons_self, fun z => ?_, ?_⟩
      · obtain ⟨i, j, h1, _⟩ := w.pot _ z
        rw [nl] at h1
        cases h1
      · show H0 l = none
        cases q : H0 l with
        | none => rfl
        | some o => exact absurd nl (w.grow l (by rw [q]; exact fun z => nomatch z))
    · obtain ⟨h1, h2, h3, h4⟩ := w1.cel c h
      exact ⟨h1, List.mem_cons_of_mem _ h2, h3, h4⟩
theorem rep_cell {l : Addr} {o : HO} (nl : H l = none) (h : rep ms H d u) : rep (l :: ms) (upd H l o) d u := by
  refine rep_map (fun p o n hp => ?_) d u h
  have ne : p ≠ l := ne_of_none hp nl
  refine ⟨fun z => ?_, by rw [upd_ne ne]; exact hp⟩
  rcases List.mem_cons.mp z with z | z
  · exact ne z
  · exact n z
/-- a cell's store -/
theorem Wd.put {l : Addr} {xs ys : List V} (w : Wd ms ps ((l, xs) :: cs) H0 H) (hn : ∀ c ∈ cs, c.1 ≠ l) : Wd ms ps ((l, ys) :: cs) H0 (upd H l (.lst ys)) := by
  obtain ⟨hl, lm, lp, l0⟩ := w.cel _ List.mem_cons_self
  refine ⟨fun a o n h => ?_, fun a h => ?_, fun m h => ?_, fun a h => ?_, w.pm, fun c h => ?_⟩
  · rw [upd_ne (ne_of_none h l0)]
    exact w.kp a o n h
  · by_cases e : a = l
    · rw [e, upd_same]
      exact fun z => nomatch z
    · rw [upd_ne e]
      exact w.grow a h
  · by_cases e : m = l
    · rw [e, upd_same]
      exact fun z => nomatch z
    · rw [upd_ne e]
      exact w.tr m h
  · obtain ⟨i, j, h1, h2⟩ := w.pot a h
    exact ⟨i, j, by rw [upd_ne (fun z => lp (by rw [← z]; exact h))]; exact h1, h2⟩
  · rcases List.mem_cons.mp h with rfl | h
    · exact ⟨upd_same, lm, lp, l0⟩
    · obtain ⟨h1, h2, h3, h4⟩ := w.cel c (List.mem_cons_of_mem _ h)
      exact ⟨by rw [upd_ne (hn c h)]; exact h1, h2, h3, h4⟩
theorem rep_put {l : Addr} {o : HO} (lm : l ∈ ms) (h : rep ms H d u) : rep ms (upd H l o) d u :=
  rep_map (fun p o n hp => ⟨n, by rw [upd_ne (fun z => n (by rw [z]; exact lm))]; exact hp⟩) d u h
theorem repL_put {ds : List D} {us : List V} {l : Addr} {o : HO} (lm : l ∈ ms) (h : repL ms H ds us) : repL ms (upd H l o) ds us :=
  repL_map (fun p o n hp => ⟨n, by rw [upd_ne (fun z => n (by rw [z]; exact lm))]; exact hp⟩) ds us h
/-- the newest cell is a list for good -/
theorem Wd.froze {l : Addr} {xs : List V} (w : Wd (l :: ms) ps ((l, xs) :: cs) H0 H) (hp : ∀ a ∈ ps, a ∈ ms) (hc : ∀ c ∈ cs, c.1 ∈ ms) : Wd ms ps cs H0 H :=
  ⟨w.kp, w.grow, fun m h => w.tr m (List.mem_cons_of_mem _ h), w.pot, hp, fun c h => by
    obtain ⟨h1, _, h3, h4⟩ := w.cel c (List.mem_cons_of_mem _ h)
    exact ⟨h1, hc c h, h3, h4⟩⟩
theorem rep_weak {l : Addr} (h : rep (l :: ms) H d u) : rep ms H d u := rep_map (fun p o n hp => ⟨fun z => n (List.mem_cons_of_mem _ z), hp⟩) d u h
theorem repL_weak {ds : List D} {us : List V} {l : Addr} (h : repL (l :: ms) H ds us) : repL ms H ds us := repL_map (fun p o n hp => ⟨fun z => n (List.mem_cons_of_mem _ z), hp⟩) ds us h
end

/-! ### a reading may be weakened at its end: the places where ways are joined -/
def upE (t : TE) : TE := fun σ H Q => ∃ Q' : VK, t σ H Q' ∧ ∀ v H', Q' v H' → Q v H'
def upT (t : TT) : TT := fun σ H Q => ∃ Q' : Bool → Hp → Prop, t σ H Q' ∧ ∀ b H', Q' b H' → Q b H'
def upS (t : TS) : TS := fun D σ H => ∃ N : L2.St → Hp → Prop, t { D with nx := N } σ H ∧ ∀ σ' H', N σ' H' → D.nx σ' H'
section
variable {X : Cx}
theorem pe_up {e : Expr} {t : TE} (h : PE X e t) : PE X e (upE t) := ⟨fun pins s σ H Q I ⟨Q', hq, m⟩ => thn (h.run pins s σ H Q' I hq) fun u s' ⟨v, H', I', r, q⟩ => ⟨v, H', I', r, m v H' q⟩⟩
theorem pt_up {e : Expr} {t : TT} (h : PT X e t) : PT X e (upT t) := ⟨fun pins s σ H Q I ⟨Q', hq, m⟩ => thn (h.run pins s σ H Q' I hq) fun u s' ⟨H', I', q⟩ => ⟨H', I', m u H' q⟩⟩
theorem ps_up {st : Stmt} {t : TS} (h : PS X st t) : PS X st (upS t) := ⟨fun pins s σ H D I ⟨N, hq, m⟩ => thn (h.run pins s σ H _ I hq) fun f s' q => by
  cases f with
  | next => obtain ⟨σ', H', I', n⟩ := q; exact ⟨σ', H', I', m _ _ n⟩
  | brk => exact q
  | cont => exact q
  | ret u => exact q⟩
end

/-! ### loops by data -/
def mapC {α β : Type} (body : α → (β → Prop) → Prop) : List α → List β → (List β → Prop) → Prop
  | [], acc, k => k acc
  | x :: xs, acc, k => body x fun y => mapC body xs (acc ++ [y]) k
def filC {α β : Type} (body : α → (Option β → Prop) → Prop) : List α → List β → (List β → Prop) → Prop
  | [], acc, k => k acc
  | x :: xs, acc, k => body x fun o => match o with
    | some y => filC body xs (acc ++ [y]) k
    | none => filC body xs acc k
def forC {α S : Type} (body : α → S → (S → Prop) → Prop) : List α → S → (S → Prop) → Prop
  | [], s, k => k s
  | x :: xs, s, k => body x s fun s' => forC body xs s' k
def whileC {S : Type} (body : S → (S → Prop) → (S → Prop) → Prop) : Nat → S → (S → Prop) → Prop
  | 0, _, _ => False
  | n + 1, s, k => body s (fun s' => whileC body n s' k) k
def rangeI (lo hi : Int) : List Int := (List.range (hi - lo).toNat).map fun i => lo + ((i : Nat) : Int)
theorem rangeI_len {lo hi : Int} : (rangeI lo hi).length = (hi - lo).toNat := by simp [rangeI]
theorem rangeI_get {lo hi : Int} {i : Nat} (h : i < (hi - lo).toNat) : (rangeI lo hi)[i]? = some (lo + (i : Int)) := by
  simp [rangeI, List.getElem?_map, List.getElem?_range h]
theorem drop_cons' {α : Type} {xs : List α} {i : Nat} {x : α} (h : xs[i]? = some x) : xs.drop i = x :: xs.drop (i + 1) := by
  obtain ⟨h1, h2⟩ := List.getElem?_eq_some_iff.mp h
  rw [List.drop_eq_getElem_cons h1, h2]

/-- what a loop keeps of all that it does not change -/
def Keep (ms : List Addr) (H H' : Hp) : Prop := ∀ a o, a ∉ ms → H a = some o → H' a = some o
section
variable {ms ps : List Addr} {cs : List (Addr × List V)} {H0 H H1 H' : Hp} {d : D} {u : V}
theorem Keep.refl : Keep ms H H := fun _ _ _ h => h
theorem keep_ret (w : Wd ms ps cs H0 H) (e : Ret ps H H') (k : Keep ms H1 H) : Keep ms H1 H' := fun a o n h => e.kp a o (fun z => n (w.pm a z)) (k a o n h)
theorem keep_ext (e : Ret [] H H') (k : Keep ms H1 H) : Keep ms H1 H' := fun a o n h => e.kp a o (by simp) (k a o n h)
theorem keep_cell {l : Addr} {o : HO} (nl : H l = none) (k : Keep ms H1 H) : Keep (l :: ms) H1 (upd H l o) := fun a u n h => by
  rw [upd_ne (fun z => n (by rw [z]; exact List.mem_cons_self))]
  exact k a u (fun z => n (List.mem_cons_of_mem _ z)) h
theorem keep_put {l : Addr} {o : HO} (lm : l ∈ ms) (k : Keep ms H1 H) : Keep ms H1 (upd H l o) := fun a u n h => by
  rw [upd_ne (fun z => n (by rw [z]; exact lm))]
  exact k a u n h
theorem rep_keep (k : Keep ms H H') (h : rep ms H d u) : rep ms H' d u := rep_map (fun p o n hp => ⟨n, k p o n hp⟩) d u h
theorem repL_keep {ds : List D} {us : List V} (k : Keep ms H H') (h : repL ms H ds us) : repL ms H' ds us := repL_map (fun p o n hp => ⟨n, k p o n hp⟩) ds us h
theorem at_keep {a : Addr} {o : HO} (k : Keep ms H H') (n : a ∉ ms) (h : H a = some o) : H' a = some o := k a o n h
end

theorem ite3 {c : Prop} [Decidable c] {A B P R : Prop} (h : if c then A else B) (h1 : A → P) (h2 : B → R) : if c then P else R := by
  by_cases q : c
  · rw [if_pos q] at h ⊢
    exact h1 h
  · rw [if_neg q] at h ⊢
    exact h2 h

section
variable {K : PySem.W.Frag} {ms ps : List Addr} {cs : List (Addr × List V)} {H0 H : Hp} {d : D} {u x : V}
/-! ### readings by data -/
theorem rep_fld {C : Addr} {ns : List Str} {ds : List D} {f : Str} {Q : VK} {j : Nat} (h : rep ms H (.ins C ns ds) x) (c : Cls K C) (n : NoAttr K C f) (nd : ns.Nodup) (hn : ns[j]? = some f) (hd : ds[j]? = some d) (k : ∀ v, rep ms H d v → Q v H) :
    ∃ a C dx fs v, x = .ref a ∧ H a = some (.ins C dx fs) ∧ Cls K C ∧ NoAttr K C f ∧ fs.lookup f = some v ∧ Q v H := by
  simp only [rep] at h
  obtain ⟨p, dx, vs, e, _, hp, hl, hr⟩ := h
  obtain ⟨v, hv, rv⟩ := repL_get hr hd
  refine ⟨p, C, dx, _, v, e, hp, c, n, ?_, k v rv⟩
  clear hr hd hp e k rv
  induction ns generalizing vs j with
  | nil => simp at hn
  | cons n0 ns ih =>
    cases vs with
    | nil => simp at hv
    | cons v0 vs =>
      cases j with
      | zero =>
        have e1 : n0 = f := Option.some.inj hn
        have e2 : v0 = v := Option.some.inj hv
        subst e1 e2
        simp [List.lookup]
      | succ j =>
        have hn' : ns[j]? = some f := by simpa using hn
        have hv' : vs[j]? = some v := by simpa using hv
        have ne : f ≠ n0 := fun z => by
          subst z
          exact (List.nodup_cons.mp nd).1 (List.mem_of_getElem? hn')
        show ((n0, v0) :: ns.zip vs).lookup f = some v
        rw [List.lookup_cons, show (f == n0) = false from beq_eq_false_iff_ne.mpr ne]
        exact ih (List.nodup_cons.mp nd).2 hn' vs (by simpa using hl) hv'
theorem lookup_zip_none {m : Str} : ∀ {ns : List Str} {vs : List V}, m ∉ ns → (ns.zip vs).lookup m = none
  | [], vs, _ => by simp
  | n :: ns, [], _ => by simp
  | n :: ns, v :: vs, h => by
    show ((n, v) :: ns.zip vs).lookup m = none
    rw [List.lookup_cons, show (m == n) = false from beq_eq_false_iff_ne.mpr fun z => h (by rw [z]; exact List.mem_cons_self)]
    exact lookup_zip_none fun z => h (List.mem_cons_of_mem _ z)
theorem rep_meth {C : Addr} {ns : List Str} {ds : List D} {m : Str} {P : Hp → Prop} (h : rep ms H (.ins C ns ds) x) (hm : m ∉ ns) (k : P H) : ∃ a dx fs, x = .ref a ∧ H a = some (.ins C dx fs) ∧ fs.lookup m = none ∧ P H := by
  simp only [rep] at h
  obtain ⟨p, dx, vs, e, _, hp, hl, hr⟩ := h
  exact ⟨p, dx, _, e, hp, lookup_zip_none hm, k⟩
theorem rep_prop {C : Addr} {ns : List Str} {ds : List D} {P : Addr → Prop} (h : rep ms H (.ins C ns ds) x) (k : ∀ a, rep ms H (.ins C ns ds) (.ref a) → P a) : ∃ a dx fs, x = .ref a ∧ H a = some (.ins C dx fs) ∧ P a := by
  have h' := h
  simp only [rep] at h
  obtain ⟨p, dx, vs, e, _, hp, hl, hr⟩ := h
  subst e
  exact ⟨p, dx, _, rfl, hp, k p h'⟩
/-- t[j], j written -/
theorem rep_ixT {ds : List D} {i : Int} (j : Nat) {σ : L2.St} {Q : VK} (h : rep ms H (.tup ds) x) (hi : i = (j : Int)) (hd : ds[j]? = some d) (k : ∀ v, rep ms H d v → Q v H) : tC (V.int i) σ H fun y H2 => rIxT K x y H2 Q := by
  subst hi
  simp only [rep] at h
  obtain ⟨p, vs, e, _, hp, hr⟩ := h
  obtain ⟨v, hv, rv⟩ := repL_get hr hd
  exact ⟨p, vs, _, v, e, rfl, .inl (.inl hp), atI_nat hv, k v rv⟩
/-- xs[i] -/
theorem rep_ixL {α : Type} {e : α → D} {xs : List α} {i : Int} {Q : VK} (h : rep ms H (.lst (xs.map e)) x) (h0 : 0 ≤ i) (hi : i.toNat < xs.length) (k : ∀ v, rep ms H (e (xs[i.toNat]'hi)) v → Q v H) : rIxL K x (.int i) H Q := by
  simp only [rep] at h
  obtain ⟨p, vs, e', _, hp, hr⟩ := h
  obtain ⟨v, hv, rv⟩ := repL_get (d := e (xs[i.toNat]'hi)) hr (by rw [List.getElem?_map, List.getElem?_eq_getElem hi]; rfl)
  refine ⟨p, vs, i, v, e', rfl, .inl (.inl hp), at_of (j := i.toNat) (by omega) hv, k v rv⟩
theorem rep_lenL {α : Type} {e : α → D} {xs : List α} {P : Nat → Prop} (h : rep ms H (.lst (xs.map e)) x) (k : P xs.length) : ∃ y n, [x] = [y] ∧ LenV K y H n ∧ P n := by
  simp only [rep] at h
  obtain ⟨p, vs, e', _, hp, hr⟩ := h
  subst e'
  have hl := repL_len hr
  rw [List.length_map] at hl
  exact ⟨_, xs.length, rfl, .inl ⟨vs, .inl (.inl hp), hl⟩, k⟩
theorem rep_iter {ds : List D} {P : Addr → Prop} (h : rep ms H (.lst ds) x) (k : ∀ a xs, x = .ref a → a ∉ ms → H a = some (.lst xs) → repL ms H ds xs → P a) : ∃ a, x = .ref a ∧ (∃ xs, SqL K H a xs) ∧ P a := by
  simp only [rep] at h
  obtain ⟨p, vs, e, n, hp, hr⟩ := h
  exact ⟨p, e, ⟨vs, .inl (.inl hp)⟩, k p vs e n hp hr⟩
theorem rep_gtup {ds : List D} {n : Nat} {Q : L2.St → Hp → Prop} {t : TGs} {σ : L2.St} (h : rep ms H (.tup ds) x) (hn : ds.length = n) (k : ∀ vs, repL ms H ds vs → t vs σ H Q) : ∃ a xs, x = .ref a ∧ SqT K H a xs ∧ xs.length = n ∧ t xs σ H Q := by
  simp only [rep] at h
  obtain ⟨p, vs, e, _, hp, hr⟩ := h
  exact ⟨p, vs, e, .inl (.inl hp), by rw [← repL_len hr]; exact hn, k vs hr⟩
theorem rep_tup_mk {p : Addr} {ds : List D} {vs : List V} (w : Wd ms ps cs H0 H) (np : H p = none) (e : Ext H H') (hp : H' p = some (.tup vs)) (hr : repL ms H ds vs) : rep ms H' (.tup ds) (.ref p) := by
  simp only [rep]
  exact ⟨p, vs, rfl, fun z => w.tr p z np, hp, repL_ext e hr⟩
theorem rep_lst_mk {p : Addr} {ds : List D} {vs : List V} (w : Wd ms ps cs H0 H) (np : H p = none) (e : Ext H H') (hp : H' p = some (.lst vs)) (hr : repL ms H ds vs) : rep ms H' (.lst ds) (.ref p) := by
  simp only [rep]
  exact ⟨p, vs, rfl, fun z => w.tr p z np, hp, repL_ext e hr⟩
end

/-! ### comprehensions -/
section
variable {α β : Type} {K : PySem.W.Frag} {ms ps : List Addr} {cs : List (Addr × List V)} {H0 H1 : Hp} {g : TG} {tt : TT} {te : TE} {vl : List Nat} {σ : L2.St} {Qd : Hp → Prop}
/-- where a turn begins: the new list at L holds what is made so far -/
structure Trn (ms ps : List Addr) (cs : List (Addr × List V)) (H0 H1 : Hp) (L : Addr) (eb : β → D) (n : Nat) (ys : List β) (vs : List V) (H : Hp) : Prop where
  w : Wd (L :: ms) ps ((L, vs) :: cs) H0 H
  k : Keep (L :: ms) H1 H
  r : repL (L :: ms) H (ys.map eb) vs
  n : ys.length ≤ n
theorem Trn.add {L : Addr} {eb : β → D} {n : Nat} {ys : List β} {vs : List V} {H : Hp} {y : β} {u : V} (hc : ∀ c ∈ cs, c.1 ≠ L) (w : Wd (L :: ms) ps ((L, vs) :: cs) H0 H) (k : Keep (L :: ms) H1 H) (r : repL (L :: ms) H (ys.map eb) vs) (hn : ys.length ≤ n) (hr : rep (L :: ms) H (eb y) u) :
    Trn ms ps cs H0 H1 L eb (n + 1) (ys ++ [y]) (vs ++ [u]) (upd H L (.lst (vs ++ [u]))) := by
  refine ⟨w.put hc, keep_put List.mem_cons_self k, ?_, by rw [List.length_append]; exact Nat.add_le_add_right hn 1⟩
  rw [List.map_append]
  exact repL_put List.mem_cons_self (repL_app r (repL_one hr))
theorem new_ne {L : Addr} (w : Wd ms ps cs H0 H1) (nl : H1 L = none) : ∀ c ∈ cs, c.1 ≠ L := fun c h z => by
  have q := (w.cel c h).1
  rw [z, nl] at q
  cases q
theorem Trn.start {L : Addr} {eb : β → D} (w : Wd ms ps cs H0 H1) (nl : H1 L = none) : Trn ms ps cs H0 H1 L eb 0 [] [] (upd H1 L (.lst [])) :=
  ⟨w.cell nl, fun a o n h => by rw [upd_ne (ne_of_none h nl)]; exact h, repL_nil, Nat.le_refl _⟩
theorem Trn.done {L : Addr} {eb : β → D} {n : Nat} {ys : List β} {vs : List V} {H : Hp} (w : Wd ms ps cs H0 H1) (nl : H1 L = none) (t : Trn ms ps cs H0 H1 L eb n ys vs H) : Wd ms ps cs H0 H ∧ Keep ms H1 H ∧ rep ms H (.lst (ys.map eb)) (.ref L) := by
  refine ⟨t.w.froze w.pm fun c h => (w.cel c h).2.1, fun a o n h => t.k a o (fun z => ?_) h, ?_⟩
  · rcases List.mem_cons.mp z with z | z
    · rw [z, nl] at h
      cases h
    · exact n z
  · simp only [rep]
    exact ⟨L, vs, rfl, fun z => w.tr L z nl, (t.w.cel _ List.mem_cons_self).1, repL_weak t.r⟩

/-- [e for x in range(lo, hi)] -/
theorem lc_rangeC {lo hi : Int} {N : Nat} {L : Addr} {eb : β → D} {body : Int → (β → Prop) → Prop} {KM : List β → Prop} (hN : N = (hi - lo).toNat) (w : Wd ms ps cs H0 H1) (nl : H1 L = none) (hM : (rangeI lo hi).length < 100000 ∧ mapC body (rangeI lo hi) [] KM)
    (hs : ∀ (x : Int) (n : Nat) (ys : List β) (vs : List V) (k : β → Prop) (H : Hp), n < 100000 → Trn ms ps cs H0 H1 L eb n ys vs H → body x k → ∀ Nx : Hp → Prop, (∀ y vs' H', k y → Trn ms ps cs H0 H1 L eb (n + 1) (ys ++ [y]) vs' H' → Nx H') →
      g (.int x) (wipe σ vl) H fun σ2 H2 => wipe σ2 vl = wipe σ vl ∧ tt σ2 H2 fun b H3 => if b = true then te σ2 H3 fun y H4 => ∃ acc, H4 L = some (.lst acc) ∧ acc.length < sizeLine ∧ Nx (upd H4 L (.lst (acc ++ [y]))) else Nx H3)
    (hd : ∀ ys H, KM ys → Wd ms ps cs H0 H → Keep ms H1 H → rep ms H (.lst (ys.map eb)) (.ref L) → Qd H) :
    ∃ W : Nat → Nat → Hp → Prop, (∃ m, W 0 m (upd H1 L (.lst []))) ∧ ∀ i m H, W i m H →
      ((Itr lo N).stop i H ∧ Qd H) ∨ ((Itr lo N).go i H ∧ ∃ Nx : Hp → Prop, (∀ H', Nx H' → ∃ m', m' < m ∧ W (i + 1) m' H') ∧ ∀ x H', (Itr lo N).yld i H x H' → g x (wipe σ vl) H' fun σ2 H2 => wipe σ2 vl = wipe σ vl ∧ tt σ2 H2 fun b H3 =>
        if b = true then te σ2 H3 fun y H4 => ∃ acc, H4 L = some (.lst acc) ∧ acc.length < sizeLine ∧ Nx (upd H4 L (.lst (acc ++ [y]))) else Nx H3) := by
  obtain ⟨hn, hM⟩ := hM
  subst hN
  rw [rangeI_len] at hn
  refine ⟨fun i m H => m = (hi - lo).toNat - i ∧ i ≤ (hi - lo).toNat ∧ ∃ ys vs, Trn ms ps cs H0 H1 L eb i ys vs H ∧ mapC body ((rangeI lo hi).drop i) ys KM, ⟨_, rfl, Nat.zero_le _, [], [], Trn.start w nl, hM⟩, ?_⟩
  rintro i m H ⟨rfl, hi', ys, vs, T, q⟩
  by_cases hlt : i < (hi - lo).toNat
  · refine .inr ⟨hlt, fun H' => i + 1 ≤ (hi - lo).toNat ∧ ∃ ys vs, Trn ms ps cs H0 H1 L eb (i + 1) ys vs H' ∧ mapC body ((rangeI lo hi).drop (i + 1)) ys KM, fun H' p' => ⟨_, by omega, rfl, p'⟩, fun x H' y => ?_⟩
    obtain ⟨e, y⟩ := y
    subst e y
    rw [drop_cons' (rangeI_get hlt)] at q
    exact hs _ i ys vs _ H' (by omega) T q _ fun y vs' H' k T' => ⟨hlt, _, _, T', k⟩
  · have e : i = (hi - lo).toNat := by omega
    refine .inl ⟨by rw [e]; exact Nat.le_refl _, ?_⟩
    have q' : KM ys := by
      rw [List.drop_of_length_le (by rw [rangeI_len]; omega)] at q
      exact q
    obtain ⟨w', k', r'⟩ := T.done w nl
    exact hd ys H q' w' k' r'
/-- [e for x in xs] -/
theorem lc_listC {items : List α} {a : Addr} {xs : List V} {L : Addr} {e : α → D} {eb : β → D} {body : α → (β → Prop) → Prop} {KM : List β → Prop} (w : Wd ms ps cs H0 H1) (an : a ∉ ms) (ha : H1 a = some (.lst xs)) (hx : repL ms H1 (items.map e) xs) (nl : H1 L = none) (hM : items.length < 100000 ∧ mapC body items [] KM)
    (hs : ∀ (x : α) (u : V) (n : Nat) (ys : List β) (vs : List V) (k : β → Prop) (H : Hp), n < 100000 → Trn ms ps cs H0 H1 L eb n ys vs H → rep (L :: ms) H (e x) u → body x k → ∀ Nx : Hp → Prop, (∀ y vs' H', k y → Trn ms ps cs H0 H1 L eb (n + 1) (ys ++ [y]) vs' H' → Nx H') →
      g u (wipe σ vl) H fun σ2 H2 => wipe σ2 vl = wipe σ vl ∧ tt σ2 H2 fun b H3 => if b = true then te σ2 H3 fun y H4 => ∃ acc, H4 L = some (.lst acc) ∧ acc.length < sizeLine ∧ Nx (upd H4 L (.lst (acc ++ [y]))) else Nx H3)
    (hd : ∀ ys H, KM ys → Wd ms ps cs H0 H → Keep ms H1 H → rep ms H (.lst (ys.map eb)) (.ref L) → Qd H) :
    ∃ W : Nat → Nat → Hp → Prop, (∃ m, W 0 m (upd H1 L (.lst []))) ∧ ∀ i m H, W i m H →
      ((Itl K a).stop i H ∧ Qd H) ∨ ((Itl K a).go i H ∧ ∃ Nx : Hp → Prop, (∀ H', Nx H' → ∃ m', m' < m ∧ W (i + 1) m' H') ∧ ∀ x H', (Itl K a).yld i H x H' → g x (wipe σ vl) H' fun σ2 H2 => wipe σ2 vl = wipe σ vl ∧ tt σ2 H2 fun b H3 =>
        if b = true then te σ2 H3 fun y H4 => ∃ acc, H4 L = some (.lst acc) ∧ acc.length < sizeLine ∧ Nx (upd H4 L (.lst (acc ++ [y]))) else Nx H3) := by
  obtain ⟨hn, hM⟩ := hM
  have hl : items.length = xs.length := by
    have := repL_len hx
    rwa [List.length_map] at this
  have aL : a ≠ L := ne_of_none ha nl
  have hx1 : repL (L :: ms) (upd H1 L (.lst [])) (items.map e) xs := repL_map (fun p o n hp => ⟨fun z => by
    rcases List.mem_cons.mp z with z | z
    · exact ne_of_none hp nl z
    · exact n z, by rw [upd_ne (ne_of_none hp nl)]; exact hp⟩) _ _ hx
  have aM : a ∉ L :: ms := fun z => by
    rcases List.mem_cons.mp z with z | z
    · exact aL z
    · exact an z
  refine ⟨fun i m H => m = xs.length - i ∧ i ≤ xs.length ∧ ∃ ys vs, Trn ms ps cs H0 H1 L eb i ys vs H ∧ Keep (L :: ms) (upd H1 L (.lst [])) H ∧ mapC body (items.drop i) ys KM, ⟨_, rfl, Nat.zero_le _, [], [], Trn.start w nl, Keep.refl, hM⟩, ?_⟩
  rintro i m H ⟨rfl, hi', ys, vs, T, kp, q⟩
  have hA : H a = some (.lst xs) := kp a _ aM (by rw [upd_ne aL]; exact ha)
  by_cases hlt : i < xs.length
  · refine .inr ⟨⟨xs, xs[i], .inl (.inl hA), by simp [hlt]⟩, fun H' => i + 1 ≤ xs.length ∧ ∃ ys vs, Trn ms ps cs H0 H1 L eb (i + 1) ys vs H' ∧ Keep (L :: ms) (upd H1 L (.lst [])) H' ∧ mapC body (items.drop (i + 1)) ys KM, fun H' p' => ⟨_, by omega, rfl, p'⟩, fun x H' y => ?_⟩
    obtain ⟨e1, y⟩ := y
    subst e1
    have hxi := y xs (.inl (.inl hA))
    have hit : items[i]? = some (items[i]'(by omega)) := List.getElem?_eq_getElem (by omega)
    rw [drop_cons' hit] at q
    obtain ⟨v, hv, rv⟩ := repL_get (repL_keep kp hx1) (j := i) (d := e (items[i]'(by omega))) (by rw [List.getElem?_map, hit]; rfl)
    rw [hxi] at hv
    have ev : x = v := Option.some.inj hv
    subst ev
    refine hs _ x i ys vs _ H' (by omega) T rv q _ fun y vs' H'' k T' => ⟨hlt, _, _, T', fun b o n hb => ?_, k⟩
    by_cases e3 : b = L
    · exact absurd (by rw [e3]; exact List.mem_cons_self) n
    · rw [upd_ne e3] at hb
      exact T'.k b o n hb
  · have e1 : i = xs.length := by omega
    refine .inl ⟨⟨xs, .inl (.inl hA), by omega⟩, ?_⟩
    have q' : KM ys := by
      rw [List.drop_of_length_le (by omega)] at q
      exact q
    obtain ⟨w', k', r'⟩ := T.done w nl
    exact hd ys H q' w' k' r'
end

/-! ### comprehensions with a test -/
section
variable {α β : Type} {K : PySem.W.Frag} {ms ps : List Addr} {cs : List (Addr × List V)} {H0 H1 : Hp} {g : TG} {tt : TT} {te : TE} {vl : List Nat} {σ : L2.St} {Qd : Hp → Prop}
theorem Trn.skip {L : Addr} {eb : β → D} {n : Nat} {ys : List β} {vs : List V} {H : Hp} (t : Trn ms ps cs H0 H1 L eb n ys vs H) : Trn ms ps cs H0 H1 L eb (n + 1) ys vs H := ⟨t.w, t.k, t.r, Nat.le_succ_of_le t.n⟩
theorem lf_listC {items : List α} {a : Addr} {xs : List V} {L : Addr} {e : α → D} {eb : β → D} {body : α → (Option β → Prop) → Prop} {KM : List β → Prop} (w : Wd ms ps cs H0 H1) (an : a ∉ ms) (ha : H1 a = some (.lst xs)) (hx : repL ms H1 (items.map e) xs) (nl : H1 L = none) (hM : items.length < 100000 ∧ filC body items [] KM)
    (hs : ∀ (x : α) (u : V) (n : Nat) (ys : List β) (vs : List V) (k : Option β → Prop) (H : Hp), n < 100000 → Trn ms ps cs H0 H1 L eb n ys vs H → rep (L :: ms) H (e x) u → body x k → ∀ Nx : Hp → Prop,
        (∀ y vs' H', k (some y) → Trn ms ps cs H0 H1 L eb (n + 1) (ys ++ [y]) vs' H' → Nx H') → (∀ vs' H', k none → Trn ms ps cs H0 H1 L eb (n + 1) ys vs' H' → Nx H') →
      g u (wipe σ vl) H fun σ2 H2 => wipe σ2 vl = wipe σ vl ∧ tt σ2 H2 fun b H3 => if b = true then te σ2 H3 fun y H4 => ∃ acc, H4 L = some (.lst acc) ∧ acc.length < sizeLine ∧ Nx (upd H4 L (.lst (acc ++ [y]))) else Nx H3)
    (hd : ∀ ys H, KM ys → Wd ms ps cs H0 H → Keep ms H1 H → rep ms H (.lst (ys.map eb)) (.ref L) → Qd H) :
    ∃ W : Nat → Nat → Hp → Prop, (∃ m, W 0 m (upd H1 L (.lst []))) ∧ ∀ i m H, W i m H →
      ((Itl K a).stop i H ∧ Qd H) ∨ ((Itl K a).go i H ∧ ∃ Nx : Hp → Prop, (∀ H', Nx H' → ∃ m', m' < m ∧ W (i + 1) m' H') ∧ ∀ x H', (Itl K a).yld i H x H' → g x (wipe σ vl) H' fun σ2 H2 => wipe σ2 vl = wipe σ vl ∧ tt σ2 H2 fun b H3 =>
        if b = true then te σ2 H3 fun y H4 => ∃ acc, H4 L = some (.lst acc) ∧ acc.length < sizeLine ∧ Nx (upd H4 L (.lst (acc ++ [y]))) else Nx H3) := by
  obtain ⟨hn, hM⟩ := hM
  have hl : items.length = xs.length := by
    have := repL_len hx
    rwa [List.length_map] at this
  have aL : a ≠ L := ne_of_none ha nl
  have hx1 : repL (L :: ms) (upd H1 L (.lst [])) (items.map e) xs := repL_map (fun p o n hp => ⟨fun z => by
    rcases List.mem_cons.mp z with z | z
    · exact ne_of_none hp nl z
    · exact n z, by rw [upd_ne (ne_of_none hp nl)]; exact hp⟩) _ _ hx
  have aM : a ∉ L :: ms := fun z => by
    rcases List.mem_cons.mp z with z | z
    · exact aL z
    · exact an z
  refine ⟨fun i m H => m = xs.length - i ∧ i ≤ xs.length ∧ ∃ ys vs, Trn ms ps cs H0 H1 L eb i ys vs H ∧ Keep (L :: ms) (upd H1 L (.lst [])) H ∧ filC body (items.drop i) ys KM, ⟨_, rfl, Nat.zero_le _, [], [], Trn.start w nl, Keep.refl, hM⟩, ?_⟩
  rintro i m H ⟨rfl, hi', ys, vs, T, kp, q⟩
  have hA : H a = some (.lst xs) := kp a _ aM (by rw [upd_ne aL]; exact ha)
  by_cases hlt : i < xs.length
  · refine .inr ⟨⟨xs, xs[i], .inl (.inl hA), by simp [hlt]⟩, fun H' => i + 1 ≤ xs.length ∧ ∃ ys vs, Trn ms ps cs H0 H1 L eb (i + 1) ys vs H' ∧ Keep (L :: ms) (upd H1 L (.lst [])) H' ∧ filC body (items.drop (i + 1)) ys KM, fun H' p' => ⟨_, by omega, rfl, p'⟩, fun x H' y => ?_⟩
    obtain ⟨e1, y⟩ := y
    subst e1
    have hxi := y xs (.inl (.inl hA))
    have hit : items[i]? = some (items[i]'(by omega)) := List.getElem?_eq_getElem (by omega)
    rw [drop_cons' hit] at q
    obtain ⟨v, hv, rv⟩ := repL_get (repL_keep kp hx1) (j := i) (d := e (items[i]'(by omega))) (by rw [List.getElem?_map, hit]; rfl)
    rw [hxi] at hv
    have ev : x = v := Option.some.inj hv
    subst ev
    have kk : ∀ {ys'} {vs'} {H''}, Trn ms ps cs H0 H1 L eb (i + 1) ys' vs' H'' → Keep (L :: ms) (upd H1 L (.lst [])) H'' := fun {ys' vs' H''} T' b o n hb => by
      by_cases e3 : b = L
      · exact absurd (by rw [e3]; exact List.mem_cons_self) n
      · rw [upd_ne e3] at hb
        exact T'.k b o n hb
    exact hs _ x i ys vs _ H' (by omega) T rv q _ (fun y vs' H'' k T' => ⟨hlt, _, _, T', kk T', k⟩) (fun vs' H'' k T' => ⟨hlt, _, _, T', kk T', k⟩)
  · have e1 : i = xs.length := by omega
    refine .inl ⟨⟨xs, .inl (.inl hA), by omega⟩, ?_⟩
    have q' : KM ys := by
      rw [List.drop_of_length_le (by omega)] at q
      exact q
    obtain ⟨w', k', r'⟩ := T.done w nl
    exact hd ys H q' w' k' r'
/-- an element's end -/
theorem lc_end {L : Addr} {eb : β → D} {n : Nat} {ys : List β} {vs : List V} {H : Hp} {y : β} {u : V} {Nx : Hp → Prop} (hc : ∀ c ∈ cs, c.1 ≠ L) (hn : n < 100000) (w : Wd (L :: ms) ps ((L, vs) :: cs) H0 H) (k : Keep (L :: ms) H1 H) (r : repL (L :: ms) H (ys.map eb) vs) (hy : ys.length ≤ n) (hr : rep (L :: ms) H (eb y) u)
    (h : ∀ vs' H', Trn ms ps cs H0 H1 L eb (n + 1) (ys ++ [y]) vs' H' → Nx H') : ∃ acc, H L = some (.lst acc) ∧ acc.length < sizeLine ∧ Nx (upd H L (.lst (acc ++ [u]))) := by
  refine ⟨vs, (w.cel _ List.mem_cons_self).1, ?_, h _ _ (Trn.add hc w k r hy hr)⟩
  have q := repL_len r
  rw [List.length_map] at q
  have e : sizeLine = 16777216 := sizeLine_eq
  omega
end

/-! ### for -/
section
variable {α S : Type} {K : PySem.W.Frag} {ms ps : List Addr} {H0 H1 : Hp} {g : TG} {tb : TS} {D' : Ends} {σ : L2.St} {cs : S → List (Addr × List V)}
/-- for x in range(lo, hi) -/
theorem for_rangeC {lo hi : Int} {N : Nat} {body : Int → S → (S → Prop) → Prop} {KM : S → Prop} (SI : S → L2.St → Hp → Prop) (s0 : S) (hN : N = (hi - lo).toNat) (w : Wd ms ps (cs s0) H0 H1) (hM : forC body (rangeI lo hi) s0 KM) (h0 : SI s0 σ H1)
    (hs : ∀ (x : Int) (s : S) (k : S → Prop) (σ : L2.St) (H : Hp), Wd ms ps (cs s) H0 H → Keep ms H1 H → SI s σ H → body x s k → ∀ Nx : L2.St → Hp → Prop, (∀ s' σ' H', k s' → Wd ms ps (cs s') H0 H' → Keep ms H1 H' → SI s' σ' H' → Nx σ' H') →
      g (.int x) σ H fun σ2 H2 => tb { D' with nx := Nx, ct := Nx, bk := D'.nx } σ2 H2)
    (hd : ∀ s σ H, KM s → Wd ms ps (cs s) H0 H → Keep ms H1 H → SI s σ H → D'.nx σ H) :
    ∃ W : Nat → Nat → L2.St → Hp → Prop, (∃ m, W 0 m σ H1) ∧ ∀ i m σ H, W i m σ H →
      ((Itr lo N).stop i H ∧ D'.nx σ H) ∨ ((Itr lo N).go i H ∧ ∃ Nx : L2.St → Hp → Prop, (∀ σ' H', Nx σ' H' → ∃ m', m' < m ∧ W (i + 1) m' σ' H') ∧ ∀ x H', (Itr lo N).yld i H x H' → g x σ H' fun σ2 H2 => tb { D' with nx := Nx, ct := Nx, bk := D'.nx } σ2 H2) := by
  subst hN
  refine for_range (lo := lo) (n := (hi - lo).toNat) (D := D') (fun i σ H => ∃ s, Wd ms ps (cs s) H0 H ∧ Keep ms H1 H ∧ SI s σ H ∧ forC body ((rangeI lo hi).drop i) s KM) ⟨s0, w, Keep.refl, h0, hM⟩ (fun i σ H hi' ⟨s, w', k', si, q⟩ => ?_) (fun σ H ⟨s, w', k', si, q⟩ => ?_)
  · rw [drop_cons' (rangeI_get hi')] at q
    exact hs _ s _ σ H w' k' si q _ fun s' σ' H' hk w2 k2 si2 => ⟨s', w2, k2, si2, hk⟩
  · rw [List.drop_of_length_le (by rw [rangeI_len]; exact Nat.le_refl _)] at q
    exact hd s σ H q w' k' si
/-- for x in xs -/
theorem for_listC {items : List α} {e : α → D} {a : Addr} {xs : List V} {body : α → S → (S → Prop) → Prop} {KM : S → Prop} (SI : S → L2.St → Hp → Prop) (s0 : S) (w : Wd ms ps (cs s0) H0 H1) (an : a ∉ ms) (ha : H1 a = some (.lst xs)) (hx : repL ms H1 (items.map e) xs) (hM : forC body items s0 KM) (h0 : SI s0 σ H1)
    (hs : ∀ (x : α) (u : V) (s : S) (k : S → Prop) (σ : L2.St) (H : Hp), Wd ms ps (cs s) H0 H → Keep ms H1 H → SI s σ H → rep ms H (e x) u → body x s k → ∀ Nx : L2.St → Hp → Prop, (∀ s' σ' H', k s' → Wd ms ps (cs s') H0 H' → Keep ms H1 H' → SI s' σ' H' → Nx σ' H') →
      g u σ H fun σ2 H2 => tb { D' with nx := Nx, ct := Nx, bk := D'.nx } σ2 H2)
    (hd : ∀ s σ H, KM s → Wd ms ps (cs s) H0 H → Keep ms H1 H → SI s σ H → D'.nx σ H) :
    ∃ W : Nat → Nat → L2.St → Hp → Prop, (∃ m, W 0 m σ H1) ∧ ∀ i m σ H, W i m σ H →
      ((Itl K a).stop i H ∧ D'.nx σ H) ∨ ((Itl K a).go i H ∧ ∃ Nx : L2.St → Hp → Prop, (∀ σ' H', Nx σ' H' → ∃ m', m' < m ∧ W (i + 1) m' σ' H') ∧ ∀ x H', (Itl K a).yld i H x H' → g x σ H' fun σ2 H2 => tb { D' with nx := Nx, ct := Nx, bk := D'.nx } σ2 H2) := by
  have hl : items.length = xs.length := by
    have := repL_len hx
    rwa [List.length_map] at this
  refine for_list (xs := xs) (D := D') (fun i σ H => ∃ s, Wd ms ps (cs s) H0 H ∧ Keep ms H1 H ∧ SI s σ H ∧ forC body (items.drop i) s KM) ⟨s0, w, Keep.refl, h0, hM⟩ (fun i σ H _ ⟨s, w', k', _⟩ => .inl (.inl (k' a _ an ha))) (fun i x σ H hx' ⟨s, w', k', si, q⟩ => ?_) (fun σ H ⟨s, w', k', si, q⟩ => ?_)
  · have hi : i < xs.length := (List.getElem?_eq_some_iff.mp hx').1
    have hit : items[i]? = some (items[i]'(by omega)) := List.getElem?_eq_getElem (by omega)
    rw [drop_cons' hit] at q
    obtain ⟨v, hv, rv⟩ := repL_get (repL_keep k' hx) (j := i) (d := e (items[i]'(by omega))) (by rw [List.getElem?_map, hit]; rfl)
    rw [hx'] at hv
    have ev : x = v := Option.some.inj hv
    subst ev
    exact hs _ x s _ σ H w' k' si rv q _ fun s' σ' H' hk w2 k2 si2 => ⟨s', w2, k2, si2, hk⟩
  · rw [List.drop_of_length_le (by omega)] at q
    exact hd s σ H q w' k' si
/-- while -/
theorem while_C {c : TT} {fuel : Nat} {body : S → (S → Prop) → (S → Prop) → Prop} {KM : S → Prop} (SI : S → L2.St → Hp → Prop) (s0 : S) (w : Wd ms ps (cs s0) H0 H1) (hM : whileC body fuel s0 KM) (h0 : SI s0 σ H1)
    (hs : ∀ (s : S) (k1 k2 : S → Prop) (σ : L2.St) (H : Hp), Wd ms ps (cs s) H0 H → Keep ms H1 H → SI s σ H → body s k1 k2 → ∀ (Nx : L2.St → Hp → Prop) (Ex : L2.St → Hp → Prop), (∀ s' σ' H', k1 s' → Wd ms ps (cs s') H0 H' → Keep ms H1 H' → SI s' σ' H' → Nx σ' H') → (∀ s' σ' H', k2 s' → Wd ms ps (cs s') H0 H' → Keep ms H1 H' → SI s' σ' H' → Ex σ' H') →
      c σ H fun b H1 => if b = true then tb { D' with nx := Nx, ct := Nx, bk := D'.nx } σ H1 else Ex σ H1)
    (hd : ∀ s σ H, KM s → Wd ms ps (cs s) H0 H → Keep ms H1 H → SI s σ H → D'.nx σ H)
    (mono : ∀ σ H Q Q', (∀ b H1, Q b H1 → Q' b H1) → c σ H Q → c σ H Q') : tWhile c tb D' σ H1 := by
  refine ⟨fun m σ H => ∃ s, Wd ms ps (cs s) H0 H ∧ Keep ms H1 H ∧ SI s σ H ∧ whileC body m s KM, ⟨fuel, s0, w, Keep.refl, h0, hM⟩, ?_⟩
  rintro m σ H ⟨s, w', k', si, q⟩
  cases m with
  | zero => exact False.elim q
  | succ m =>
    refine mono _ _ _ _ (fun b H2 hb => ?_) (hs s _ _ σ H w' k' si q (fun σ' H' => ∃ s, Wd ms ps (cs s) H0 H' ∧ Keep ms H1 H' ∧ SI s σ' H' ∧ whileC body m s KM) D'.nx (fun s' σ' H' hk w2 k2 si2 => ⟨s', w2, k2, si2, hk⟩) fun s' σ' H' hk w2 k2 si2 => hd s' σ' H' hk w2 k2 si2)
    cases b with
    | true => exact ⟨_, fun σ' H' p => ⟨m, Nat.lt_succ_self m, p⟩, hb⟩
    | false => exact hb
end

section
variable {K : PySem.W.Frag} {ms : List Addr} {H : Hp} {d : D} {u x y : V}
theorem repL_uncons {ds : List D} {vs : List V} (h : repL ms H (d :: ds) vs) : ∃ u us, vs = u :: us ∧ rep ms H d u ∧ repL ms H ds us := by
  simp only [repL] at h
  exact h
theorem repL_empty {vs : List V} (h : repL ms H [] vs) : vs = [] := by
  simp only [repL] at h
  exact h
theorem repL_ints {ns : List Int} {vs : List V} (h : repL ms H (ns.map fun n => D.v (.int n)) vs) : vs = ns.map V.int := by
  have e : (ns.map fun n => D.v (.int n)) = (ns.map V.int).map D.v := by rw [List.map_map]; rfl
  rw [e] at h
  exact repL_flat.mp h
theorem repL_strs {ns : List Str} {vs : List V} (h : repL ms H (ns.map fun n => D.v (.str n)) vs) : vs = ns.map V.str := by
  have e : (ns.map fun n => D.v (.str n)) = (ns.map V.str).map D.v := by rw [List.map_map]; rfl
  rw [e] at h
  exact repL_flat.mp h
theorem repL_bls {ns : List Bool} {vs : List V} (h : repL ms H (ns.map fun n => D.v (.bl n)) vs) : vs = ns.map V.bl := by
  have e : (ns.map fun n => D.v (.bl n)) = (ns.map V.bl).map D.v := by rw [List.map_map]; rfl
  rw [e] at h
  exact repL_flat.mp h
theorem rep_join {a : Str} {ys : List Str} {P : Str → List Str → Prop} (h : rep ms H (.lst (ys.map fun n => D.v (.str n))) x) (hz : (ys.map (·.length)).sum + ys.length * a.length ≤ 16777216) (k : P a ys) :
    ∃ a' p, ∃ ys : List Str, V.str a = .str a' ∧ [x] = [.ref p] ∧ (SqL K H p (ys.map V.str) ∨ SqT K H p (ys.map V.str)) ∧ (ys.map (·.length)).sum + ys.length * a'.length ≤ 16777216 ∧ P a' ys := by
  simp only [rep] at h
  obtain ⟨p, vs, e, _, hp, hr⟩ := h
  have ev := repL_strs hr
  subst ev e
  exact ⟨a, p, ys, rfl, rfl, .inl (.inl (.inl hp)), hz, k⟩
theorem rep_all {ys : List Bool} {P : List Bool → Prop} (h : rep ms H (.lst (ys.map fun n => D.v (.bl n))) x) (k : P ys) : ∃ (a : Addr) (bs : List Bool), [x] = [V.ref a] ∧ SqL K H a (bs.map V.bl) ∧ P bs := by
  simp only [rep] at h
  obtain ⟨p, vs, e, _, hp, hr⟩ := h
  have ev := repL_bls hr
  subst ev e
  exact ⟨p, ys, rfl, .inl (.inl hp), k⟩
/-! data as the library data, for == -/
mutual
def pyOf : D → PyData
  | .v .non => .none
  | .v (.bl b) => .bool b
  | .v (.int i) => .int i
  | .v (.str z) => .str z
  | .v _ => .none
  | .lst ds => .list (pyL ds)
  | .tup ds => .tuple (pyL ds)
  | .ins _ _ _ => .none
def pyL : List D → List PyData
  | [] => []
  | d :: ds => pyOf d :: pyL ds
def plainD : D → Bool
  | .v .non => true
  | .v (.bl _) => true
  | .v (.int _) => true
  | .v (.str _) => true
  | .v _ => false
  | .lst ds => plainL ds
  | .tup ds => plainL ds
  | .ins _ _ _ => false
def plainL : List D → Bool
  | [] => true
  | d :: ds => plainD d && plainL ds
end
mutual
theorem dp_of : ∀ (d : D) (u : V), plainD d = true → rep ms H d u → Dp K H u (pyOf d)
  | .v x, u, p, h => by
    have e := of_v h
    subst e
    cases u <;> simp only [pyOf, plainD] at p ⊢ <;> first | exact .non | exact .bl _ | exact .int _ | exact .str _ | cases p
  | .lst ds, u, p, h => by
    simp only [rep] at h
    obtain ⟨a, vs, e, _, hp, hr⟩ := h
    subst e
    simp only [pyOf, plainD] at p ⊢
    exact .lst (.inl (.inl hp)) (dpL_of ds vs p hr)
  | .tup ds, u, p, h => by
    simp only [rep] at h
    obtain ⟨a, vs, e, _, hp, hr⟩ := h
    subst e
    simp only [pyOf, plainD] at p ⊢
    exact .tup (.inl (.inl hp)) (dpL_of ds vs p hr)
  | .ins _ _ _, u, p, h => by
    simp only [plainD] at p
    cases p
theorem dpL_of : ∀ (ds : List D) (vs : List V), plainL ds = true → repL ms H ds vs → DpAll K H vs (pyL ds)
  | [], vs, p, h => by
    have e := repL_empty h
    subst e
    simp only [pyL]
    exact .nil
  | d :: ds, vs, p, h => by
    obtain ⟨u, us, e, h1, h2⟩ := repL_uncons h
    subst e
    simp only [plainL, Bool.and_eq_true] at p
    simp only [pyL]
    exact .cons (dp_of d u p.1 h1) (dpL_of ds us p.2 h2)
end
theorem rep_eqD {d e : D} {Q : VK} (h1 : rep ms H d x) (h2 : rep ms H e y) (p1 : plainD d = true) (p2 : plainD e = true) (s1 : SeqAt.shaped (pyOf d) = true) (s2 : SeqAt.shaped (pyOf e) = true) (k : Q (.bl (PyData.eqv (pyOf d) (pyOf e))) H) : rEqD K x y H Q :=
  ⟨_, _, dp_of d x p1 h1, dp_of e y p2 h2, s1, s2, k⟩
theorem rep_neD {d e : D} {Q : VK} (h1 : rep ms H d x) (h2 : rep ms H e y) (p1 : plainD d = true) (p2 : plainD e = true) (s1 : SeqAt.shaped (pyOf d) = true) (s2 : SeqAt.shaped (pyOf e) = true) (k : Q (.bl (!PyData.eqv (pyOf d) (pyOf e))) H) : rNeD K x y H Q :=
  ⟨_, _, dp_of d x p1 h1, dp_of e y p2 h2, s1, s2, k⟩
end

section
variable {ms : List Addr} {H H' H1 : Hp} {d : D} {u : V} {l : Addr}
theorem Keep.trans (a : Keep ms H1 H) (b : Keep ms H H') : Keep ms H1 H' := fun x o n h => b x o n (a x o n h)
theorem Keep.new (k : Keep ms H1 H) : Keep (l :: ms) H1 H := fun x o n h => k x o (fun z => n (List.mem_cons_of_mem _ z)) h
theorem rep_new (nl : H l = none) (h : rep ms H d u) : rep (l :: ms) H d u := rep_map (fun p o n hp => ⟨fun z => by
  rcases List.mem_cons.mp z with z | z
  · exact ne_of_none hp nl z
  · exact n z, hp⟩) d u h
theorem repL_new {ds : List D} {us : List V} (nl : H l = none) (h : repL ms H ds us) : repL (l :: ms) H ds us := repL_map (fun p o n hp => ⟨fun z => by
  rcases List.mem_cons.mp z with z | z
  · exact ne_of_none hp nl z
  · exact n z, hp⟩) ds us h
end

/-! ### a method called by keywords alone -/
def tMethK (C : Addr) (m : Str) (n : Nat) (gV : List V → List V → List V) (sp : Sp) (E : XK) (ta : TE) (tk : TA) : TE := fun σ H Q => ta σ H fun x H1 => ∃ a dx fs, x = .ref a ∧ H1 a = some (.ins C dx fs) ∧ fs.lookup m = none ∧
  tk σ H1 fun zs H2 => zs.length = n ∧ sp (gV [x] zs) H2 Q E
section
variable {X : Cx} {CX : CXT} {k : Nat} {f C : Addr} {fd : FuncData} {ps ks : List Str} {sp : Sp} {E : XK} {m : Str} {apos pos : Pos} {o : Expr} {kws : List Keyword} {ta : TE} {tk : TA} {g : List Value → List Value → List Value} {gV : List V → List V → List V}
theorem pe_methK0 {pl : Sem Bool} (he : PE X o ta) (c : Cls X.K C) (hm : Meth X.K C m f) (F : FnOk X.prog X.w X.K X.mg X.base CX k f fd ps sp) (hr : Room k X.A) (hb : KBn X.K fd ps 1 ks g gV) (hx : Passes CX X E) (hkw : PK X kws tk)
    (hall : (backToKw pos (keywordEach kws X.env)).all (·.1.isSome) = true := by rfl) (hks : (backToKw pos (keywordEach kws X.env)).filterMap (·.1) = ks := by rfl)
    (hpl : ((backTo pos (starEach [] X.env)).any (·.1) || (backToKw pos (keywordEach kws X.env)).any (·.1.isNone)) = false := by rfl)
    (ht : eval (.Call (.Attribute o m apos) [] kws pos) X.env = (do
      let ov ← eval o X.env
      standAt apos.atName
      let (f, first) ← holding [ov] (getMethod ov m pl)
      callWith pos f first (backTo pos (starEach [] X.env)) (backToKw pos (keywordEach kws X.env))) := by rfl) :
    PE X (.Call (.Attribute o m apos) [] kws pos) (tMethK C m ks.length gV sp E ta tk) := by
  refine ⟨fun pins s σ H Q I h => ?_⟩
  refine PySem.W.methodCall_KW (pl := pl) (thn (he.run pins s σ H _ I h) fun u s1 ⟨x, H1, I1, rx, a, dx, fs, ex, ea, l, q⟩ => ?_) ht
  subst ex
  obtain rfl : u = Value.ref a := rx
  refine getmeth_ok I1 ea c hm l ?_
  refine PySem.W.callWith_KW0 (first := [.ref a]) (h₀ := X.base) I.ok.mod.kin hm.kp hall ?_ hpl
  refine thn (hkw.run pos pins s1 σ H1 _ I1 q) fun ws s2 ⟨zs, H2, I2, rz, l2, q2⟩ => ⟨I2.kIn, ?_⟩
  rw [hks]
  exact run_fnN (us := [.ref a]) (vs := [.ref a]) F hr hb hx I2 (.cons rfl .nil) rz rfl l2 q2
end
end Rx
namespace Rx
open PySem PySem.Spec PyProof.Rows L2
theorem vals_getD : ∀ {zs : List V} {ws : List Value}, Vals zs ws → ∀ j : Nat, RelV (zs.getD j .non) (ws.getD j .none)
  | _, _, .nil, _ => rfl
  | _, _, .cons r _, 0 => r
  | _, _, .cons _ t, j + 1 => vals_getD t j
theorem tyes_of {σ : L2.St} {H : Hp} {A B : Hp → Prop} (h : A H) : tYes σ H fun b H3 => if b = true then A H3 else B H3 := by
  show (if true = true then A H else B H)
  rw [if_pos rfl]
  exact h
theorem Ret.keep {H H' : Hp} (e : Ret [] H H') {a : Addr} {o : HO} (h : H a = some o) : H' a = some o := e.kp a o (by simp) h
end Rx
namespace Wm
open PySem PySem.Spec PyProof.Rows L2

abbrev L (z : Str) : List Nat := z.cps.toList
theorem len_L (z : Str) : z.length = (L z).length := by
  show z.cps.size = z.cps.toList.length
  simp
theorem L_mk (l : List Nat) : L ⟨l.toArray⟩ = l := by simp [L]
theorem mk_L (z : Str) : (⟨(L z).toArray⟩ : Str) = z := by
  cases z
  simp [L]
theorem L_ext {a b : Str} (h : L a = L b) : a = b := ext_toList h
theorem L_app (a b : Str) : L (a ++ b) = L a ++ L b := by
  show (a.cps ++ b.cps).toList = _
  simp [L]
theorem L_empty : L ("" : Str) = [] := by decide +kernel
theorem L_h : L ("h" : Str) = [104] := by decide +kernel
theorem L_a : L ("a" : Str) = [97] := by decide +kernel
theorem L_one (c : Nat) : L ⟨#[c]⟩ = [c] := by simp [L]
theorem h_mk : ("h" : Str) = ⟨#[104]⟩ := by decide +kernel
theorem a_mk : ("a" : Str) = ⟨#[97]⟩ := by decide +kernel
theorem eqS {a b : Str} : decide (V.str a = V.str b) = decide (L a = L b) := by
  by_cases h : a = b
  · subst h
    simp
  · rw [decide_eq_false (fun z => h (V.str.inj z)), decide_eq_false (fun z => h (L_ext z))]
theorem eqI {a b : Int} : decide (V.int a = V.int b) = decide (a = b) := by
  by_cases h : a = b
  · subst h
    simp
  · rw [decide_eq_false (fun z => h (V.int.inj z)), decide_eq_false h]

/-- how many signs c -/
def cn (c : Nat) (l : List Nat) : Int := ((l.count c : Nat) : Int)
theorem cn_nil (c : Nat) : cn c [] = 0 := rfl
theorem cn_app (c : Nat) (a b : List Nat) : cn c (a ++ b) = cn c a + cn c b := by
  unfold cn
  rw [List.count_append]
  omega
theorem cn_cons (c x : Nat) (l : List Nat) : cn c (x :: l) = (if x = c then 1 else 0) + cn c l := by
  unfold cn
  rw [List.count_cons]
  by_cases h : x = c
  · simp [h]
    omega
  · simp [h]
theorem cn_pos (c : Nat) (l : List Nat) : 0 ≤ cn c l := by
  unfold cn
  omega
theorem cn_le (c : Nat) (l : List Nat) : cn c l ≤ l.length := by
  unfold cn
  have := List.count_le_length (a := c) (l := l)
  omega
theorem cnt_cn (c : Nat) : ∀ l : List Nat, cnt c l = cn c l
  | [] => by rw [cn_nil]; rfl
  | x :: l => by rw [cn_cons, cnt_cons, cnt_cn c l]
theorem count_h (x : Str) : Txt.count x ("h" : Str) = cn 104 (L x) := by rw [h_mk, count_cnt, cnt_cn]
theorem count_a (x : Str) : Txt.count x ("a" : Str) = cn 97 (L x) := by rw [a_mk, count_cnt, cnt_cn]
theorem marks_all : ∀ l : List Nat, (∀ c ∈ l, c = 104 ∨ c = 97) → cn 104 l + cn 97 l = l.length
  | [], _ => rfl
  | x :: l, h => by
    have ih := marks_all l fun c hc => h c (List.mem_cons_of_mem _ hc)
    rw [cn_cons, cn_cons, List.length_cons]
    rcases h x List.mem_cons_self with e | e <;> subst e <;> simp <;> omega

/-- z[:k], 0 ≤ k -/
theorem cut_take (z : Str) {k : Int} (h : 0 ≤ k) : L (cutS z none (some k)) = (L z).take k.toNat := by
  unfold cutS
  rw [L_mk, HT.sIx_none, List.drop_zero, Nat.sub_zero]
  show List.take (if k < 0 then _ else min k.toNat z.length) z.cps.toList = _
  rw [if_neg (by omega)]
  rw [len_L]
  exact (List.take_eq_take_min).symm
theorem join_L (ys : List Str) : L (Txt.join ("" : Str) ys) = (ys.map L).flatten := by
  rw [TL.join_eq]
  show TL.tl (Str.join _ _) = _
  rw [TL.tl_join]
  show TL.joinL (L ("" : Str)) _ = _
  rw [L_empty]
  show _ = (ys.map TL.tl).flatten
  generalize ys.map TL.tl = ls
  induction ls with
  | nil => rfl
  | cons p ls ih =>
    cases ls with
    | nil => simp [TL.joinL]
    | cons q r =>
      show p ++ ([] ++ TL.joinL [] (q :: r)) = _
      rw [ih]
      simp

/-! ### the middle, said again and again -/
def cyc (m : List Nat) (k : Nat) : List Nat := (List.range k).map fun j => m.getD (j % m.length) 0
theorem cyc_len (m : List Nat) (k : Nat) : (cyc m k).length = k := by simp [cyc]
theorem cyc_get (m : List Nat) {k j : Nat} (h : j < k) : (cyc m k)[j]? = some (m.getD (j % m.length) 0) := by
  simp [cyc, List.getElem?_map, List.getElem?_range h]
theorem cyc_get' {m : List Nat} (hm : 0 < m.length) {k j : Nat} (h : j < k) : (cyc m k)[j]? = m[j % m.length]? := by
  rw [cyc_get m h]
  have := Nat.mod_lt j hm
  rw [List.getD_eq_getElem?_getD, List.getElem?_eq_getElem this]
  rfl
theorem cyc_take (m : List Nat) {k j : Nat} (h : j ≤ k) : (cyc m k).take j = cyc m j := by
  unfold cyc
  rw [← List.map_take, List.take_range, Nat.min_eq_left h]
theorem cyc_full {m : List Nat} : cyc m m.length = m := by
  apply List.ext_getElem?
  intro j
  by_cases h : j < m.length
  · rw [cyc_get' (by omega) h, Nat.mod_eq_of_lt h]
  · rw [List.getElem?_eq_none (by rw [cyc_len]; omega), List.getElem?_eq_none (by omega)]
theorem cyc_add {m : List Nat} (hm : 0 < m.length) (k : Nat) : cyc m (m.length + k) = m ++ cyc m k := by
  apply List.ext_getElem?
  intro j
  by_cases h : j < m.length
  · rw [cyc_get' hm (by omega), List.getElem?_append_left h, Nat.mod_eq_of_lt h]
  · rw [List.getElem?_append_right (by omega)]
    by_cases h2 : j < m.length + k
    · rw [cyc_get' hm h2, cyc_get' hm (by omega), Nat.mod_eq_sub_mod (by omega)]
    · rw [List.getElem?_eq_none (by rw [cyc_len]; omega), List.getElem?_eq_none (by rw [cyc_len]; omega)]
/-- how many c the first k of them have -/
def cyn (c : Nat) (m : List Nat) (k : Nat) : Int := ((k / m.length : Nat) : Int) * cn c m + cn c (m.take (k % m.length))
theorem cyn_eq (c : Nat) {m : List Nat} (hm : 0 < m.length) : ∀ k : Nat, cn c (cyc m k) = cyn c m k := by
  intro k
  induction k using Nat.strongRecOn with
  | ind k ih =>
    by_cases h : k < m.length
    · unfold cyn
      rw [Nat.div_eq_of_lt h, Nat.mod_eq_of_lt h]
      have e : cyc m k = m.take k := by
        have := cyc_take m (Nat.le_of_lt h)
        rw [cyc_full] at this
        exact this.symm
      rw [e]
      show _ = ((0 : Nat) : Int) * _ + _
      omega
    · obtain ⟨j, rfl⟩ : ∃ j, k = m.length + j := ⟨k - m.length, by omega⟩
      rw [cyc_add hm, cn_app, ih j (by omega)]
      unfold cyn
      rw [Nat.add_mod_left, Nat.add_div_left _ hm]
      rw [show (((j / m.length + 1 : Nat) : Int)) = ((j / m.length : Nat) : Int) + 1 by omega, Int.add_mul]
      omega
theorem cyn_add (c : Nat) {m : List Nat} (hm : 0 < m.length) (k : Nat) : cyn c m (k + m.length) = cyn c m k + cn c m := by
  rw [← cyn_eq c hm, ← cyn_eq c hm, Nat.add_comm, cyc_add hm, cn_app]
  omega
theorem cyn_mul (c : Nat) {m : List Nat} (hm : 0 < m.length) (k : Nat) : cyn c m (k * m.length) = (k : Int) * cn c m := by
  unfold cyn
  rw [Nat.mul_div_cancel _ hm, Nat.mul_mod_left, List.take_zero, cn_nil]
  omega

/-! ### rows -/
def row (h m t : List Nat) (n : Nat) : List Nat := h ++ cyc m (n - h.length - t.length) ++ t
section
variable {h m t : List Nat} {n : Nat}
theorem row_len (hn : h.length + t.length ≤ n) : (row h m t n).length = n := by
  unfold row
  rw [List.length_append, List.length_append, cyc_len]
  omega
theorem row_head {j : Nat} (hj : j < h.length) : (row h m t n)[j]? = h[j]? := by
  unfold row
  rw [List.append_assoc, List.getElem?_append_left hj]
theorem row_mid {j : Nat} (hm : 0 < m.length) (hn : h.length + t.length ≤ n) (h1 : h.length ≤ j) (h2 : j < n - t.length) : (row h m t n)[j]? = m[(j - h.length) % m.length]? := by
  unfold row
  rw [List.append_assoc, List.getElem?_append_right h1, List.getElem?_append_left (by rw [cyc_len]; omega), cyc_get' hm (by omega)]
theorem row_tail {j : Nat} (hn : h.length + t.length ≤ n) (h1 : n - t.length ≤ j) : (row h m t n)[j]? = t[j - (n - t.length)]? := by
  unfold row
  rw [List.getElem?_append_right (by rw [List.length_append, cyc_len]; omega)]
  congr 1
  rw [List.length_append, cyc_len]
  omega
/-- the homes of the first i places -/
def hom (c : Nat) (h m t : List Nat) (n i : Nat) : Int := cn c (h.take i) + cyn c m (min i (n - t.length) - h.length) + cn c (t.take (i - (n - t.length)))
theorem hom_eq (c : Nat) (hm : 0 < m.length) (hn : h.length + t.length ≤ n) (i : Nat) (hi : i ≤ n) : cn c ((row h m t n).take i) = hom c h m t n i := by
  unfold row hom
  rw [List.take_append, List.take_append, cn_app, cn_app, List.length_append, cyc_len]
  congr 2
  · rw [← cyn_eq c hm]
    by_cases h1 : i - h.length ≤ n - h.length - t.length
    · rw [cyc_take m h1]
      congr 2
      omega
    · rw [List.take_of_length_le (by rw [cyc_len]; omega)]
      congr 2
      omega
  · congr 1
    omega
theorem cn_succ (c : Nat) {l : List Nat} {i x : Nat} (hx : l[i]? = some x) : cn c (l.take (i + 1)) = cn c (l.take i) + (if x = c then 1 else 0) := by
  rw [List.take_add_one, hx, cn_app]
  show _ + cn c [x] = _
  rw [cn_cons, cn_nil]
  omega
end

theorem cyc_end {m : List Nat} (hm : 0 < m.length) (k : Nat) : cyc m (k * m.length) ++ m = cyc m ((k + 1) * m.length) := by
  apply List.ext_getElem?
  intro j
  by_cases h : j < k * m.length
  · rw [List.getElem?_append_left (by rw [cyc_len]; exact h), cyc_get' hm h, cyc_get' hm (by rw [Nat.succ_mul]; omega)]
  · rw [List.getElem?_append_right (by rw [cyc_len]; omega), cyc_len]
    by_cases h2 : j < (k + 1) * m.length
    · rw [cyc_get' hm h2]
      rw [Nat.succ_mul] at h2
      obtain ⟨i, rfl⟩ : ∃ i, j = i + k * m.length := ⟨j - k * m.length, by omega⟩
      rw [Nat.add_mul_mod_self_right, Nat.mod_eq_of_lt (by omega)]
      congr 1
      omega
    · rw [List.getElem?_eq_none (by rw [Nat.succ_mul] at h2; omega), List.getElem?_eq_none (by rw [cyc_len]; omega)]

/-! ### loops of mirrors -/
section
open Rx
variable {α β S : Type}
theorem mapC_ok {body : α → (β → Prop) → Prop} {k : List β → Prop} (g : α → β) : ∀ {xs : List α} {acc : List β}, (∀ x ∈ xs, ∀ k' : β → Prop, k' (g x) → body x k') → k (acc ++ xs.map g) → mapC body xs acc k
  | [], acc, _, q => by
    rw [List.map_nil, List.append_nil] at q
    exact q
  | x :: xs, acc, h, q => h x List.mem_cons_self _ (mapC_ok g (fun y hy => h y (List.mem_cons_of_mem _ hy)) (by rw [List.append_assoc]; exact q))
theorem mapC_any {body : α → (β → Prop) → Prop} {k : List β → Prop} (P : β → Prop) : ∀ {xs : List α} {acc : List β}, (∀ x ∈ xs, ∀ k' : β → Prop, (∀ y, P y → k' y) → body x k') → (∀ ys : List β, ys.length = xs.length → (∀ y ∈ ys, P y) → k (acc ++ ys)) → mapC body xs acc k
  | [], acc, _, q => by
    have := q [] rfl (fun _ h => absurd h List.not_mem_nil)
    rw [List.append_nil] at this
    exact this
  | x :: xs, acc, h, q => h x List.mem_cons_self _ fun y hy => mapC_any P (fun z hz => h z (List.mem_cons_of_mem _ hz)) fun ys hl hp => by
    rw [List.append_assoc]
    exact q (y :: ys) (congrArg Nat.succ hl) fun z hz => by
      rcases List.mem_cons.mp hz with e | hz
      · rw [e]
        exact hy
      · exact hp z hz
theorem filC_ok {body : α → (Option β → Prop) → Prop} {k : List β → Prop} (g : α → Option β) : ∀ {xs : List α} {acc : List β}, (∀ x ∈ xs, ∀ k' : Option β → Prop, k' (g x) → body x k') → k (acc ++ xs.filterMap g) → filC body xs acc k
  | [], acc, _, q => by
    rw [List.filterMap_nil, List.append_nil] at q
    exact q
  | x :: xs, acc, h, q => h x List.mem_cons_self _ (by
    show match g x with | some y => filC body xs (acc ++ [y]) k | none => filC body xs acc k
    cases e : g x with
    | none => exact filC_ok g (fun y hy => h y (List.mem_cons_of_mem _ hy)) (by rw [List.filterMap_cons_none e] at q; exact q)
    | some y => exact filC_ok g (fun y hy => h y (List.mem_cons_of_mem _ hy)) (by rw [List.filterMap_cons_some e] at q; rw [List.append_assoc]; exact q))
theorem forC_ok {body : α → S → (S → Prop) → Prop} {k : S → Prop} (I : S → Prop) : ∀ {xs : List α} {s0 : S}, (∀ x ∈ xs, ∀ (s : S) (k' : S → Prop), I s → (∀ s', I s' → k' s') → body x s k') → I s0 → (∀ s, I s → k s) → forC body xs s0 k
  | [], s0, _, i, q => q s0 i
  | x :: xs, s0, h, i, q => h x List.mem_cons_self s0 _ i fun s' i' => forC_ok I (fun y hy => h y (List.mem_cons_of_mem _ hy)) i' q
theorem whileC_ok {body : S → (S → Prop) → (S → Prop) → Prop} {k : S → Prop} (I : S → Prop) (μ : S → Nat) (h : ∀ (s : S) (k1 : S → Prop), I s → (∀ s', I s' → μ s' < μ s → k1 s') → body s k1 k) {s0 : S} (i : I s0) : ∃ n, whileC body n s0 k := by
  have go : ∀ (n : Nat) (s : S), μ s < n → I s → whileC body n s k := by
    intro n
    induction n with
    | zero => intro s hs; omega
    | succ n ih => intro s hs is; exact h s _ is fun s' is' hl => ih s' (by omega) is'
  exact ⟨_, go _ s0 (Nat.lt_succ_self _) i⟩
theorem rangeI_mem {lo hi x : Int} (h : x ∈ rangeI lo hi) : lo ≤ x ∧ x < hi := by
  unfold rangeI at h
  obtain ⟨i, hi', e⟩ := List.mem_map.mp h
  have := List.mem_range.mp hi'
  omega
end
end Wm
namespace Lw
open PySem PySem.Spec PyProof.Rows L2 Rx
abbrev St := L2.St
def topS (i : Nat) : Stmt := PySem.Challenge.pw_ringrows_k22_marks_and_homes.main.body.getD i (.Pass ⟨0, 0, 0, 0⟩)
abbrev s_is_marks : Stmt := (topS 3)
abbrev s_check_part : Stmt := (topS 14)
abbrev s_draw : Stmt := (topS 19)
abbrev s_signs : Stmt := (topS 21)
abbrev s_parts : Stmt := (topS 22)
abbrev s_least : Stmt := (topS 23)
abbrev s_line : Stmt := (topS 24)
abbrev s_is_integer : Stmt := (topS 2)
abbrev s_Word_least : Stmt := (inClass (topS 13) 4)
abbrev s_check_places : Stmt := (topS 15)
abbrev s_Word_mark : Stmt := (inClass (topS 13) 6)
abbrev s_homes_said : Stmt := (topS 16)
abbrev s_Word_homes : Stmt := (inClass (topS 13) 7)
abbrev s_small_right : Stmt := (topS 26)
abbrev s_pick : Stmt := (topS 20)
abbrev s_great : Stmt := (topS 25)
abbrev s_short : Stmt := (topS 27)
abbrev s_place_in : Stmt := (topS 28)
abbrev s_steps_right : Stmt := (topS 29)
abbrev s_great_right : Stmt := (topS 30)
abbrev s_rounds_right : Stmt := (topS 31)
abbrev s_right : Stmt := (topS 32)
abbrev s_pot : Stmt := (topS 18)
abbrev s_law : Stmt := (topS 33)
abbrev s_Word_init : Stmt := (inClass (topS 13) 0)
theorem sc_is_marks : FnScope ["value"] ["value"] (defScope s_is_marks) := ⟨rfl, rfl, rfl, by decide +kernel, rfl, by decide +kernel, by decide +kernel⟩
theorem sc_check_part : FnScope ["marks"] ["marks"] (defScope s_check_part) := ⟨rfl, rfl, rfl, by decide +kernel, rfl, by decide +kernel, by decide +kernel⟩
theorem sc_draw : FnScope ["_law_pot_here", "_law_size", "_law_digit"] ["_law_pot_here", "_law_size"] (defScope s_draw) := ⟨rfl, rfl, rfl, by decide +kernel, rfl, by decide +kernel, by decide +kernel⟩
theorem sc_signs : FnScope ["_law_pot_here", "_law_few", "_law_many", "_law_turn"] ["_law_pot_here", "_law_few", "_law_many"] (defScope s_signs) := ⟨rfl, rfl, rfl, by decide +kernel, rfl, by decide +kernel, by decide +kernel⟩
theorem sc_parts : FnScope ["_law_pot_here"] ["_law_pot_here"] (defScope s_parts) := ⟨rfl, rfl, rfl, by decide +kernel, rfl, by decide +kernel, by decide +kernel⟩
theorem sc_least : FnScope ["_law_parts_here"] ["_law_parts_here"] (defScope s_least) := ⟨rfl, rfl, rfl, by decide +kernel, rfl, by decide +kernel, by decide +kernel⟩
theorem sc_line : FnScope ["_law_parts_here", "_law_size", "_law_inner", "_law_inside"] ["_law_parts_here", "_law_size"] (defScope s_line) := ⟨rfl, rfl, rfl, by decide +kernel, rfl, by decide +kernel, by decide +kernel⟩
theorem sc_is_integer : FnScope ["value"] ["value"] (defScope s_is_integer) := ⟨rfl, rfl, rfl, by decide +kernel, rfl, by decide +kernel, by decide +kernel⟩
theorem sc_Word_least : FnScope ["self"] ["self"] (defScope s_Word_least) := ⟨rfl, rfl, rfl, by decide +kernel, rfl, by decide +kernel, by decide +kernel⟩
theorem sc_check_places : FnScope ["word", "places"] ["word", "places"] (defScope s_check_places) := ⟨rfl, rfl, rfl, by decide +kernel, rfl, by decide +kernel, by decide +kernel⟩
theorem sc_Word_mark : FnScope ["self", "places", "place", "ahead"] ["self", "places", "place"] (defScope s_Word_mark) := ⟨rfl, rfl, rfl, by decide +kernel, rfl, by decide +kernel, by decide +kernel⟩
theorem sc_homes_said : FnScope ["middle", "many", "turns", "rest"] ["middle", "many"] (defScope s_homes_said) := ⟨rfl, rfl, rfl, by decide +kernel, rfl, by decide +kernel, by decide +kernel⟩
theorem sc_Word_homes : FnScope ["self", "places", "place", "begin", "end", "in_head", "in_tail"] ["self", "places", "place"] (defScope s_Word_homes) := ⟨rfl, rfl, rfl, by decide +kernel, rfl, by decide +kernel, by decide +kernel⟩
theorem sc_small_right : FnScope ["_law_made", "_law_parts_here", "_law_size", "_law_line_here", "_law_at"] ["_law_made", "_law_parts_here"] (defScope s_small_right) := ⟨rfl, rfl, rfl, by decide +kernel, rfl, by decide +kernel, by decide +kernel⟩
theorem sc_pick : FnScope ["_law_pot_here", "_law_some"] ["_law_pot_here", "_law_some"] (defScope s_pick) := ⟨rfl, rfl, rfl, by decide +kernel, rfl, by decide +kernel, by decide +kernel⟩
theorem sc_great : FnScope ["_law_pot_here", "_law_least_here", "_law_found", "_law_turn"] ["_law_pot_here", "_law_least_here"] (defScope s_great) := ⟨rfl, rfl, rfl, by decide +kernel, rfl, by decide +kernel, by decide +kernel⟩
theorem sc_short : FnScope ["_law_parts_here", "_law_size", "_law_spare"] ["_law_parts_here", "_law_size"] (defScope s_short) := ⟨rfl, rfl, rfl, by decide +kernel, rfl, by decide +kernel, by decide +kernel⟩
theorem sc_place_in : FnScope ["_law_parts_here", "_law_size", "_law_short_here", "_law_at"] ["_law_parts_here", "_law_size", "_law_short_here", "_law_at"] (defScope s_place_in) := ⟨rfl, rfl, rfl, by decide +kernel, rfl, by decide +kernel, by decide +kernel⟩
theorem sc_steps_right : FnScope ["_law_made", "_law_size", "_law_at", "_law_step"] ["_law_made", "_law_size", "_law_at"] (defScope s_steps_right) := ⟨rfl, rfl, rfl, by decide +kernel, rfl, by decide +kernel, by decide +kernel⟩
theorem sc_great_right : FnScope ["_law_pot_here", "_law_made", "_law_parts_here", "_law_size", "_law_short_here", "_law_line_here", "_law_some", "_law_at", "_law_due", "_law_one"] ["_law_pot_here", "_law_made", "_law_parts_here", "_law_size"] (defScope s_great_right) := ⟨rfl, rfl, rfl, by decide +kernel, rfl, by decide +kernel, by decide +kernel⟩
theorem sc_rounds_right : FnScope ["_law_pot_here", "_law_made", "_law_parts_here", "_law_size", "_law_begin", "_law_end", "_law_many", "_law_at", "_law_turns", "_law_due", "_law_grown"] ["_law_pot_here", "_law_made", "_law_parts_here", "_law_size"] (defScope s_rounds_right) := ⟨rfl, rfl, rfl, by decide +kernel, rfl, by decide +kernel, by decide +kernel⟩
theorem sc_right : FnScope ["_law_pot_here", "_law_turn", "_law_parts_here", "_law_made", "_law_size"] ["_law_pot_here"] (defScope s_right) := ⟨rfl, rfl, rfl, by decide +kernel, rfl, by decide +kernel, by decide +kernel⟩
theorem sc_pot : FnScope ["_law_script", "_law_k", "_law_cell"] ["_law_script", "_law_k"] (defScope s_pot) := ⟨rfl, rfl, rfl, by decide +kernel, rfl, by decide +kernel, by decide +kernel⟩
theorem sc_law : FnScope ["_law_script", "_law_k"] ["_law_script"] (defScope s_law) := ⟨rfl, rfl, rfl, by decide +kernel, rfl, by decide +kernel, by decide +kernel⟩
theorem sc_Word_init : FnScope ["self", "head", "middle", "tail"] ["self", "head", "middle", "tail"] (defScope s_Word_init) := ⟨rfl, rfl, rfl, by decide +kernel, rfl, by decide +kernel, by decide +kernel⟩
structure Ad where
  a_is_marks : Addr
  d_is_marks : FuncData
  a_check_part : Addr
  d_check_part : FuncData
  a_draw : Addr
  d_draw : FuncData
  a_signs : Addr
  d_signs : FuncData
  a_parts : Addr
  d_parts : FuncData
  a_least : Addr
  d_least : FuncData
  a_line : Addr
  d_line : FuncData
  a_is_integer : Addr
  d_is_integer : FuncData
  a_Word_least : Addr
  d_Word_least : FuncData
  a_check_places : Addr
  d_check_places : FuncData
  a_Word_mark : Addr
  d_Word_mark : FuncData
  a_homes_said : Addr
  d_homes_said : FuncData
  a_Word_homes : Addr
  d_Word_homes : FuncData
  a_small_right : Addr
  d_small_right : FuncData
  a_pick : Addr
  d_pick : FuncData
  a_great : Addr
  d_great : FuncData
  a_short : Addr
  d_short : FuncData
  a_place_in : Addr
  d_place_in : FuncData
  a_steps_right : Addr
  d_steps_right : FuncData
  a_great_right : Addr
  d_great_right : FuncData
  a_rounds_right : Addr
  d_rounds_right : FuncData
  a_right : Addr
  d_right : FuncData
  a_pot : Addr
  d_pot : FuncData
  a_law : Addr
  d_law : FuncData
  a_Word_init : Addr
  d_Word_init : FuncData
  c_Word : Addr
  pa_Word_least : Addr
structure Txt (K : PySem.W.Frag) (mg : Str → Option Value) (A : Ad) : Prop where
  F_is_marks : Fun K "is_marks" "is_marks" s_is_marks A.a_is_marks A.d_is_marks
  b_is_marks : Binds K A.d_is_marks ["value"] []
  g_is_marks : mg "is_marks" = some (.ref A.a_is_marks)
  F_check_part : Fun K "_check_part" "_check_part" s_check_part A.a_check_part A.d_check_part
  b_check_part : Binds K A.d_check_part ["marks"] []
  g_check_part : mg "_check_part" = some (.ref A.a_check_part)
  F_draw : Fun K "_law_draw" "_law_draw" s_draw A.a_draw A.d_draw
  b_draw : Binds K A.d_draw ["_law_pot_here", "_law_size"] []
  g_draw : mg "_law_draw" = some (.ref A.a_draw)
  F_signs : Fun K "_law_signs" "_law_signs" s_signs A.a_signs A.d_signs
  b_signs : Binds K A.d_signs ["_law_pot_here", "_law_few", "_law_many"] []
  g_signs : mg "_law_signs" = some (.ref A.a_signs)
  F_parts : Fun K "_law_parts" "_law_parts" s_parts A.a_parts A.d_parts
  b_parts : Binds K A.d_parts ["_law_pot_here"] []
  g_parts : mg "_law_parts" = some (.ref A.a_parts)
  F_least : Fun K "_law_least" "_law_least" s_least A.a_least A.d_least
  b_least : Binds K A.d_least ["_law_parts_here"] []
  g_least : mg "_law_least" = some (.ref A.a_least)
  F_line : Fun K "_law_line" "_law_line" s_line A.a_line A.d_line
  b_line : Binds K A.d_line ["_law_parts_here", "_law_size"] []
  g_line : mg "_law_line" = some (.ref A.a_line)
  F_is_integer : Fun K "is_integer" "is_integer" s_is_integer A.a_is_integer A.d_is_integer
  b_is_integer : Binds K A.d_is_integer ["value"] []
  g_is_integer : mg "is_integer" = some (.ref A.a_is_integer)
  F_Word_least : Fun K "least" "Word.least" s_Word_least A.a_Word_least A.d_Word_least
  b_Word_least : Binds K A.d_Word_least ["self"] []
  p_Word_least : PropOf K A.c_Word "least" A.pa_Word_least A.a_Word_least
  F_check_places : Fun K "_check_places" "_check_places" s_check_places A.a_check_places A.d_check_places
  b_check_places : Binds K A.d_check_places ["word", "places"] []
  g_check_places : mg "_check_places" = some (.ref A.a_check_places)
  F_Word_mark : Fun K "mark" "Word.mark" s_Word_mark A.a_Word_mark A.d_Word_mark
  b_Word_mark : Binds K A.d_Word_mark ["self", "places", "place"] []
  m_Word_mark : Meth K A.c_Word "mark" A.a_Word_mark
  F_homes_said : Fun K "_homes_said" "_homes_said" s_homes_said A.a_homes_said A.d_homes_said
  b_homes_said : Binds K A.d_homes_said ["middle", "many"] []
  g_homes_said : mg "_homes_said" = some (.ref A.a_homes_said)
  F_Word_homes : Fun K "homes" "Word.homes" s_Word_homes A.a_Word_homes A.d_Word_homes
  b_Word_homes : Binds K A.d_Word_homes ["self", "places", "place"] []
  m_Word_homes : Meth K A.c_Word "homes" A.a_Word_homes
  F_small_right : Fun K "_law_small_right" "_law_small_right" s_small_right A.a_small_right A.d_small_right
  b_small_right : Binds K A.d_small_right ["_law_made", "_law_parts_here"] []
  g_small_right : mg "_law_small_right" = some (.ref A.a_small_right)
  F_pick : Fun K "_law_pick" "_law_pick" s_pick A.a_pick A.d_pick
  b_pick : Binds K A.d_pick ["_law_pot_here", "_law_some"] []
  g_pick : mg "_law_pick" = some (.ref A.a_pick)
  F_great : Fun K "_law_great" "_law_great" s_great A.a_great A.d_great
  b_great : Binds K A.d_great ["_law_pot_here", "_law_least_here"] []
  g_great : mg "_law_great" = some (.ref A.a_great)
  F_short : Fun K "_law_short" "_law_short" s_short A.a_short A.d_short
  b_short : Binds K A.d_short ["_law_parts_here", "_law_size"] []
  g_short : mg "_law_short" = some (.ref A.a_short)
  F_place_in : Fun K "_law_place_in" "_law_place_in" s_place_in A.a_place_in A.d_place_in
  b_place_in : Binds K A.d_place_in ["_law_parts_here", "_law_size", "_law_short_here", "_law_at"] []
  g_place_in : mg "_law_place_in" = some (.ref A.a_place_in)
  F_steps_right : Fun K "_law_steps_right" "_law_steps_right" s_steps_right A.a_steps_right A.d_steps_right
  b_steps_right : Binds K A.d_steps_right ["_law_made", "_law_size", "_law_at"] []
  g_steps_right : mg "_law_steps_right" = some (.ref A.a_steps_right)
  F_great_right : Fun K "_law_great_right" "_law_great_right" s_great_right A.a_great_right A.d_great_right
  b_great_right : Binds K A.d_great_right ["_law_pot_here", "_law_made", "_law_parts_here", "_law_size"] []
  g_great_right : mg "_law_great_right" = some (.ref A.a_great_right)
  F_rounds_right : Fun K "_law_rounds_right" "_law_rounds_right" s_rounds_right A.a_rounds_right A.d_rounds_right
  b_rounds_right : Binds K A.d_rounds_right ["_law_pot_here", "_law_made", "_law_parts_here", "_law_size"] []
  g_rounds_right : mg "_law_rounds_right" = some (.ref A.a_rounds_right)
  F_right : Fun K "_law_right" "_law_right" s_right A.a_right A.d_right
  b_right : Binds K A.d_right ["_law_pot_here"] []
  g_right : mg "_law_right" = some (.ref A.a_right)
  F_pot : Fun K "_law_pot" "_law_pot" s_pot A.a_pot A.d_pot
  b_pot : Binds K A.d_pot ["_law_script", "_law_k"] []
  g_pot : mg "_law_pot" = some (.ref A.a_pot)
  F_law : Fun K "law" "law" s_law A.a_law A.d_law
  b_law : Binds K A.d_law ["_law_script"] []
  g_law : mg "law" = some (.ref A.a_law)
  F_Word_init : Fun K "__init__" "Word.__init__" s_Word_init A.a_Word_init A.d_Word_init
  b_Word_init : Binds K A.d_Word_init ["self", "head", "middle", "tail"] []
  cl_Word : Cls K A.c_Word
  g_Word : mg "Word" = some (.ref A.c_Word)
  mk_Word : Mk K A.c_Word A.a_Word_init
  na_Word__head : NoAttr K A.c_Word "_head"
  na_Word__middle : NoAttr K A.c_Word "_middle"
  na_Word__tail : NoAttr K A.c_Word "_tail"
  z_abs : mg "abs" = none
  z_all : mg "all" = none
  z_bool : mg "bool" = none
  z_divmod : mg "divmod" = none
  z_int : mg "int" = none
  z_isinstance : mg "isinstance" = none
  z_len : mg "len" = none
  z_max : mg "max" = none
  z_min : mg "min" = none
  z_range : mg "range" = none
  z_str : mg "str" = none
  c_MOST_MARKS : ∃ u, mg "MOST_MARKS" = some u ∧ RelV (.int 4) u
  k_Word_homes_place_places : KBn K A.d_Word_homes ["self", "places", "place"] 1 ["place", "places"] (fun us ws => us ++ [ws.getD 1 .none, ws.getD 0 .none]) (fun us ws => us ++ [ws.getD 1 .non, ws.getD 0 .non])
  k_Word_mark_place_places : KBn K A.d_Word_mark ["self", "places", "place"] 1 ["place", "places"] (fun us ws => us ++ [ws.getD 1 .none, ws.getD 0 .none]) (fun us ws => us ++ [ws.getD 1 .non, ws.getD 0 .non])
abbrev ns_Word : List Str := ["_head", "_middle", "_tail"]
theorem nd_Word : ns_Word.Nodup := by decide +kernel
abbrev eWord (A : Ad) (x : (Str × Str × Str)) : D := .ins A.c_Word ns_Word [(D.v (V.str x.1)), (D.v (V.str x.2.1)), (D.v (V.str x.2.2))]
def M_is_marks (x_value : Str) (KM : Bool → Prop) : Prop :=
  (x_value.length ≤ sizeLine ∧ (KM (decide (V.int ((Txt.count x_value ("h" : Str) : Int) + (Txt.count x_value ("a" : Str) : Int)) = V.int (x_value.length : Int)))))
def sp_is_marks (A : Ad) : Sp := fun vs H Q _ => ∃ (ms : List Addr) (x_value : Str) (KM : Bool → Prop), vs = [V.str x_value] ∧ Wd ms [] [] H H ∧ M_is_marks x_value KM ∧ ∀ (r : Bool) (u : V) (H1 : Hp), KM r → Ret [] H H1 → rep ms H1 (D.v (V.bl r)) u → Q u H1
set_option maxHeartbeats 16000000 in
theorem ok_is_marks {P : Program} {w : World} {K : PySem.W.Frag} {mg : Str → Option Value} {base : Heap} {A : Ad} (T : Txt K mg A) : FnOk P w K mg base CX0 1 A.a_is_marks A.d_is_marks ["value"] (sp_is_marks A) := by
  refine T.F_is_marks.ok sc_is_marks (fun vs H Q E h => ?_) (fun cdv A_ outer s_ H_0 vs Q E hr h => ?_)
  · obtain ⟨ms, x_value, KM, rfl, _⟩ := h
    rfl
  · obtain ⟨ms, x_value, KM, rfl, hW, hM, hQ⟩ := h
    unfold M_is_marks at hM
    refine ⟨_, (pss_one (ps_ret (pe_and (pe_callB call_isi (by rfl) T.z_isinstance (by decide +kernel) (pa_cons (pv 0) (pa_cons (pe_bltn (v := .ty "str") (by rfl) T.z_str (by decide +kernel) rfl) pa_nil))) (pe_one (pe_cmpR op_eq (pe_op op_add (pe_m1 PySem.F.slot_str_count PySem.F.type_str_count mt_count (pv 0) pe_str) (pe_m1 PySem.F.slot_str_count PySem.F.type_str_count mt_count (pv 0) pe_str)) (pe_callB call_len_str (by rfl) T.z_len PySem.boot_len (pa_cons (pv 0) pa_nil)) (nomark _)))))), ?_⟩
    refine ⟨_, rfl, ?_⟩
    refine ⟨_, _, _, _, true, rfl, .ty _, .base (.str _), kit_ty (by decide +kernel), ?_⟩
    refine ⟨_, rfl, ?_⟩
    refine iteT ?_
    refine ⟨_, rfl, ?_⟩
    refine ⟨⟨_, rfl⟩, ?_⟩
    refine ⟨_, _, rfl, rfl, ?_⟩
    refine ⟨_, rfl, ?_⟩
    refine ⟨⟨_, rfl⟩, ?_⟩
    refine ⟨_, _, rfl, rfl, ?_⟩
    refine ⟨_, _, rfl, rfl, ?_⟩
    refine ⟨_, rfl, ?_⟩
    obtain ⟨g1, hM⟩ := hM
    refine ⟨_, rfl, g1, ?_⟩
    refine ⟨rfl, ?_⟩
    exact hQ (decide (V.int ((Txt.count x_value ("h" : Str) : Int) + (Txt.count x_value ("a" : Str) : Int)) = V.int (x_value.length : Int))) _ _ hM hW.out rep_v
def M_check_part (x_marks : Str) (KM : Unit → Prop) : Prop :=
  (M_is_marks x_marks fun r1 => (if (!r1) = true then False else (x_marks.length ≤ sizeLine ∧ (if (decide ((4 : Int) < (x_marks.length : Int))) = true then False else (KM ())))))
def sp_check_part (A : Ad) : Sp := fun vs H Q _ => ∃ (ms : List Addr) (x_marks : Str) (KM : Unit → Prop), vs = [V.str x_marks] ∧ Wd ms [] [] H H ∧ M_check_part x_marks KM ∧ ∀ (r : Unit) (u : V) (H1 : Hp), KM r → Ret [] H H1 → rep ms H1 (D.v V.non) u → Q u H1
set_option maxHeartbeats 16000000 in
theorem ok_check_part {P : Program} {w : World} {K : PySem.W.Frag} {mg : Str → Option Value} {base : Heap} {A : Ad} (T : Txt K mg A) : FnOk P w K mg base CX0 2 A.a_check_part A.d_check_part ["marks"] (sp_check_part A) := by
  refine T.F_check_part.ok sc_check_part (fun vs H Q E h => ?_) (fun cdv A_ outer s_ H_0 vs Q E hr h => ?_)
  · obtain ⟨ms, x_marks, KM, rfl, _⟩ := h
    rfl
  · obtain ⟨ms, x_marks, KM, rfl, hW, hM, hQ⟩ := h
    unfold M_check_part at hM
    refine ⟨_, (pss_one (ps_if (PW.pt (pw_or (pt_not (pt_val (pe_call (ok_is_marks T) (hr.mono (by decide)) (by rfl) T.g_is_marks T.F_is_marks.kp T.b_is_marks .nil pass0 (pa_cons (pv 0) pa_nil)))) (pw_or1 (pt_cmpR op_gt (pe_callB call_len_str (by rfl) T.z_len PySem.boot_len (pa_cons (pv 0) pa_nil)) (C8.pe_gc (by rfl) T.c_MOST_MARKS) (nomark _))))) (pss_one ps_never) pss_nil)), ?_⟩
    refine ⟨_, rfl, ?_⟩
    refine ⟨ms, x_marks, _, rfl, hW.enter0, hM, fun r1 u4 H5 hM e3 h2 => ?_⟩
    replace hW := hW.ret0 e3
    obtain rfl := of_v h2
    refine ⟨_, rfl, ?_⟩
    refine ite3 hM (fun hM => ?_) (fun hM => ?_)
    · skip
      refine iteT ?_
      exact hM
    · skip
      refine ⟨_, rfl, ?_⟩
      obtain ⟨g6, hM⟩ := hM
      refine ⟨_, rfl, g6, ?_⟩
      refine ⟨_, _, rfl, rfl, ?_⟩
      refine ⟨_, rfl, ?_⟩
      refine ite3 hM (fun hM => ?_) (fun hM => ?_)
      · skip
        exact hM
      · skip
        exact hQ () _ _ hM hW.out rep_v
/-! ### draws: any number below the size -/
def M_draw (x_size : Int) (KM : Int → Prop) : Prop := (0 < x_size ∧ x_size < 1073741824) ∧ ∀ d : Int, 0 ≤ d → d < x_size → KM d
def sp_draw (A : Ad) : Sp := fun vs H Q _ => ∃ (ms : List Addr) (ap : Addr) (x_size : Int) (KM : Int → Prop), vs = [.ref ap, V.int x_size] ∧ Wd ms [ap] [] H H ∧ M_draw x_size KM ∧ ∀ (r : Int) (u : V) (H1 : Hp), KM r → Ret [ap] H H1 → rep ms H1 (D.v (V.int r)) u → Q u H1
theorem ret_pot1 {H : Hp} {ap : Addr} {o : HO} {i j : Int} (ha : H ap = some o) (hj : j.natAbs < 4294967296) : Ret [ap] H (upd H ap (.lst [.int i, .int j])) := by
  refine ⟨fun a u n h => ?_, fun a h => ?_, fun a h => ?_⟩
  · rw [upd_ne (fun z => n (by rw [z]; exact List.mem_singleton.mpr rfl))]
    exact h
  · rw [List.mem_singleton.mp h]
    exact ⟨i, j, upd_same, hj⟩
  · by_cases e : a = ap
    · rw [e, upd_same]
      exact fun z => nomatch z
    · rw [upd_ne e]
      exact h
theorem ret_pot2 {H : Hp} {ap p : Addr} {o u : HO} {i j : Int} (ha : H ap = some o) (np : H p = none) (hj : j.natAbs < 4294967296) : Ret [ap] H (upd (upd H p u) ap (.lst [.int i, .int j])) := by
  have e := Ext.new (o := u) np
  have h2 := ret_pot1 (i := i) (j := j) (e.keep ha) hj
  exact ⟨fun a w n h => h2.kp a w n (e.keep h), h2.pot, fun a h => h2.grow a (e.grow a h)⟩
theorem ok_draw {P : Program} {w : World} {K : PySem.W.Frag} {mg : Str → Option Value} {base : Heap} {A : Ad} (T : Txt K mg A) : FnOk P w K mg base CX0 1 A.a_draw A.d_draw ["_law_pot_here", "_law_size"] (sp_draw A) := by
  refine T.F_draw.ok sc_draw (fun vs H Q E h => ?_) (fun cdv A_ outer s_ H_0 vs Q E hr h => ?_)
  · obtain ⟨ms, ap, x_size, KM, rfl, _⟩ := h
    rfl
  · obtain ⟨ms, ap, n, KM, rfl, hW, ⟨⟨n0, n1⟩, hM⟩, hQ⟩ := h
    obtain ⟨i, j, hp, hj⟩ := hW.pot ap (List.mem_singleton.mpr rfl)
    refine ⟨_, pss_cons (ps_if (pt_cmpR op_gt (pe_ix ix_list (pv 0) pe_int (fun _ _ => rfl)) pe_int (nomark _))
        (pss_cons (ps_asg (pe_callB call_divmod (by rfl) T.z_divmod (by decide +kernel) (pa_cons (pe_ix ix_list (pv 0) pe_int (fun _ _ => rfl)) (pa_cons (pv 1) pa_nil)))
            (pg_tup rfl (pgs_cons (pg_sub (pv 0) pe_int set_list) (pgs_cons (pg_name (i := 2) sc_draw.nd rfl (.inl rfl)) pgs_nil)))) (pss_one (ps_ret (pv 2)))) pss_nil)
      (pss_cons (ps_asg (pe_op op_mod (pe_callTy call_int1 (by rfl) T.z_int (by decide +kernel) (pa_cons (pe_op op_add (pe_op op_mul (pe_ix ix_list (pv 0) pe_int (fun _ _ => rfl)) pe_int) pe_int) pa_nil)) pe_int) (pg_sub (pv 0) pe_int set_list))
      (pss_one (ps_ret (pe_op op_mod (pe_callTy call_int1 (by rfl) T.z_int (by decide +kernel) (pa_cons (pe_op op_fdiv (pe_op op_mod (pe_callTy call_int1 (by rfl) T.z_int (by decide +kernel)
          (pa_cons (pe_op op_mul (pe_ix ix_list (pv 0) pe_int (fun _ _ => rfl)) (pe_ix ix_list (pv 0) pe_int (fun _ _ => rfl))) pa_nil)) pe_int) pe_int) pa_nil)) (pv 1))))), ?_⟩
    refine ⟨_, rfl, ap, _, 0, .int i, rfl, rfl, .inl (.inl hp), rfl, _, _, rfl, rfl, _, rfl, ?_⟩
    refine ite2 (fun c => ?_) (fun c => ?_)
    · refine ⟨_, rfl, ap, _, 0, .int i, rfl, rfl, .inl (.inl hp), rfl, _, rfl, _, _, rfl, ⟨n0, n1⟩, fun p np => ?_⟩
      have npa : ap ≠ p := ne_of_none hp np
      refine ⟨p, _, rfl, .inl (.inl upd_same), rfl, _, _, rfl, _, rfl, ap, _, 0, 0, rfl, rfl, (by rw [upd_ne npa]; exact hp), rfl, _, _, rfl, rfl, _, rfl, ?_⟩
      exact hQ (i % n) _ _ (hM _ (Int.emod_nonneg _ (by omega)) (Int.emod_lt_of_pos _ n0)) (ret_pot2 hp np hj) rep_v
    · refine ⟨_, rfl, ap, _, 1, .int j, rfl, rfl, .inl (.inl hp), rfl, _, _, rfl, rfl, .inr ⟨by decide, by decide⟩, _, _, rfl, rfl, .inl ⟨_, rfl, _, _, rfl, rfl, (by show (0 : Int) < 2147483587; decide), ?_⟩⟩
      refine ⟨_, rfl, ap, _, 1, 1, rfl, rfl, hp, rfl, ?_⟩
      refine ⟨_, rfl, ap, _, 1, _, rfl, rfl, .inl (.inl upd_same), rfl, _, rfl, ap, _, 1, _, rfl, rfl, .inl (.inl upd_same), rfl, _, _, rfl, rfl, .inl ⟨?_, ?_⟩, .inl ⟨_, rfl, _, _, rfl, rfl, (by show (0 : Int) < 2147483549; decide), _, _, rfl, rfl, ⟨by decide, by decide⟩, .inl ⟨_, rfl, _, rfl, _, _, rfl, rfl, n0, ?_⟩⟩⟩
      · omega
      · omega
      · refine hQ _ _ _ (hM _ (Int.emod_nonneg _ (by omega)) (Int.emod_lt_of_pos _ n0)) (ret_pot1 (i := i) hp ?_) rep_v
        omega

def M_signs (x_few : Int) (x_many : Int) (KM : Str → Prop) : Prop :=
  (M_draw ((x_many - x_few) + (1 : Int)) fun r1 => ((-(2 ^ 62) ≤ (x_few + r1) ∧ (x_few + r1) < 2 ^ 62) ∧ ((rangeI (0 : Int) (x_few + r1)).length < 100000 ∧ mapC (fun (x20 : Int) (k12 : Str → Prop) => (M_draw (2 : Int) fun r25 => (("ha" : Str).length ≤ sizeLine ∧ ∃ c31, atI ("ha" : Str).cps.toList r25 = some c31 ∧ (k12 (Str.mk #[c31]))))) (rangeI (0 : Int) (x_few + r1)) [] fun ys32 => ((ys32.map (·.length)).sum + ys32.length * ("" : Str).length ≤ 16777216 ∧ (KM (Txt.join ("" : Str) ys32))))))
def sp_signs (A : Ad) : Sp := fun vs H Q _ => ∃ (ms : List Addr) (ap : Addr) (x_few : Int) (x_many : Int) (KM : Str → Prop), vs = [.ref ap, V.int x_few, V.int x_many] ∧ Wd ms [ap] [] H H ∧ M_signs x_few x_many KM ∧ ∀ (r : Str) (u : V) (H1 : Hp), KM r → Ret [ap] H H1 → rep ms H1 (D.v (V.str r)) u → Q u H1
set_option maxHeartbeats 16000000 in
theorem ok_signs {P : Program} {w : World} {K : PySem.W.Frag} {mg : Str → Option Value} {base : Heap} {A : Ad} (T : Txt K mg A) : FnOk P w K mg base CX0 2 A.a_signs A.d_signs ["_law_pot_here", "_law_few", "_law_many"] (sp_signs A) := by
  refine T.F_signs.ok sc_signs (fun vs H Q E h => ?_) (fun cdv A_ outer s_ H_0 vs Q E hr h => ?_)
  · obtain ⟨ms, ap, x_few, x_many, KM, rfl, _⟩ := h
    rfl
  · obtain ⟨ms, ap, x_few, x_many, KM, rfl, hW, hM, hQ⟩ := h
    unfold M_signs at hM
    refine ⟨_, (pss_one (ps_ret (pe_join pe_str (pe_lc (own := [("_law_turn", 3)]) (g := gName 3) rfl sc_signs.nd (pi_range1 (by rfl) T.z_range (pa_cons (pe_op op_add (pv 1) (pe_call (ok_draw T) (hr.mono (by decide)) (by rfl) T.g_draw T.F_draw.kp T.b_draw .nil pass0 (pa_cons (pv 0) (pa_cons (pe_op op_add (pe_op op_sub (pv 2) (pv 1)) pe_int) pa_nil)))) pa_nil)) (blkOk_by (N := ["_law_pot_here", "_law_few", "_law_many", "_law_turn"]) (sc := defScope s_signs) (by decide +kernel)) (fun _ _ _ _ _ => pg_name (i := 3) sc_signs.nd rfl (by first | exact Or.inl rfl | exact Or.inr rfl)) (fun _ _ _ _ _ => pts_nil) (fun _ _ _ _ _ => (pe_ix ix_str pe_str (pe_call (ok_draw T) (hr.mono (by decide)) (by rfl) T.g_draw T.F_draw.kp T.b_draw .nil pass0 (pa_cons (pv 0) (pa_cons pe_int pa_nil))) (fun _ _ => rfl))))))), ?_⟩
    refine ⟨⟨_, rfl⟩, ?_⟩
    refine ⟨_, rfl, ?_⟩
    refine ⟨_, rfl, ?_⟩
    refine ⟨_, rfl, ?_⟩
    refine ⟨_, rfl, ?_⟩
    refine ⟨_, _, rfl, rfl, ?_⟩
    refine ⟨_, _, rfl, rfl, ?_⟩
    refine ⟨ms, ap, ((x_many - x_few) + (1 : Int)), _, rfl, hW.enterP, hM, fun r1 u4 H5 hM e3 h2 => ?_⟩
    replace hW := hW.retP e3
    obtain rfl := of_v h2
    refine ⟨_, _, rfl, rfl, ?_⟩
    obtain ⟨g6, hM⟩ := hM
    refine ⟨_, rfl, g6.1, g6.2, ?_⟩
    refine fun L7 nl8 => ?_
    have hW_L7 := hW
    refine lc_rangeC (lo := (0 : Int)) (hi := (x_few + r1)) (N := Int.toNat (x_few + r1)) (eb := (fun y_ : Str => (D.v (V.str y_)))) (by simp) hW nl8 hM ?_ ?_
    · skip
      intro x20 n9 ys10 vs11 k12 H23 hn T13 hM Nx18 hN17
      obtain ⟨hW, hk14, ha15, ny16⟩ := T13
      refine ⟨rfl, ?_⟩
      refine tyes_of ?_
      refine ⟨_, rfl, ?_⟩
      refine ⟨(L7 :: ms), ap, (2 : Int), _, rfl, hW.enterP, hM, fun r25 u28 H29 hM e27 h26 => ?_⟩
      replace hk14 := keep_ret hW e27 hk14
      replace ha15 := repL_ret hW e27 ha15
      replace hW := hW.retP e27
      obtain rfl := of_v h26
      obtain ⟨g30, hM⟩ := hM
      obtain ⟨c31, c31h, hM⟩ := hM
      refine ⟨_, _, _, rfl, rfl, g30, c31h, ?_⟩
      exact lc_end (y := (Str.mk #[c31])) (new_ne hW_L7 nl8) hn hW hk14 ha15 ny16 rep_v (fun vs_ H_ T_ => hN17 (Str.mk #[c31]) vs_ H_ hM T_)
    · skip
      intro ys32 H35 hM hW hk33 h34
      obtain ⟨g36, hM⟩ := hM
      apply rep_join (a := ("" : Str)) (ys := ys32) h34 g36
      exact hQ (Txt.join ("" : Str) ys32) _ _ hM hW.out rep_v
def M_parts (KM : (Str × Str × Str) → Prop) : Prop :=
  (M_signs (0 : Int) (4 : Int) fun r1 => (M_signs (1 : Int) (4 : Int) fun r6 => (M_signs (0 : Int) (4 : Int) fun r11 => (KM (r1, r6, r11)))))
def sp_parts (A : Ad) : Sp := fun vs H Q _ => ∃ (ms : List Addr) (ap : Addr) (KM : (Str × Str × Str) → Prop), vs = [.ref ap] ∧ Wd ms [ap] [] H H ∧ M_parts  KM ∧ ∀ (r : (Str × Str × Str)) (u : V) (H1 : Hp), KM r → Ret [ap] H H1 → rep ms H1 (D.tup [(D.v (V.str r.1)), (D.v (V.str r.2.1)), (D.v (V.str r.2.2))]) u → Q u H1
set_option maxHeartbeats 16000000 in
theorem ok_parts {P : Program} {w : World} {K : PySem.W.Frag} {mg : Str → Option Value} {base : Heap} {A : Ad} (T : Txt K mg A) : FnOk P w K mg base CX0 3 A.a_parts A.d_parts ["_law_pot_here"] (sp_parts A) := by
  refine T.F_parts.ok sc_parts (fun vs H Q E h => ?_) (fun cdv A_ outer s_ H_0 vs Q E hr h => ?_)
  · obtain ⟨ms, ap, KM, rfl, _⟩ := h
    rfl
  · obtain ⟨ms, ap, KM, rfl, hW, hM, hQ⟩ := h
    unfold M_parts at hM
    refine ⟨_, (pss_one (ps_ret (pe_tup (pa_cons (pe_call (ok_signs T) (hr.mono (by decide)) (by rfl) T.g_signs T.F_signs.kp T.b_signs .nil pass0 (pa_cons (pv 0) (pa_cons pe_int (pa_cons pe_int pa_nil)))) (pa_cons (pe_call (ok_signs T) (hr.mono (by decide)) (by rfl) T.g_signs T.F_signs.kp T.b_signs .nil pass0 (pa_cons (pv 0) (pa_cons pe_int (pa_cons pe_int pa_nil)))) (pa_cons (pe_call (ok_signs T) (hr.mono (by decide)) (by rfl) T.g_signs T.F_signs.kp T.b_signs .nil pass0 (pa_cons (pv 0) (pa_cons pe_int (pa_cons pe_int pa_nil)))) pa_nil)))))), ?_⟩
    refine ⟨_, rfl, ?_⟩
    refine ⟨ms, ap, (0 : Int), (4 : Int), _, rfl, hW.enterP, hM, fun r1 u4 H5 hM e3 h2 => ?_⟩
    replace hW := hW.retP e3
    obtain rfl := of_v h2
    refine ⟨_, rfl, ?_⟩
    refine ⟨ms, ap, (1 : Int), (4 : Int), _, rfl, hW.enterP, hM, fun r6 u9 H10 hM e8 h7 => ?_⟩
    replace hW := hW.retP e8
    obtain rfl := of_v h7
    refine ⟨_, rfl, ?_⟩
    refine ⟨ms, ap, (0 : Int), (4 : Int), _, rfl, hW.enterP, hM, fun r11 u14 H15 hM e13 h12 => ?_⟩
    replace hW := hW.retP e13
    obtain rfl := of_v h12
    refine ⟨(by show 3 ≤ sizeLine; decide), ?_⟩
    intro p16 n20
    have e17 := Ext.new (H := H15) (o := (HO.tup [V.str r1, V.str r6, V.str r11])) n20
    have hp18 : upd H15 p16 (HO.tup [V.str r1, V.str r6, V.str r11]) p16 = some (HO.tup [V.str r1, V.str r6, V.str r11]) := upd_same
    generalize upd H15 p16 (HO.tup [V.str r1, V.str r6, V.str r11]) = H21 at e17 hp18 ⊢
    have h19 : rep ms H21 (D.tup [(D.v (V.str r1)), (D.v (V.str r6)), (D.v (V.str r11))]) (.ref p16) := rep_tup_mk hW n20 e17 hp18 (repL_cons rep_v (repL_cons rep_v (repL_cons rep_v repL_nil)))
    replace hW := hW.ret0 e17
    exact hQ (r1, r6, r11) _ _ hM hW.out h19
def M_least (x_parts_here : (Str × Str × Str)) (KM : Int → Prop) : Prop :=
  (x_parts_here.1.length ≤ sizeLine ∧ (x_parts_here.2.2.length ≤ sizeLine ∧ (KM (if ((x_parts_here.1.length : Int) + (x_parts_here.2.2.length : Int)) > (1 : Int) then ((x_parts_here.1.length : Int) + (x_parts_here.2.2.length : Int)) else (1 : Int)))))
def sp_least (A : Ad) : Sp := fun vs H Q _ => ∃ (ms : List Addr) (v_parts_here : V) (x_parts_here : (Str × Str × Str)) (KM : Int → Prop), vs = [v_parts_here] ∧ Wd ms [] [] H H ∧ rep ms H (D.tup [(D.v (V.str x_parts_here.1)), (D.v (V.str x_parts_here.2.1)), (D.v (V.str x_parts_here.2.2))]) v_parts_here ∧ M_least x_parts_here KM ∧ ∀ (r : Int) (u : V) (H1 : Hp), KM r → Ret [] H H1 → rep ms H1 (D.v (V.int r)) u → Q u H1
set_option maxHeartbeats 16000000 in
theorem ok_least {P : Program} {w : World} {K : PySem.W.Frag} {mg : Str → Option Value} {base : Heap} {A : Ad} (T : Txt K mg A) : FnOk P w K mg base CX0 1 A.a_least A.d_least ["_law_parts_here"] (sp_least A) := by
  refine T.F_least.ok sc_least (fun vs H Q E h => ?_) (fun cdv A_ outer s_ H_0 vs Q E hr h => ?_)
  · obtain ⟨ms, v_parts_here, x_parts_here, KM, rfl, _⟩ := h
    rfl
  · obtain ⟨ms, v_parts_here, x_parts_here, KM, rfl, hW, h_parts_here, hM, hQ⟩ := h
    unfold M_least at hM
    refine ⟨_, (pss_one (ps_ret (pe_callB (call_max2 rfl) (by rfl) T.z_max (by decide +kernel) (pa_cons pe_int (pa_cons (pe_op op_add (pe_callB call_len_str (by rfl) T.z_len PySem.boot_len (pa_cons (pe_ix ix_tup (pv 0) pe_int (fun _ _ => rfl)) pa_nil)) (pe_callB call_len_str (by rfl) T.z_len PySem.boot_len (pa_cons (pe_ix ix_tup (pv 0) pe_int (fun _ _ => rfl)) pa_nil))) pa_nil))))), ?_⟩
    refine ⟨_, rfl, ?_⟩
    apply rep_ixT 0 h_parts_here rfl rfl
    intro u2 h1
    obtain rfl := of_v h1
    obtain ⟨g3, hM⟩ := hM
    refine ⟨_, rfl, g3, ?_⟩
    refine ⟨_, rfl, ?_⟩
    apply rep_ixT 2 h_parts_here rfl rfl
    intro u5 h4
    obtain rfl := of_v h4
    obtain ⟨g6, hM⟩ := hM
    refine ⟨_, rfl, g6, ?_⟩
    refine ⟨_, _, rfl, rfl, ?_⟩
    refine ⟨_, _, rfl, ?_⟩
    exact hQ (if ((x_parts_here.1.length : Int) + (x_parts_here.2.2.length : Int)) > (1 : Int) then ((x_parts_here.1.length : Int) + (x_parts_here.2.2.length : Int)) else (1 : Int)) _ _ hM hW.out rep_v
def M_line (x_parts_here : (Str × Str × Str)) (x_size : Int) (KM : Str → Prop) : Prop :=
  (∃ fu1, whileC (fun (s2 : Str) (k3 k4 : Str → Prop) => (s2.length ≤ sizeLine ∧ (if (decide ((s2.length : Int) < x_size)) = true then ((s2.length + x_parts_here.2.1.length ≤ sizeLine) ∧ (k3 ((s2 ++ x_parts_here.2.1)))) else (k4 (s2))))) fu1 (("" : Str)) fun s15 => (x_parts_here.1.length ≤ sizeLine ∧ (x_parts_here.2.2.length ≤ sizeLine ∧ (s15.length ≤ sizeLine ∧ ((x_parts_here.1.length + (cutS s15 none (some ((x_size - (x_parts_here.1.length : Int)) - (x_parts_here.2.2.length : Int)))).length ≤ sizeLine) ∧ (((x_parts_here.1 ++ (cutS s15 none (some ((x_size - (x_parts_here.1.length : Int)) - (x_parts_here.2.2.length : Int))))).length + x_parts_here.2.2.length ≤ sizeLine) ∧ (KM ((x_parts_here.1 ++ (cutS s15 none (some ((x_size - (x_parts_here.1.length : Int)) - (x_parts_here.2.2.length : Int))))) ++ x_parts_here.2.2))))))))
def sp_line (A : Ad) : Sp := fun vs H Q _ => ∃ (ms : List Addr) (v_parts_here : V) (x_parts_here : (Str × Str × Str)) (x_size : Int) (KM : Str → Prop), vs = [v_parts_here, V.int x_size] ∧ Wd ms [] [] H H ∧ rep ms H (D.tup [(D.v (V.str x_parts_here.1)), (D.v (V.str x_parts_here.2.1)), (D.v (V.str x_parts_here.2.2))]) v_parts_here ∧ M_line x_parts_here x_size KM ∧ ∀ (r : Str) (u : V) (H1 : Hp), KM r → Ret [] H H1 → rep ms H1 (D.v (V.str r)) u → Q u H1
set_option maxHeartbeats 16000000 in
theorem ok_line {P : Program} {w : World} {K : PySem.W.Frag} {mg : Str → Option Value} {base : Heap} {A : Ad} (T : Txt K mg A) : FnOk P w K mg base CX0 1 A.a_line A.d_line ["_law_parts_here", "_law_size"] (sp_line A) := by
  refine T.F_line.ok sc_line (fun vs H Q E h => ?_) (fun cdv A_ outer s_ H_0 vs Q E hr h => ?_)
  · obtain ⟨ms, v_parts_here, x_parts_here, x_size, KM, rfl, _⟩ := h
    rfl
  · obtain ⟨ms, v_parts_here, x_parts_here, x_size, KM, rfl, hW, h_parts_here, hM, hQ⟩ := h
    unfold M_line at hM
    refine ⟨_, (pss_cons (ps_set (i := 2) sc_line.nd rfl (by first | exact Or.inl rfl | exact Or.inr rfl) pe_str) (pss_cons (ps_while PassesOwn.never (pt_up (pt_cmpR op_lt (pe_callB call_len_str (by rfl) T.z_len PySem.boot_len (pa_cons (pv 2) pa_nil)) (pv 1) (nomark _))) (pss_one (ps_set (i := 2) sc_line.nd rfl (by first | exact Or.inl rfl | exact Or.inr rfl) (pe_op op_add_str (pv 2) (pe_ix ix_tup (pv 0) pe_int (fun _ _ => rfl)))))) (pss_cons (ps_set (i := 3) sc_line.nd rfl (by first | exact Or.inl rfl | exact Or.inr rfl) (pe_op op_sub (pe_op op_sub (pv 1) (pe_callB call_len_str (by rfl) T.z_len PySem.boot_len (pa_cons (pe_ix ix_tup (pv 0) pe_int (fun _ _ => rfl)) pa_nil))) (pe_callB call_len_str (by rfl) T.z_len PySem.boot_len (pa_cons (pe_ix ix_tup (pv 0) pe_int (fun _ _ => rfl)) pa_nil)))) (pss_one (ps_ret (pe_op op_add_str (pe_op op_add_str (pe_ix ix_tup (pv 0) pe_int (fun _ _ => rfl)) (pe_slice sl_str (pv 2) po_none (po_some (pv 3)))) (pe_ix ix_tup (pv 0) pe_int (fun _ _ => rfl)))))))), ?_⟩
    obtain ⟨fu1, hM⟩ := hM
    refine while_C (S := Str) (cs := fun _ => []) (fun (s : Str) σ_ _ => σ_ = [some v_parts_here, some (V.int x_size), some (V.str s), none]) (("" : Str)) hW hM rfl ?_ ?_ ?_
    · skip
      rintro s2 k3 k4 _ H10 hW hk5 rfl hM Nx6 Ex7 hN8 hE9
      have h_parts_here := rep_keep hk5 h_parts_here
      refine ⟨_, ?_, fun _ _ h_ => h_⟩
      refine ⟨_, rfl, ?_⟩
      obtain ⟨g11, hM⟩ := hM
      refine ⟨_, rfl, g11, ?_⟩
      refine ⟨_, rfl, ?_⟩
      refine ⟨_, _, rfl, rfl, ?_⟩
      refine ⟨_, rfl, ?_⟩
      refine ite3 hM (fun hM => ?_) (fun hM => ?_)
      · skip
        refine ⟨_, rfl, ?_⟩
        refine ⟨_, rfl, ?_⟩
        apply rep_ixT 1 h_parts_here rfl rfl
        intro u13 h12
        obtain rfl := of_v h12
        obtain ⟨g14, hM⟩ := hM
        refine ⟨_, _, rfl, rfl, g14, ?_⟩
        exact hN8 ((s2 ++ x_parts_here.2.1)) _ _ hM hW hk5 rfl
      · skip
        exact hE9 (s2) _ _ hM hW hk5 rfl
    · skip
      rintro s15 _ H17 hM hW hk16 rfl
      have h_parts_here := rep_keep hk16 h_parts_here
      refine ⟨_, rfl, ?_⟩
      refine ⟨_, rfl, ?_⟩
      apply rep_ixT 0 h_parts_here rfl rfl
      intro u19 h18
      obtain rfl := of_v h18
      obtain ⟨g20, hM⟩ := hM
      refine ⟨_, rfl, g20, ?_⟩
      refine ⟨_, _, rfl, rfl, ?_⟩
      refine ⟨_, rfl, ?_⟩
      apply rep_ixT 2 h_parts_here rfl rfl
      intro u22 h21
      obtain rfl := of_v h21
      obtain ⟨g23, hM⟩ := hM
      refine ⟨_, rfl, g23, ?_⟩
      refine ⟨_, _, rfl, rfl, ?_⟩
      refine ⟨_, rfl, ?_⟩
      apply rep_ixT 0 h_parts_here rfl rfl
      intro u25 h24
      obtain rfl := of_v h24
      refine ⟨_, rfl, ?_⟩
      refine ⟨_, rfl, ?_⟩
      refine ⟨_, rfl, ?_⟩
      obtain ⟨g26, hM⟩ := hM
      refine ⟨_, rfl, g26, ?_⟩
      obtain ⟨g27, hM⟩ := hM
      refine ⟨_, _, rfl, rfl, g27, ?_⟩
      refine ⟨_, rfl, ?_⟩
      apply rep_ixT 2 h_parts_here rfl rfl
      intro u29 h28
      obtain rfl := of_v h28
      obtain ⟨g30, hM⟩ := hM
      refine ⟨_, _, rfl, rfl, g30, ?_⟩
      exact hQ ((x_parts_here.1 ++ (cutS s15 none (some ((x_size - (x_parts_here.1.length : Int)) - (x_parts_here.2.2.length : Int))))) ++ x_parts_here.2.2) _ _ hM hW.out rep_v
    · skip
      exact fun _ _ _ _ m_ ⟨Q_, h_, m1_⟩ => ⟨Q_, h_, fun b_ H_ q_ => m_ b_ H_ (m1_ b_ H_ q_)⟩
def M_is_integer (x_value : Int) (KM : Bool → Prop) : Prop :=
  (KM (!false))
def sp_is_integer (A : Ad) : Sp := fun vs H Q _ => ∃ (ms : List Addr) (x_value : Int) (KM : Bool → Prop), vs = [V.int x_value] ∧ Wd ms [] [] H H ∧ M_is_integer x_value KM ∧ ∀ (r : Bool) (u : V) (H1 : Hp), KM r → Ret [] H H1 → rep ms H1 (D.v (V.bl r)) u → Q u H1
set_option maxHeartbeats 16000000 in
theorem ok_is_integer {P : Program} {w : World} {K : PySem.W.Frag} {mg : Str → Option Value} {base : Heap} {A : Ad} (T : Txt K mg A) : FnOk P w K mg base CX0 1 A.a_is_integer A.d_is_integer ["value"] (sp_is_integer A) := by
  refine T.F_is_integer.ok sc_is_integer (fun vs H Q E h => ?_) (fun cdv A_ outer s_ H_0 vs Q E hr h => ?_)
  · obtain ⟨ms, x_value, KM, rfl, _⟩ := h
    rfl
  · obtain ⟨ms, x_value, KM, rfl, hW, hM, hQ⟩ := h
    unfold M_is_integer at hM
    refine ⟨_, (pss_one (ps_ret (pe_and (pe_callB call_isi (by rfl) T.z_isinstance (by decide +kernel) (pa_cons (pv 0) (pa_cons (pe_bltn (v := .ty "int") (by rfl) T.z_int (by decide +kernel) rfl) pa_nil))) (pe_one (pe_not (pe_callB call_isi (by rfl) T.z_isinstance (by decide +kernel) (pa_cons (pv 0) (pa_cons (pe_bltn (v := .ty "bool") (by rfl) T.z_bool (by decide +kernel) rfl) pa_nil)))))))), ?_⟩
    refine ⟨_, rfl, ?_⟩
    refine ⟨_, _, _, _, true, rfl, .ty _, .base (.int _), kit_ty (by decide +kernel), ?_⟩
    refine ⟨_, rfl, ?_⟩
    refine iteT ?_
    refine ⟨_, rfl, ?_⟩
    refine ⟨_, _, _, _, false, rfl, .ty _, .base (.int _), kit_ty (by decide +kernel), ?_⟩
    refine ⟨_, rfl, ?_⟩
    exact hQ (!false) _ _ hM hW.out rep_v
def M_Word_least (x_self : (Str × Str × Str)) (KM : Int → Prop) : Prop :=
  (x_self.1.length ≤ sizeLine ∧ (x_self.2.2.length ≤ sizeLine ∧ (KM (if ((x_self.1.length : Int) + (x_self.2.2.length : Int)) > (1 : Int) then ((x_self.1.length : Int) + (x_self.2.2.length : Int)) else (1 : Int)))))
def sp_Word_least (A : Ad) : Sp := fun vs H Q _ => ∃ (ms : List Addr) (v_self : V) (x_self : (Str × Str × Str)) (KM : Int → Prop), vs = [v_self] ∧ Wd ms [] [] H H ∧ rep ms H (eWord A x_self) v_self ∧ M_Word_least x_self KM ∧ ∀ (r : Int) (u : V) (H1 : Hp), KM r → Ret [] H H1 → rep ms H1 (D.v (V.int r)) u → Q u H1
set_option maxHeartbeats 16000000 in
theorem ok_Word_least {P : Program} {w : World} {K : PySem.W.Frag} {mg : Str → Option Value} {base : Heap} {A : Ad} (T : Txt K mg A) : FnOk P w K mg base CX0 1 A.a_Word_least A.d_Word_least ["self"] (sp_Word_least A) := by
  refine T.F_Word_least.ok sc_Word_least (fun vs H Q E h => ?_) (fun cdv A_ outer s_ H_0 vs Q E hr h => ?_)
  · obtain ⟨ms, v_self, x_self, KM, rfl, _⟩ := h
    rfl
  · obtain ⟨ms, v_self, x_self, KM, rfl, hW, h_self, hM, hQ⟩ := h
    unfold M_Word_least at hM
    refine ⟨_, (pss_one (ps_ret (pe_callB (call_max2 rfl) (by rfl) T.z_max (by decide +kernel) (pa_cons pe_int (pa_cons (pe_op op_add (pe_callB call_len_str (by rfl) T.z_len PySem.boot_len (pa_cons (pe_fld (pv 0) rfl) pa_nil)) (pe_callB call_len_str (by rfl) T.z_len PySem.boot_len (pa_cons (pe_fld (pv 0) rfl) pa_nil))) pa_nil))))), ?_⟩
    refine ⟨_, rfl, ?_⟩
    apply rep_fld (j := 0) h_self T.cl_Word T.na_Word__head nd_Word rfl rfl
    intro u2 h1
    obtain rfl := of_v h1
    obtain ⟨g3, hM⟩ := hM
    refine ⟨_, rfl, g3, ?_⟩
    refine ⟨_, rfl, ?_⟩
    apply rep_fld (j := 2) h_self T.cl_Word T.na_Word__tail nd_Word rfl rfl
    intro u5 h4
    obtain rfl := of_v h4
    obtain ⟨g6, hM⟩ := hM
    refine ⟨_, rfl, g6, ?_⟩
    refine ⟨_, _, rfl, rfl, ?_⟩
    refine ⟨_, _, rfl, ?_⟩
    exact hQ (if ((x_self.1.length : Int) + (x_self.2.2.length : Int)) > (1 : Int) then ((x_self.1.length : Int) + (x_self.2.2.length : Int)) else (1 : Int)) _ _ hM hW.out rep_v
/-! ### a word is made -/
def M_Word_init (h m t : Str) : Prop := M_check_part h fun _ => M_check_part m fun _ => if decide (V.str m = V.str ("" : Str)) = true then False else M_check_part t fun _ => True
def sp_Word_init (A : Ad) : Sp := fun vs H Q _ => ∃ (p dx : Addr) (h m t : Str), vs = [.ref p, .str h, .str m, .str t] ∧ H p = some (.ins A.c_Word dx []) ∧ M_Word_init h m t ∧
  ∀ H1 : Hp, (∀ a o, a ≠ p → H a = some o → H1 a = some o) → H1 p = some (.ins A.c_Word dx (ns_Word.zip [.str h, .str m, .str t])) → (∀ a, H a ≠ none → H1 a ≠ none) → Q .non H1
theorem put3 {a b c : Str} {x y z : V} (h1 : ¬ a = b) (h2 : ¬ a = c) (h3 : ¬ b = c) : putF c z (putF b y (putF a x [])) = [(a, x), (b, y), (c, z)] := by
  simp [putF, h1, h2, h3]
theorem ok_Word_init {P : Program} {w : World} {K : PySem.W.Frag} {mg : Str → Option Value} {base : Heap} {A : Ad} (T : Txt K mg A) : FnOk P w K mg base CX0 3 A.a_Word_init A.d_Word_init ["self", "head", "middle", "tail"] (sp_Word_init A) := by
  refine T.F_Word_init.ok sc_Word_init (fun vs H Q E h => ?_) (fun cdv A_ outer s_ H_0 vs Q E hr h => ?_)
  · obtain ⟨p, dx, hd, md, tl, rfl, _⟩ := h
    rfl
  · obtain ⟨p, dx, hd, md, tl, rfl, hp, hM, hQ⟩ := h
    have wd : ∀ H : Hp, Wd [] [] [] H H := fun H => ⟨fun _ _ _ h => h, fun _ h => h, fun _ h => absurd h List.not_mem_nil, fun _ h => absurd h List.not_mem_nil, fun _ h => absurd h List.not_mem_nil, fun _ h => absurd h List.not_mem_nil⟩
    refine ⟨_, pss_cons (ps_expr (pe_call (ok_check_part T) (hr.mono (by decide)) (by rfl) T.g_check_part T.F_check_part.kp T.b_check_part .nil pass0 (pa_cons (pv 1) pa_nil)))
      (pss_cons (ps_expr (pe_call (ok_check_part T) (hr.mono (by decide)) (by rfl) T.g_check_part T.F_check_part.kp T.b_check_part .nil pass0 (pa_cons (pv 2) pa_nil)))
      (pss_cons (ps_if (pt_cmpR op_eq (pv 2) pe_str (nomark _)) (pss_one ps_never) pss_nil)
      (pss_cons (ps_expr (pe_call (ok_check_part T) (hr.mono (by decide)) (by rfl) T.g_check_part T.F_check_part.kp T.b_check_part .nil pass0 (pa_cons (pv 3) pa_nil)))
      (pss_cons (ps_fld (pv 0) (pv 1) rfl) (pss_cons (ps_fld (pv 0) (pv 2) rfl) (pss_one (ps_fld (pv 0) (pv 3) rfl))))))), ?_⟩
    refine ⟨_, rfl, [], hd, _, rfl, wd _, hM, fun r1 u1 H1 hM e1 _ => ?_⟩
    refine ⟨_, rfl, [], md, _, rfl, wd _, hM, fun r2 u2 H2 hM e2 _ => ?_⟩
    refine ⟨_, rfl, rfl, _, rfl, ?_⟩
    refine ite3 hM (fun hM => hM) (fun hM => ?_)
    refine ⟨_, rfl, [], tl, _, rfl, wd _, hM, fun r3 u3 H3 hM e3 _ => ?_⟩
    have hp3 : H3 p = some (.ins A.c_Word dx []) := e3.keep (e2.keep (e1.keep hp))
    refine ⟨_, rfl, _, rfl, p, A.c_Word, dx, _, rfl, hp3, T.cl_Word, T.na_Word__head, (by decide), ?_⟩
    refine ⟨_, rfl, _, rfl, p, A.c_Word, dx, _, rfl, upd_same, T.cl_Word, T.na_Word__middle, (by show 1 < 1000; decide), ?_⟩
    refine ⟨_, rfl, _, rfl, p, A.c_Word, dx, _, rfl, upd_same, T.cl_Word, T.na_Word__tail, ?_, ?_⟩
    · show (putF "_middle" _ (putF "_head" _ [])).length < 1000
      exact Nat.lt_of_le_of_lt (length_putF _ _ _) (Nat.lt_of_le_of_lt (Nat.add_le_add_right (length_putF _ _ _) 1) (by decide))
    · refine hQ _ (fun a o n h => ?_) ?_ (fun a h => ?_)
      · rw [upd_ne n, upd_ne n, upd_ne n]
        exact e3.keep (e2.keep (e1.keep h))
      · rw [upd_same]
        exact congrArg (fun l => some (HO.ins A.c_Word dx l)) (put3 (by decide +kernel) (by decide +kernel) (by decide +kernel))
      · by_cases e : a = p
        · rw [e, upd_same]
          exact fun z => nomatch z
        · rw [upd_ne e, upd_ne e, upd_ne e]
          exact e3.grow a (e2.grow a (e1.grow a h))
theorem make_Word {ms ps : List Addr} {cs : List (Addr × List V)} {H0 H : Hp} {A : Ad} {h m t : Str} {R : Prop} {Q : Addr → Hp → Prop} {E : XK} (hW : Wd ms ps cs H0 H) (hM : M_Word_init h m t ∧ R)
    (k : ∀ (x : Addr) (H1 : Hp), R → Ext H H1 → rep ms H1 (eWord A (h, m, t)) (.ref x) → Q x H1) :
    ∀ x dx, H x = none → H dx = none → dx ≠ x → sp_Word_init A (.ref x :: ([.str h, .str m, .str t] ++ [])) (upd (upd H dx (.own x)) x (.ins A.c_Word dx [])) (fun v H2 => v = .non ∧ Q x H2) E := by
  intro x dx nx ndx ne
  refine ⟨x, dx, h, m, t, rfl, upd_same, hM.1, fun H1 h1 h2 h3 => ⟨rfl, k x H1 hM.2 ⟨fun a o _ ha => ?_, fun _ z => absurd z List.not_mem_nil, fun a ha => ?_⟩ ?_⟩⟩
  · have n1 : a ≠ x := ne_of_none ha nx
    exact h1 a o n1 (by rw [upd_ne n1, upd_ne (ne_of_none ha ndx)]; exact ha)
  · refine h3 a ?_
    by_cases e : a = x
    · rw [e, upd_same]
      exact fun z => nomatch z
    · rw [upd_ne e]
      by_cases e2 : a = dx
      · rw [e2, upd_same]
        exact fun z => nomatch z
      · rw [upd_ne e2]
        exact ha
  · simp only [rep]
    exact ⟨x, dx, _, rfl, fun z => hW.tr x z nx, h2, rfl, repL_cons rep_v (repL_cons rep_v (repL_cons rep_v repL_nil))⟩

def M_check_places (x_word : (Str × Str × Str)) (x_places : Int) (KM : Unit → Prop) : Prop :=
  (M_is_integer x_places fun r1 => (if (!r1) = true then False else (M_Word_least x_word fun r7 => (if (decide (x_places < r7)) = true then False else (KM ())))))
def sp_check_places (A : Ad) : Sp := fun vs H Q _ => ∃ (ms : List Addr) (v_word : V) (x_word : (Str × Str × Str)) (x_places : Int) (KM : Unit → Prop), vs = [v_word, V.int x_places] ∧ Wd ms [] [] H H ∧ rep ms H (eWord A x_word) v_word ∧ M_check_places x_word x_places KM ∧ ∀ (r : Unit) (u : V) (H1 : Hp), KM r → Ret [] H H1 → rep ms H1 (D.v V.non) u → Q u H1
set_option maxHeartbeats 16000000 in
theorem ok_check_places {P : Program} {w : World} {K : PySem.W.Frag} {mg : Str → Option Value} {base : Heap} {A : Ad} (T : Txt K mg A) : FnOk P w K mg base CX0 3 A.a_check_places A.d_check_places ["word", "places"] (sp_check_places A) := by
  refine T.F_check_places.ok sc_check_places (fun vs H Q E h => ?_) (fun cdv A_ outer s_ H_0 vs Q E hr h => ?_)
  · obtain ⟨ms, v_word, x_word, x_places, KM, rfl, _⟩ := h
    rfl
  · obtain ⟨ms, v_word, x_word, x_places, KM, rfl, hW, h_word, hM, hQ⟩ := h
    unfold M_check_places at hM
    refine ⟨_, (pss_one (ps_if (PW.pt (pw_or (pt_not (pt_val (pe_call (ok_is_integer T) (hr.mono (by decide)) (by rfl) T.g_is_integer T.F_is_integer.kp T.b_is_integer .nil pass0 (pa_cons (pv 1) pa_nil)))) (pw_or1 (pt_cmpR op_lt (pv 1) (pe_prop (pv 0) T.cl_Word T.p_Word_least (ok_Word_least T) (hr.mono (by decide)) T.b_Word_least .nil pass0 rfl) (nomark _))))) (pss_one ps_never) pss_nil)), ?_⟩
    refine ⟨_, rfl, ?_⟩
    refine ⟨ms, x_places, _, rfl, hW.enter0, hM, fun r1 u4 H5 hM e3 h2 => ?_⟩
    replace h_word := rep_ext e3 h_word
    replace hW := hW.ret0 e3
    obtain rfl := of_v h2
    refine ⟨_, rfl, ?_⟩
    refine ite3 hM (fun hM => ?_) (fun hM => ?_)
    · skip
      refine iteT ?_
      exact hM
    · skip
      refine ⟨_, rfl, ?_⟩
      refine ⟨_, rfl, ?_⟩
      apply rep_prop h_word
      intro _ h6
      refine ⟨ms, _, x_word, _, rfl, hW.enter0, h6, hM, fun r7 u10 H11 hM e9 h8 => ?_⟩
      replace h_word := rep_ext e9 h_word
      replace hW := hW.ret0 e9
      obtain rfl := of_v h8
      refine ⟨_, _, rfl, rfl, ?_⟩
      refine ⟨_, rfl, ?_⟩
      refine ite3 hM (fun hM => ?_) (fun hM => ?_)
      · skip
        exact hM
      · skip
        exact hQ () _ _ hM hW.out rep_v
def M_Word_mark (x_self : (Str × Str × Str)) (x_places : Int) (x_place : Int) (KM : Str → Prop) : Prop :=
  (M_check_places x_self x_places fun r1 => (M_is_integer x_place fun r6 => (if (!r6) = true then False else (if (decide (x_place < (1 : Int))) = true then False else (if (decide (x_places < x_place)) = true then False else (x_self.1.length ≤ sizeLine ∧ (if (decide (x_place ≤ (x_self.1.length : Int))) = true then (x_self.1.length ≤ sizeLine ∧ ∃ c17, atI x_self.1.cps.toList (x_place - (1 : Int)) = some c17 ∧ (KM (Str.mk #[c17]))) else (x_self.2.2.length ≤ sizeLine ∧ (if (decide ((x_places - (x_self.2.2.length : Int)) < x_place)) = true then (x_self.2.2.length ≤ sizeLine ∧ ∃ c24, atI x_self.2.2.cps.toList ((x_place - (x_places - (x_self.2.2.length : Int))) - (1 : Int)) = some c24 ∧ (KM (Str.mk #[c24]))) else (x_self.1.length ≤ sizeLine ∧ (x_self.2.1.length ≤ sizeLine ∧ (0 < (x_self.2.1.length : Int) ∧ (x_self.2.1.length ≤ sizeLine ∧ ∃ c35, atI x_self.2.1.cps.toList (((x_place - (x_self.1.length : Int)) - (1 : Int)) % (x_self.2.1.length : Int)) = some c35 ∧ (KM (Str.mk #[c35])))))))))))))))
def sp_Word_mark (A : Ad) : Sp := fun vs H Q _ => ∃ (ms : List Addr) (v_self : V) (x_self : (Str × Str × Str)) (x_places : Int) (x_place : Int) (KM : Str → Prop), vs = [v_self, V.int x_places, V.int x_place] ∧ Wd ms [] [] H H ∧ rep ms H (eWord A x_self) v_self ∧ M_Word_mark x_self x_places x_place KM ∧ ∀ (r : Str) (u : V) (H1 : Hp), KM r → Ret [] H H1 → rep ms H1 (D.v (V.str r)) u → Q u H1
set_option maxHeartbeats 16000000 in
theorem ok_Word_mark {P : Program} {w : World} {K : PySem.W.Frag} {mg : Str → Option Value} {base : Heap} {A : Ad} (T : Txt K mg A) : FnOk P w K mg base CX0 4 A.a_Word_mark A.d_Word_mark ["self", "places", "place"] (sp_Word_mark A) := by
  refine T.F_Word_mark.ok sc_Word_mark (fun vs H Q E h => ?_) (fun cdv A_ outer s_ H_0 vs Q E hr h => ?_)
  · obtain ⟨ms, v_self, x_self, x_places, x_place, KM, rfl, _⟩ := h
    rfl
  · obtain ⟨ms, v_self, x_self, x_places, x_place, KM, rfl, hW, h_self, hM, hQ⟩ := h
    unfold M_Word_mark at hM
    refine ⟨_, (pss_cons (ps_expr (pe_call (ok_check_places T) (hr.mono (by decide)) (by rfl) T.g_check_places T.F_check_places.kp T.b_check_places .nil pass0 (pa_cons (pv 0) (pa_cons (pv 1) pa_nil)))) (pss_cons (ps_if (PW.pt (pw_or (pt_not (pt_val (pe_call (ok_is_integer T) (hr.mono (by decide)) (by rfl) T.g_is_integer T.F_is_integer.kp T.b_is_integer .nil pass0 (pa_cons (pv 2) pa_nil)))) (pw_or (pt_cmpR op_lt (pv 2) pe_int (nomark _)) (pw_or1 (pt_cmpR op_gt (pv 2) (pv 1) (nomark _)))))) (pss_one ps_never) pss_nil) (pss_cons (ps_if (pt_cmpR op_le (pv 2) (pe_callB call_len_str (by rfl) T.z_len PySem.boot_len (pa_cons (pe_fld (pv 0) rfl) pa_nil)) (nomark _)) (pss_one (ps_ret (pe_ix ix_str (pe_fld (pv 0) rfl) (pe_op op_sub (pv 2) pe_int) (fun _ _ => rfl)))) pss_nil) (pss_cons (ps_set (i := 3) sc_Word_mark.nd rfl (by first | exact Or.inl rfl | exact Or.inr rfl) (pe_op op_sub (pv 1) (pe_callB call_len_str (by rfl) T.z_len PySem.boot_len (pa_cons (pe_fld (pv 0) rfl) pa_nil)))) (pss_cons (ps_if (pt_cmpR op_gt (pv 2) (pv 3) (nomark _)) (pss_one (ps_ret (pe_ix ix_str (pe_fld (pv 0) rfl) (pe_op op_sub (pe_op op_sub (pv 2) (pv 3)) pe_int) (fun _ _ => rfl)))) pss_nil) (pss_one (ps_ret (pe_ix ix_str (pe_fld (pv 0) rfl) (pe_op op_mod (pe_op op_sub (pe_op op_sub (pv 2) (pe_callB call_len_str (by rfl) T.z_len PySem.boot_len (pa_cons (pe_fld (pv 0) rfl) pa_nil))) pe_int) (pe_callB call_len_str (by rfl) T.z_len PySem.boot_len (pa_cons (pe_fld (pv 0) rfl) pa_nil))) (fun _ _ => rfl))))))))), ?_⟩
    refine ⟨_, rfl, ?_⟩
    refine ⟨_, rfl, ?_⟩
    refine ⟨ms, _, x_self, x_places, _, rfl, hW.enter0, h_self, hM, fun r1 u4 H5 hM e3 h2 => ?_⟩
    replace h_self := rep_ext e3 h_self
    replace hW := hW.ret0 e3
    obtain rfl := of_v h2
    refine ⟨_, rfl, ?_⟩
    refine ⟨ms, x_place, _, rfl, hW.enter0, hM, fun r6 u9 H10 hM e8 h7 => ?_⟩
    replace h_self := rep_ext e8 h_self
    replace hW := hW.ret0 e8
    obtain rfl := of_v h7
    refine ⟨_, rfl, ?_⟩
    refine ite3 hM (fun hM => ?_) (fun hM => ?_)
    · skip
      refine iteT ?_
      exact hM
    · skip
      refine ⟨_, rfl, ?_⟩
      refine ⟨_, _, rfl, rfl, ?_⟩
      refine ⟨_, rfl, ?_⟩
      refine ite3 hM (fun hM => ?_) (fun hM => ?_)
      · skip
        refine iteT ?_
        exact hM
      · skip
        refine ⟨_, rfl, ?_⟩
        refine ⟨_, rfl, ?_⟩
        refine ⟨_, _, rfl, rfl, ?_⟩
        refine ⟨_, rfl, ?_⟩
        refine ite3 hM (fun hM => ?_) (fun hM => ?_)
        · skip
          exact hM
        · skip
          refine ⟨_, rfl, ?_⟩
          refine ⟨_, rfl, ?_⟩
          apply rep_fld (j := 0) h_self T.cl_Word T.na_Word__head nd_Word rfl rfl
          intro u12 h11
          obtain rfl := of_v h11
          obtain ⟨g13, hM⟩ := hM
          refine ⟨_, rfl, g13, ?_⟩
          refine ⟨_, _, rfl, rfl, ?_⟩
          refine ⟨_, rfl, ?_⟩
          refine ite3 hM (fun hM => ?_) (fun hM => ?_)
          · skip
            refine ⟨_, rfl, ?_⟩
            apply rep_fld (j := 0) h_self T.cl_Word T.na_Word__head nd_Word rfl rfl
            intro u15 h14
            obtain rfl := of_v h14
            refine ⟨_, rfl, ?_⟩
            refine ⟨_, _, rfl, rfl, ?_⟩
            obtain ⟨g16, hM⟩ := hM
            obtain ⟨c17, c17h, hM⟩ := hM
            refine ⟨_, _, _, rfl, rfl, g16, c17h, ?_⟩
            exact hQ (Str.mk #[c17]) _ _ hM hW.out rep_v
          · skip
            refine ⟨_, rfl, ?_⟩
            refine ⟨_, rfl, ?_⟩
            apply rep_fld (j := 2) h_self T.cl_Word T.na_Word__tail nd_Word rfl rfl
            intro u19 h18
            obtain rfl := of_v h18
            obtain ⟨g20, hM⟩ := hM
            refine ⟨_, rfl, g20, ?_⟩
            refine ⟨_, _, rfl, rfl, ?_⟩
            refine ⟨_, rfl, ?_⟩
            refine ⟨_, rfl, ?_⟩
            refine ⟨_, _, rfl, rfl, ?_⟩
            refine ⟨_, rfl, ?_⟩
            refine ite3 hM (fun hM => ?_) (fun hM => ?_)
            · skip
              refine ⟨_, rfl, ?_⟩
              apply rep_fld (j := 2) h_self T.cl_Word T.na_Word__tail nd_Word rfl rfl
              intro u22 h21
              obtain rfl := of_v h21
              refine ⟨_, rfl, ?_⟩
              refine ⟨_, rfl, ?_⟩
              refine ⟨_, _, rfl, rfl, ?_⟩
              refine ⟨_, _, rfl, rfl, ?_⟩
              obtain ⟨g23, hM⟩ := hM
              obtain ⟨c24, c24h, hM⟩ := hM
              refine ⟨_, _, _, rfl, rfl, g23, c24h, ?_⟩
              exact hQ (Str.mk #[c24]) _ _ hM hW.out rep_v
            · skip
              refine ⟨_, rfl, ?_⟩
              apply rep_fld (j := 1) h_self T.cl_Word T.na_Word__middle nd_Word rfl rfl
              intro u26 h25
              obtain rfl := of_v h25
              refine ⟨_, rfl, ?_⟩
              refine ⟨_, rfl, ?_⟩
              apply rep_fld (j := 0) h_self T.cl_Word T.na_Word__head nd_Word rfl rfl
              intro u28 h27
              obtain rfl := of_v h27
              obtain ⟨g29, hM⟩ := hM
              refine ⟨_, rfl, g29, ?_⟩
              refine ⟨_, _, rfl, rfl, ?_⟩
              refine ⟨_, _, rfl, rfl, ?_⟩
              refine ⟨_, rfl, ?_⟩
              apply rep_fld (j := 1) h_self T.cl_Word T.na_Word__middle nd_Word rfl rfl
              intro u31 h30
              obtain rfl := of_v h30
              obtain ⟨g32, hM⟩ := hM
              refine ⟨_, rfl, g32, ?_⟩
              obtain ⟨g33, hM⟩ := hM
              refine ⟨_, _, rfl, rfl, g33, ?_⟩
              obtain ⟨g34, hM⟩ := hM
              obtain ⟨c35, c35h, hM⟩ := hM
              refine ⟨_, _, _, rfl, rfl, g34, c35h, ?_⟩
              exact hQ (Str.mk #[c35]) _ _ hM hW.out rep_v
def M_homes_said (x_middle : Str) (x_many : Int) (KM : Int → Prop) : Prop :=
  (x_middle.length ≤ sizeLine ∧ (CDiv x_many (x_middle.length : Int) ∧ (CMulW (x_many / (x_middle.length : Int)) (Txt.count x_middle ("h" : Str) : Int) ∧ (x_middle.length ≤ sizeLine ∧ (KM (((x_many / (x_middle.length : Int)) * (Txt.count x_middle ("h" : Str) : Int)) + (Txt.count (cutS x_middle none (some (x_many % (x_middle.length : Int)))) ("h" : Str) : Int)))))))
def sp_homes_said (A : Ad) : Sp := fun vs H Q _ => ∃ (ms : List Addr) (x_middle : Str) (x_many : Int) (KM : Int → Prop), vs = [V.str x_middle, V.int x_many] ∧ Wd ms [] [] H H ∧ M_homes_said x_middle x_many KM ∧ ∀ (r : Int) (u : V) (H1 : Hp), KM r → Ret [] H H1 → rep ms H1 (D.v (V.int r)) u → Q u H1
set_option maxHeartbeats 16000000 in
theorem ok_homes_said {P : Program} {w : World} {K : PySem.W.Frag} {mg : Str → Option Value} {base : Heap} {A : Ad} (T : Txt K mg A) : FnOk P w K mg base CX0 1 A.a_homes_said A.d_homes_said ["middle", "many"] (sp_homes_said A) := by
  refine T.F_homes_said.ok sc_homes_said (fun vs H Q E h => ?_) (fun cdv A_ outer s_ H_0 vs Q E hr h => ?_)
  · obtain ⟨ms, x_middle, x_many, KM, rfl, _⟩ := h
    rfl
  · obtain ⟨ms, x_middle, x_many, KM, rfl, hW, hM, hQ⟩ := h
    unfold M_homes_said at hM
    refine ⟨_, (pss_cons (ps_asg (pe_callB call_divmod (by rfl) T.z_divmod (by decide +kernel) (pa_cons (pv 1) (pa_cons (pe_callB call_len_str (by rfl) T.z_len PySem.boot_len (pa_cons (pv 0) pa_nil)) pa_nil))) (pg_tup rfl (pgs_cons (pg_name (i := 2) sc_homes_said.nd rfl (by first | exact Or.inl rfl | exact Or.inr rfl)) (pgs_cons (pg_name (i := 3) sc_homes_said.nd rfl (by first | exact Or.inl rfl | exact Or.inr rfl)) pgs_nil)))) (pss_one (ps_ret (pe_op op_add (pe_op op_mulW (pv 2) (pe_m1 PySem.F.slot_str_count PySem.F.type_str_count mt_count (pv 0) pe_str)) (pe_m1 PySem.F.slot_str_count PySem.F.type_str_count mt_count (pe_slice sl_str (pv 0) po_none (po_some (pv 3))) pe_str))))), ?_⟩
    refine ⟨_, rfl, ?_⟩
    refine ⟨_, rfl, ?_⟩
    obtain ⟨g1, hM⟩ := hM
    refine ⟨_, rfl, g1, ?_⟩
    obtain ⟨g2, hM⟩ := hM
    refine ⟨_, _, rfl, g2, ?_⟩
    intro p3 n7
    have e4 := Ext.new (H := H_0) (o := (HO.tup [V.int (x_many / (x_middle.length : Int)), V.int (x_many % (x_middle.length : Int))])) n7
    have hp5 : upd H_0 p3 (HO.tup [V.int (x_many / (x_middle.length : Int)), V.int (x_many % (x_middle.length : Int))]) p3 = some (HO.tup [V.int (x_many / (x_middle.length : Int)), V.int (x_many % (x_middle.length : Int))]) := upd_same
    generalize upd H_0 p3 (HO.tup [V.int (x_many / (x_middle.length : Int)), V.int (x_many % (x_middle.length : Int))]) = H8 at e4 hp5 ⊢
    have h6 : rep ms _ (D.tup [D.v (V.int (x_many / (x_middle.length : Int))), D.v (V.int (x_many % (x_middle.length : Int)))]) (.ref p3) := rep_tup_mk hW n7 e4 hp5 (repL_cons rep_v (repL_cons rep_v repL_nil))
    replace hW := hW.ret0 e4
    apply rep_gtup h6 rfl
    intro vs9 hv10
    obtain ⟨u11, us12, rfl, h13, hv14⟩ := repL_uncons hv10
    obtain rfl := of_v h13
    obtain ⟨u15, us16, rfl, h17, hv18⟩ := repL_uncons hv14
    obtain rfl := of_v h17
    obtain rfl := repL_empty hv18
    refine ⟨_, _, rfl, ⟨_, _, rfl, ⟨rfl, ?_⟩⟩⟩
    refine ⟨_, rfl, ?_⟩
    refine ⟨_, rfl, ?_⟩
    refine ⟨⟨_, rfl⟩, ?_⟩
    refine ⟨_, _, rfl, rfl, ?_⟩
    obtain ⟨g19, hM⟩ := hM
    refine ⟨_, _, rfl, rfl, g19, ?_⟩
    refine ⟨_, rfl, ?_⟩
    refine ⟨_, rfl, ?_⟩
    refine ⟨_, rfl, ?_⟩
    obtain ⟨g20, hM⟩ := hM
    refine ⟨_, rfl, g20, ?_⟩
    refine ⟨⟨_, rfl⟩, ?_⟩
    refine ⟨_, _, rfl, rfl, ?_⟩
    refine ⟨_, _, rfl, rfl, ?_⟩
    exact hQ (((x_many / (x_middle.length : Int)) * (Txt.count x_middle ("h" : Str) : Int)) + (Txt.count (cutS x_middle none (some (x_many % (x_middle.length : Int)))) ("h" : Str) : Int)) _ _ hM hW.out rep_v
def M_Word_homes (x_self : (Str × Str × Str)) (x_places : Int) (x_place : Int) (KM : Int → Prop) : Prop :=
  (M_check_places x_self x_places fun r1 => (M_is_integer x_place fun r6 => (if (!r6) = true then False else (if (decide (x_place < (0 : Int))) = true then False else (if (decide (x_places < x_place)) = true then False else (x_self.1.length ≤ sizeLine ∧ (x_self.2.2.length ≤ sizeLine ∧ (x_self.1.length ≤ sizeLine ∧ (x_self.2.2.length ≤ sizeLine ∧ (M_homes_said x_self.2.1 (if ((if (x_places - (x_self.2.2.length : Int)) < x_place then (x_places - (x_self.2.2.length : Int)) else x_place) - (x_self.1.length : Int)) > (0 : Int) then ((if (x_places - (x_self.2.2.length : Int)) < x_place then (x_places - (x_self.2.2.length : Int)) else x_place) - (x_self.1.length : Int)) else (0 : Int)) fun r25 => (KM (((Txt.count (cutS x_self.1 none (some x_place)) ("h" : Str) : Int) + r25) + (Txt.count (cutS x_self.2.2 none (some (if (x_place - (x_places - (x_self.2.2.length : Int))) > (0 : Int) then (x_place - (x_places - (x_self.2.2.length : Int))) else (0 : Int)))) ("h" : Str) : Int)))))))))))))
def sp_Word_homes (A : Ad) : Sp := fun vs H Q _ => ∃ (ms : List Addr) (v_self : V) (x_self : (Str × Str × Str)) (x_places : Int) (x_place : Int) (KM : Int → Prop), vs = [v_self, V.int x_places, V.int x_place] ∧ Wd ms [] [] H H ∧ rep ms H (eWord A x_self) v_self ∧ M_Word_homes x_self x_places x_place KM ∧ ∀ (r : Int) (u : V) (H1 : Hp), KM r → Ret [] H H1 → rep ms H1 (D.v (V.int r)) u → Q u H1
set_option maxHeartbeats 16000000 in
theorem ok_Word_homes {P : Program} {w : World} {K : PySem.W.Frag} {mg : Str → Option Value} {base : Heap} {A : Ad} (T : Txt K mg A) : FnOk P w K mg base CX0 4 A.a_Word_homes A.d_Word_homes ["self", "places", "place"] (sp_Word_homes A) := by
  refine T.F_Word_homes.ok sc_Word_homes (fun vs H Q E h => ?_) (fun cdv A_ outer s_ H_0 vs Q E hr h => ?_)
  · obtain ⟨ms, v_self, x_self, x_places, x_place, KM, rfl, _⟩ := h
    rfl
  · obtain ⟨ms, v_self, x_self, x_places, x_place, KM, rfl, hW, h_self, hM, hQ⟩ := h
    unfold M_Word_homes at hM
    refine ⟨_, (pss_cons (ps_expr (pe_call (ok_check_places T) (hr.mono (by decide)) (by rfl) T.g_check_places T.F_check_places.kp T.b_check_places .nil pass0 (pa_cons (pv 0) (pa_cons (pv 1) pa_nil)))) (pss_cons (ps_if (PW.pt (pw_or (pt_not (pt_val (pe_call (ok_is_integer T) (hr.mono (by decide)) (by rfl) T.g_is_integer T.F_is_integer.kp T.b_is_integer .nil pass0 (pa_cons (pv 2) pa_nil)))) (pw_or (pt_cmpR op_lt (pv 2) pe_int (nomark _)) (pw_or1 (pt_cmpR op_gt (pv 2) (pv 1) (nomark _)))))) (pss_one ps_never) pss_nil) (pss_cons (ps_set (i := 3) sc_Word_homes.nd rfl (by first | exact Or.inl rfl | exact Or.inr rfl) (pe_callB call_len_str (by rfl) T.z_len PySem.boot_len (pa_cons (pe_fld (pv 0) rfl) pa_nil))) (pss_cons (ps_set (i := 4) sc_Word_homes.nd rfl (by first | exact Or.inl rfl | exact Or.inr rfl) (pe_op op_sub (pv 1) (pe_callB call_len_str (by rfl) T.z_len PySem.boot_len (pa_cons (pe_fld (pv 0) rfl) pa_nil)))) (pss_cons (ps_set (i := 5) sc_Word_homes.nd rfl (by first | exact Or.inl rfl | exact Or.inr rfl) (pe_m1 PySem.F.slot_str_count PySem.F.type_str_count mt_count (pe_slice sl_str (pe_fld (pv 0) rfl) po_none (po_some (pv 2))) pe_str)) (pss_cons (ps_set (i := 6) sc_Word_homes.nd rfl (by first | exact Or.inl rfl | exact Or.inr rfl) (pe_m1 PySem.F.slot_str_count PySem.F.type_str_count mt_count (pe_slice sl_str (pe_fld (pv 0) rfl) po_none (po_some (pe_callB (call_max2 rfl) (by rfl) T.z_max (by decide +kernel) (pa_cons pe_int (pa_cons (pe_op op_sub (pv 2) (pv 4)) pa_nil))))) pe_str)) (pss_one (ps_ret (pe_op op_add (pe_op op_add (pv 5) (pe_call (ok_homes_said T) (hr.mono (by decide)) (by rfl) T.g_homes_said T.F_homes_said.kp T.b_homes_said .nil pass0 (pa_cons (pe_fld (pv 0) rfl) (pa_cons (pe_callB (call_max2 rfl) (by rfl) T.z_max (by decide +kernel) (pa_cons pe_int (pa_cons (pe_op op_sub (pe_callB (call_min2 rfl) (by rfl) T.z_min (by decide +kernel) (pa_cons (pv 2) (pa_cons (pv 4) pa_nil))) (pv 3)) pa_nil))) pa_nil)))) (pv 6)))))))))), ?_⟩
    refine ⟨_, rfl, ?_⟩
    refine ⟨_, rfl, ?_⟩
    refine ⟨ms, _, x_self, x_places, _, rfl, hW.enter0, h_self, hM, fun r1 u4 H5 hM e3 h2 => ?_⟩
    replace h_self := rep_ext e3 h_self
    replace hW := hW.ret0 e3
    obtain rfl := of_v h2
    refine ⟨_, rfl, ?_⟩
    refine ⟨ms, x_place, _, rfl, hW.enter0, hM, fun r6 u9 H10 hM e8 h7 => ?_⟩
    replace h_self := rep_ext e8 h_self
    replace hW := hW.ret0 e8
    obtain rfl := of_v h7
    refine ⟨_, rfl, ?_⟩
    refine ite3 hM (fun hM => ?_) (fun hM => ?_)
    · skip
      refine iteT ?_
      exact hM
    · skip
      refine ⟨_, rfl, ?_⟩
      refine ⟨_, _, rfl, rfl, ?_⟩
      refine ⟨_, rfl, ?_⟩
      refine ite3 hM (fun hM => ?_) (fun hM => ?_)
      · skip
        refine iteT ?_
        exact hM
      · skip
        refine ⟨_, rfl, ?_⟩
        refine ⟨_, rfl, ?_⟩
        refine ⟨_, _, rfl, rfl, ?_⟩
        refine ⟨_, rfl, ?_⟩
        refine ite3 hM (fun hM => ?_) (fun hM => ?_)
        · skip
          exact hM
        · skip
          refine ⟨_, rfl, ?_⟩
          apply rep_fld (j := 0) h_self T.cl_Word T.na_Word__head nd_Word rfl rfl
          intro u12 h11
          obtain rfl := of_v h11
          obtain ⟨g13, hM⟩ := hM
          refine ⟨_, rfl, g13, ?_⟩
          refine ⟨_, rfl, ?_⟩
          refine ⟨_, rfl, ?_⟩
          apply rep_fld (j := 2) h_self T.cl_Word T.na_Word__tail nd_Word rfl rfl
          intro u15 h14
          obtain rfl := of_v h14
          obtain ⟨g16, hM⟩ := hM
          refine ⟨_, rfl, g16, ?_⟩
          refine ⟨_, _, rfl, rfl, ?_⟩
          refine ⟨_, rfl, ?_⟩
          apply rep_fld (j := 0) h_self T.cl_Word T.na_Word__head nd_Word rfl rfl
          intro u18 h17
          obtain rfl := of_v h17
          refine ⟨_, rfl, ?_⟩
          refine ⟨_, rfl, ?_⟩
          obtain ⟨g19, hM⟩ := hM
          refine ⟨_, rfl, g19, ?_⟩
          refine ⟨⟨_, rfl⟩, ?_⟩
          refine ⟨_, _, rfl, rfl, ?_⟩
          refine ⟨_, rfl, ?_⟩
          apply rep_fld (j := 2) h_self T.cl_Word T.na_Word__tail nd_Word rfl rfl
          intro u21 h20
          obtain rfl := of_v h20
          refine ⟨_, rfl, ?_⟩
          refine ⟨_, rfl, ?_⟩
          refine ⟨_, _, rfl, rfl, ?_⟩
          refine ⟨_, _, rfl, ?_⟩
          refine ⟨_, rfl, ?_⟩
          obtain ⟨g22, hM⟩ := hM
          refine ⟨_, rfl, g22, ?_⟩
          refine ⟨⟨_, rfl⟩, ?_⟩
          refine ⟨_, _, rfl, rfl, ?_⟩
          refine ⟨_, rfl, ?_⟩
          refine ⟨_, rfl, ?_⟩
          apply rep_fld (j := 1) h_self T.cl_Word T.na_Word__middle nd_Word rfl rfl
          intro u24 h23
          obtain rfl := of_v h23
          refine ⟨_, rfl, ?_⟩
          refine ⟨_, rfl, ?_⟩
          refine ⟨_, _, rfl, ?_⟩
          refine ⟨_, rfl, ?_⟩
          refine ⟨_, _, rfl, rfl, ?_⟩
          refine ⟨_, _, rfl, ?_⟩
          refine ⟨ms, x_self.2.1, (if ((if (x_places - (x_self.2.2.length : Int)) < x_place then (x_places - (x_self.2.2.length : Int)) else x_place) - (x_self.1.length : Int)) > (0 : Int) then ((if (x_places - (x_self.2.2.length : Int)) < x_place then (x_places - (x_self.2.2.length : Int)) else x_place) - (x_self.1.length : Int)) else (0 : Int)), _, rfl, hW.enter0, hM, fun r25 u28 H29 hM e27 h26 => ?_⟩
          replace h_self := rep_ext e27 h_self
          replace hW := hW.ret0 e27
          obtain rfl := of_v h26
          refine ⟨_, _, rfl, rfl, ?_⟩
          refine ⟨_, rfl, ?_⟩
          refine ⟨_, _, rfl, rfl, ?_⟩
          exact hQ (((Txt.count (cutS x_self.1 none (some x_place)) ("h" : Str) : Int) + r25) + (Txt.count (cutS x_self.2.2 none (some (if (x_place - (x_places - (x_self.2.2.length : Int))) > (0 : Int) then (x_place - (x_places - (x_self.2.2.length : Int))) else (0 : Int)))) ("h" : Str) : Int)) _ _ hM hW.out rep_v
def M_small_right (x_made : (Str × Str × Str)) (x_parts_here : (Str × Str × Str)) (KM : Bool → Prop) : Prop :=
  (M_least x_parts_here fun r1 => (M_least x_parts_here fun r6 => ((-(2 ^ 62) ≤ r1 ∧ r1 < 2 ^ 62 ∧ -(2 ^ 62) ≤ (r6 + (17 : Int)) ∧ (r6 + (17 : Int)) < 2 ^ 62) ∧ (forC (fun (x12 : Int) (s14 : Unit) (k15 : Unit → Prop) => (M_line x_parts_here x12 fun r24 => ((-(2 ^ 62) ≤ (1 : Int) ∧ (1 : Int) < 2 ^ 62 ∧ -(2 ^ 62) ≤ (x12 + (1 : Int)) ∧ (x12 + (1 : Int)) < 2 ^ 62) ∧ ((rangeI (1 : Int) (x12 + (1 : Int))).length < 100000 ∧ mapC (fun (x43 : Int) (k35 : Str → Prop) => (M_Word_mark x_made x12 x43 fun r48 => (k35 r48))) (rangeI (1 : Int) (x12 + (1 : Int))) [] fun ys53 => ((ys53.map (·.length)).sum + ys53.length * ("" : Str).length ≤ 16777216 ∧ (if (!(decide (V.str (Txt.join ("" : Str) ys53) = V.str r24))) = true then (KM false) else ((-(2 ^ 62) ≤ (x12 + (1 : Int)) ∧ (x12 + (1 : Int)) < 2 ^ 62) ∧ ((rangeI (0 : Int) (x12 + (1 : Int))).length < 100000 ∧ mapC (fun (x72 : Int) (k64 : Int → Prop) => (M_Word_homes x_made x12 x72 fun r77 => (k64 r77))) (rangeI (0 : Int) (x12 + (1 : Int))) [] fun ys82 => ((-(2 ^ 62) ≤ (x12 + (1 : Int)) ∧ (x12 + (1 : Int)) < 2 ^ 62) ∧ ((rangeI (0 : Int) (x12 + (1 : Int))).length < 100000 ∧ mapC (fun (x100 : Int) (k92 : Int → Prop) => (r24.length ≤ sizeLine ∧ (k92 (Txt.count (cutS r24 none (some x100)) ("h" : Str) : Int)))) (rangeI (0 : Int) (x12 + (1 : Int))) [] fun ys106 => (((plainD (D.lst (ys82.map (fun y_ : Int => (D.v (V.int y_))))) = true ∧ plainD (D.lst (ys106.map (fun y_ : Int => (D.v (V.int y_))))) = true ∧ SeqAt.shaped (pyOf (D.lst (ys82.map (fun y_ : Int => (D.v (V.int y_)))))) = true ∧ SeqAt.shaped (pyOf (D.lst (ys106.map (fun y_ : Int => (D.v (V.int y_)))))) = true)) ∧ (if (!(PyData.eqv (pyOf (D.lst (ys82.map (fun y_ : Int => (D.v (V.int y_)))))) (pyOf (D.lst (ys106.map (fun y_ : Int => (D.v (V.int y_)))))))) = true then (KM false) else (k15 ()))))))))))))) (rangeI r1 (r6 + (17 : Int))) () fun s111 => (M_line x_parts_here (30 : Int) fun r116 => (M_Word_mark x_made (30 : Int) (1 : Int) fun r121 => (r116.length ≤ sizeLine ∧ ∃ c127, atI r116.cps.toList (0 : Int) = some c127 ∧ (if (decide (V.str r121 = V.str (Str.mk #[c127]))) = true then (M_Word_homes x_made (30 : Int) (30 : Int) fun r128 => (KM (decide (V.int r128 = V.int (Txt.count r116 ("h" : Str) : Int))))) else (KM false)))))))))
def sp_small_right (A : Ad) : Sp := fun vs H Q _ => ∃ (ms : List Addr) (v_made : V) (v_parts_here : V) (x_made : (Str × Str × Str)) (x_parts_here : (Str × Str × Str)) (KM : Bool → Prop), vs = [v_made, v_parts_here] ∧ Wd ms [] [] H H ∧ rep ms H (eWord A x_made) v_made ∧ rep ms H (D.tup [(D.v (V.str x_parts_here.1)), (D.v (V.str x_parts_here.2.1)), (D.v (V.str x_parts_here.2.2))]) v_parts_here ∧ M_small_right x_made x_parts_here KM ∧ ∀ (r : Bool) (u : V) (H1 : Hp), KM r → Ret [] H H1 → rep ms H1 (D.v (V.bl r)) u → Q u H1
set_option maxHeartbeats 16000000 in
theorem ok_small_right {P : Program} {w : World} {K : PySem.W.Frag} {mg : Str → Option Value} {base : Heap} {A : Ad} (T : Txt K mg A) : FnOk P w K mg base CX0 5 A.a_small_right A.d_small_right ["_law_made", "_law_parts_here"] (sp_small_right A) := by
  refine T.F_small_right.ok sc_small_right (fun vs H Q E h => ?_) (fun cdv A_ outer s_ H_0 vs Q E hr h => ?_)
  · obtain ⟨ms, v_made, v_parts_here, x_made, x_parts_here, KM, rfl, _⟩ := h
    rfl
  · obtain ⟨ms, v_made, v_parts_here, x_made, x_parts_here, KM, rfl, hW, h_made, h_parts_here, hM, hQ⟩ := h
    unfold M_small_right at hM
    refine ⟨_, (pss_cons (ps_for PassesOwn.never rfl (pi_range2 (by rfl) T.z_range (pa_cons (pe_call (ok_least T) (hr.mono (by decide)) (by rfl) T.g_least T.F_least.kp T.b_least .nil pass0 (pa_cons (pv 1) pa_nil)) (pa_cons (pe_op op_add (pe_call (ok_least T) (hr.mono (by decide)) (by rfl) T.g_least T.F_least.kp T.b_least .nil pass0 (pa_cons (pv 1) pa_nil)) pe_int) pa_nil))) (pg_name (i := 2) sc_small_right.nd rfl (by first | exact Or.inl rfl | exact Or.inr rfl)) (pss_cons (ps_set (i := 3) sc_small_right.nd rfl (by first | exact Or.inl rfl | exact Or.inr rfl) (pe_call (ok_line T) (hr.mono (by decide)) (by rfl) T.g_line T.F_line.kp T.b_line .nil pass0 (pa_cons (pv 1) (pa_cons (pv 2) pa_nil)))) (pss_cons (ps_if (pt_cmpR op_ne (pe_join pe_str (pe_lc (own := [("_law_at", 4)]) (g := gName 4) rfl sc_small_right.nd (pi_range2 (by rfl) T.z_range (pa_cons pe_int (pa_cons (pe_op op_add (pv 2) pe_int) pa_nil))) (blkOk_by (N := ["_law_made", "_law_parts_here", "_law_size", "_law_line_here", "_law_at"]) (sc := defScope s_small_right) (by decide +kernel)) (fun _ _ _ _ _ => pg_name (i := 4) sc_small_right.nd rfl (by first | exact Or.inl rfl | exact Or.inr rfl)) (fun _ _ _ _ _ => pts_nil) (fun _ _ _ _ _ => (pe_meth (pv 0) T.cl_Word T.m_Word_mark (ok_Word_mark T) (hr.mono (by decide)) T.b_Word_mark .nil pass0 (pa_cons (pv 2) (pa_cons (pv 4) pa_nil)))))) (pv 3) (nomark _)) (pss_one (ps_ret pe_bl)) pss_nil) (pss_one (ps_if (pt_cmpR (op_neD hr.units) (pe_lc (own := [("_law_at", 4)]) (g := gName 4) rfl sc_small_right.nd (pi_range1 (by rfl) T.z_range (pa_cons (pe_op op_add (pv 2) pe_int) pa_nil)) (blkOk_by (N := ["_law_made", "_law_parts_here", "_law_size", "_law_line_here", "_law_at"]) (sc := defScope s_small_right) (by decide +kernel)) (fun _ _ _ _ _ => pg_name (i := 4) sc_small_right.nd rfl (by first | exact Or.inl rfl | exact Or.inr rfl)) (fun _ _ _ _ _ => pts_nil) (fun _ _ _ _ _ => (pe_meth (pv 0) T.cl_Word T.m_Word_homes (ok_Word_homes T) (hr.mono (by decide)) T.b_Word_homes .nil pass0 (pa_cons (pv 2) (pa_cons (pv 4) pa_nil))))) (pe_lc (own := [("_law_at", 4)]) (g := gName 4) rfl sc_small_right.nd (pi_range1 (by rfl) T.z_range (pa_cons (pe_op op_add (pv 2) pe_int) pa_nil)) (blkOk_by (N := ["_law_made", "_law_parts_here", "_law_size", "_law_line_here", "_law_at"]) (sc := defScope s_small_right) (by decide +kernel)) (fun _ _ _ _ _ => pg_name (i := 4) sc_small_right.nd rfl (by first | exact Or.inl rfl | exact Or.inr rfl)) (fun _ _ _ _ _ => pts_nil) (fun _ _ _ _ _ => (pe_m1 PySem.F.slot_str_count PySem.F.type_str_count mt_count (pe_slice sl_str (pv 3) po_none (po_some (pv 4))) pe_str))) (nomark _)) (pss_one (ps_ret pe_bl)) pss_nil))))) (pss_cons (ps_set (i := 3) sc_small_right.nd rfl (by first | exact Or.inl rfl | exact Or.inr rfl) (pe_call (ok_line T) (hr.mono (by decide)) (by rfl) T.g_line T.F_line.kp T.b_line .nil pass0 (pa_cons (pv 1) (pa_cons pe_int pa_nil)))) (pss_one (ps_ret (pe_and (pe_cmpR op_eq (pe_methK0 (pv 0) T.cl_Word T.m_Word_mark (ok_Word_mark T) (hr.mono (by decide)) T.k_Word_mark_place_places pass0 (pk_cons pe_int (pk_cons pe_int pk_nil))) (pe_ix ix_str (pv 3) pe_int (fun _ _ => rfl)) (nomark _)) (pe_one (pe_cmpR op_eq (pe_methK0 (pv 0) T.cl_Word T.m_Word_homes (ok_Word_homes T) (hr.mono (by decide)) T.k_Word_homes_place_places pass0 (pk_cons pe_int (pk_cons pe_int pk_nil))) (pe_m1 PySem.F.slot_str_count PySem.F.type_str_count mt_count (pv 3) pe_str) (nomark _)))))))), ?_⟩
    refine ⟨_, rfl, ?_⟩
    refine ⟨ms, _, x_parts_here, _, rfl, hW.enter0, h_parts_here, hM, fun r1 u4 H5 hM e3 h2 => ?_⟩
    replace h_made := rep_ext e3 h_made
    replace h_parts_here := rep_ext e3 h_parts_here
    replace hW := hW.ret0 e3
    obtain rfl := of_v h2
    refine ⟨_, rfl, ?_⟩
    refine ⟨ms, _, x_parts_here, _, rfl, hW.enter0, h_parts_here, hM, fun r6 u9 H10 hM e8 h7 => ?_⟩
    replace h_made := rep_ext e8 h_made
    replace h_parts_here := rep_ext e8 h_parts_here
    replace hW := hW.ret0 e8
    obtain rfl := of_v h7
    refine ⟨_, _, rfl, rfl, ?_⟩
    obtain ⟨g11, hM⟩ := hM
    refine ⟨_, _, rfl, g11, ?_⟩
    refine for_rangeC (lo := r1) (hi := (r6 + (17 : Int))) (N := Int.toNat ((r6 + (17 : Int)) - r1)) (S := Unit) (cs := fun _ => []) (fun (s : Unit) σ_ _ => ∃ w_0, ∃ w_1, σ_ = [some v_made, some v_parts_here, w_0, w_1, none]) () (by simp) hW hM ⟨_, _, rfl⟩ ?_ ?_
    · skip
      rintro x12 s14 k15 _ H23 hW hk16 ⟨w21, w22, rfl⟩ hM Nx18 hN19
      have h_made := rep_keep hk16 h_made
      have h_parts_here := rep_keep hk16 h_parts_here
      refine ⟨_, rfl, ?_⟩
      refine ⟨_, rfl, ?_⟩
      refine ⟨ms, _, x_parts_here, x12, _, rfl, hW.enter0, h_parts_here, hM, fun r24 u27 H28 hM e26 h25 => ?_⟩
      replace h_made := rep_ext e26 h_made
      replace h_parts_here := rep_ext e26 h_parts_here
      replace hk16 := keep_ext e26 hk16
      replace hW := hW.ret0 e26
      obtain rfl := of_v h25
      refine ⟨⟨_, rfl⟩, ?_⟩
      refine ⟨_, rfl, ?_⟩
      refine ⟨_, _, rfl, rfl, ?_⟩
      obtain ⟨g29, hM⟩ := hM
      refine ⟨_, _, rfl, g29, ?_⟩
      refine fun L30 nl31 => ?_
      have hW_L30 := hW
      refine lc_rangeC (lo := (1 : Int)) (hi := (x12 + (1 : Int))) (N := Int.toNat ((x12 + (1 : Int)) - (1 : Int))) (eb := (fun y_ : Str => (D.v (V.str y_)))) (by simp) hW nl31 hM ?_ ?_
      · skip
        intro x43 n32 ys33 vs34 k35 H46 hn T36 hM Nx41 hN40
        obtain ⟨hW, hk37, ha38, ny39⟩ := T36
        have h_made := rep_keep hk37 (rep_new nl31 h_made)
        have h_parts_here := rep_keep hk37 (rep_new nl31 h_parts_here)
        have hk16 := Keep.trans (Keep.new hk16) hk37
        refine ⟨rfl, ?_⟩
        refine tyes_of ?_
        refine ⟨_, rfl, ?_⟩
        apply rep_meth (m := "mark") h_made (by decide +kernel)
        refine ⟨_, rfl, ?_⟩
        refine ⟨_, rfl, ?_⟩
        refine ⟨(L30 :: ms), _, x_made, x12, x43, _, rfl, hW.enter0, h_made, hM, fun r48 u51 H52 hM e50 h49 => ?_⟩
        replace h_made := rep_ext e50 h_made
        replace h_parts_here := rep_ext e50 h_parts_here
        replace hk16 := keep_ext e50 hk16
        replace hk37 := keep_ext e50 hk37
        replace ha38 := repL_ext e50 ha38
        replace hW := hW.ret0 e50
        obtain rfl := of_v h49
        exact lc_end (y := r48) (new_ne hW_L30 nl31) hn hW hk37 ha38 ny39 rep_v (fun vs_ H_ T_ => hN40 r48 vs_ H_ hM T_)
      · skip
        intro ys53 H56 hM hW hk54 h55
        have h_made := rep_keep hk54 h_made
        have h_parts_here := rep_keep hk54 h_parts_here
        have hk16 := Keep.trans hk16 hk54
        obtain ⟨g57, hM⟩ := hM
        apply rep_join (a := ("" : Str)) (ys := ys53) h55 g57
        refine ⟨_, rfl, ?_⟩
        refine ⟨rfl, ?_⟩
        refine ⟨_, rfl, ?_⟩
        refine ite3 hM (fun hM => ?_) (fun hM => ?_)
        · skip
          exact hQ false _ _ hM hW.out rep_v
        · skip
          refine ⟨_, rfl, ?_⟩
          refine ⟨_, _, rfl, rfl, ?_⟩
          obtain ⟨g58, hM⟩ := hM
          refine ⟨_, rfl, g58.1, g58.2, ?_⟩
          refine fun L59 nl60 => ?_
          have hW_L59 := hW
          refine lc_rangeC (lo := (0 : Int)) (hi := (x12 + (1 : Int))) (N := Int.toNat (x12 + (1 : Int))) (eb := (fun y_ : Int => (D.v (V.int y_)))) (by simp) hW nl60 hM ?_ ?_
          · skip
            intro x72 n61 ys62 vs63 k64 H75 hn T65 hM Nx70 hN69
            obtain ⟨hW, hk66, ha67, ny68⟩ := T65
            have h_made := rep_keep hk66 (rep_new nl60 h_made)
            have h_parts_here := rep_keep hk66 (rep_new nl60 h_parts_here)
            have hk16 := Keep.trans (Keep.new hk16) hk66
            have h55 := rep_keep hk66 (rep_new nl60 h55)
            refine ⟨rfl, ?_⟩
            refine tyes_of ?_
            refine ⟨_, rfl, ?_⟩
            apply rep_meth (m := "homes") h_made (by decide +kernel)
            refine ⟨_, rfl, ?_⟩
            refine ⟨_, rfl, ?_⟩
            refine ⟨(L59 :: ms), _, x_made, x12, x72, _, rfl, hW.enter0, h_made, hM, fun r77 u80 H81 hM e79 h78 => ?_⟩
            replace h_made := rep_ext e79 h_made
            replace h_parts_here := rep_ext e79 h_parts_here
            replace hk16 := keep_ext e79 hk16
            replace h55 := rep_ext e79 h55
            replace hk66 := keep_ext e79 hk66
            replace ha67 := repL_ext e79 ha67
            replace hW := hW.ret0 e79
            obtain rfl := of_v h78
            exact lc_end (y := r77) (new_ne hW_L59 nl60) hn hW hk66 ha67 ny68 rep_v (fun vs_ H_ T_ => hN69 r77 vs_ H_ hM T_)
          · skip
            intro ys82 H85 hM hW hk83 h84
            have h_made := rep_keep hk83 h_made
            have h_parts_here := rep_keep hk83 h_parts_here
            have hk16 := Keep.trans hk16 hk83
            have h55 := rep_keep hk83 h55
            refine ⟨_, rfl, ?_⟩
            refine ⟨_, _, rfl, rfl, ?_⟩
            obtain ⟨g86, hM⟩ := hM
            refine ⟨_, rfl, g86.1, g86.2, ?_⟩
            refine fun L87 nl88 => ?_
            have hW_L87 := hW
            refine lc_rangeC (lo := (0 : Int)) (hi := (x12 + (1 : Int))) (N := Int.toNat (x12 + (1 : Int))) (eb := (fun y_ : Int => (D.v (V.int y_)))) (by simp) hW nl88 hM ?_ ?_
            · skip
              intro x100 n89 ys90 vs91 k92 H103 hn T93 hM Nx98 hN97
              obtain ⟨hW, hk94, ha95, ny96⟩ := T93
              have h_made := rep_keep hk94 (rep_new nl88 h_made)
              have h_parts_here := rep_keep hk94 (rep_new nl88 h_parts_here)
              have hk16 := Keep.trans (Keep.new hk16) hk94
              have h55 := rep_keep hk94 (rep_new nl88 h55)
              have h84 := rep_keep hk94 (rep_new nl88 h84)
              refine ⟨rfl, ?_⟩
              refine tyes_of ?_
              refine ⟨_, rfl, ?_⟩
              refine ⟨_, rfl, ?_⟩
              refine ⟨_, rfl, ?_⟩
              obtain ⟨g105, hM⟩ := hM
              refine ⟨_, rfl, g105, ?_⟩
              refine ⟨⟨_, rfl⟩, ?_⟩
              refine ⟨_, _, rfl, rfl, ?_⟩
              exact lc_end (y := (Txt.count (cutS r24 none (some x100)) ("h" : Str) : Int)) (new_ne hW_L87 nl88) hn hW hk94 ha95 ny96 rep_v (fun vs_ H_ T_ => hN97 (Txt.count (cutS r24 none (some x100)) ("h" : Str) : Int) vs_ H_ hM T_)
            · skip
              intro ys106 H109 hM hW hk107 h108
              have h_made := rep_keep hk107 h_made
              have h_parts_here := rep_keep hk107 h_parts_here
              have hk16 := Keep.trans hk16 hk107
              have h55 := rep_keep hk107 h55
              have h84 := rep_keep hk107 h84
              obtain ⟨g110, hM⟩ := hM
              apply rep_neD (d := (D.lst (ys82.map (fun y_ : Int => (D.v (V.int y_)))))) (e := (D.lst (ys106.map (fun y_ : Int => (D.v (V.int y_)))))) h84 h108 g110.1 g110.2.1 g110.2.2.1 g110.2.2.2
              refine ⟨_, rfl, ?_⟩
              refine ite3 hM (fun hM => ?_) (fun hM => ?_)
              · skip
                exact hQ false _ _ hM hW.out rep_v
              · skip
                exact hN19 () _ _ hM hW hk16 ⟨_, _, rfl⟩
    · skip
      rintro s111 _ H115 hM hW hk112 ⟨w113, w114, rfl⟩
      have h_made := rep_keep hk112 h_made
      have h_parts_here := rep_keep hk112 h_parts_here
      refine ⟨_, rfl, ?_⟩
      refine ⟨ms, _, x_parts_here, (30 : Int), _, rfl, hW.enter0, h_parts_here, hM, fun r116 u119 H120 hM e118 h117 => ?_⟩
      replace h_made := rep_ext e118 h_made
      replace h_parts_here := rep_ext e118 h_parts_here
      replace hW := hW.ret0 e118
      obtain rfl := of_v h117
      refine ⟨_, rfl, ?_⟩
      apply rep_meth (m := "mark") h_made (by decide +kernel)
      refine ⟨rfl, ?_⟩
      refine ⟨ms, _, x_made, (30 : Int), (1 : Int), _, rfl, hW.enter0, h_made, hM, fun r121 u124 H125 hM e123 h122 => ?_⟩
      replace h_made := rep_ext e123 h_made
      replace h_parts_here := rep_ext e123 h_parts_here
      replace hW := hW.ret0 e123
      obtain rfl := of_v h122
      refine ⟨_, rfl, ?_⟩
      obtain ⟨g126, hM⟩ := hM
      obtain ⟨c127, c127h, hM⟩ := hM
      refine ⟨_, _, _, rfl, rfl, g126, c127h, ?_⟩
      refine ⟨rfl, ?_⟩
      refine ⟨_, rfl, ?_⟩
      refine ite3 hM (fun hM => ?_) (fun hM => ?_)
      · skip
        refine ⟨_, rfl, ?_⟩
        apply rep_meth (m := "homes") h_made (by decide +kernel)
        refine ⟨rfl, ?_⟩
        refine ⟨ms, _, x_made, (30 : Int), (30 : Int), _, rfl, hW.enter0, h_made, hM, fun r128 u131 H132 hM e130 h129 => ?_⟩
        replace h_made := rep_ext e130 h_made
        replace h_parts_here := rep_ext e130 h_parts_here
        replace hW := hW.ret0 e130
        obtain rfl := of_v h129
        refine ⟨_, rfl, ?_⟩
        refine ⟨⟨_, rfl⟩, ?_⟩
        refine ⟨_, _, rfl, rfl, ?_⟩
        refine ⟨rfl, ?_⟩
        exact hQ (decide (V.int r128 = V.int (Txt.count r116 ("h" : Str) : Int))) _ _ hM hW.out rep_v
      · skip
        exact hQ false _ _ hM hW.out rep_v
def M_pick (x_some : (List Int)) (KM : Int → Prop) : Prop :=
  (M_draw (x_some.length : Int) fun r1 => (0 ≤ r1 ∧ ∃ g7 : Int.toNat r1 < x_some.length, ∀ x9, x9 = x_some[Int.toNat r1]'g7 → (KM x9)))
def sp_pick (A : Ad) : Sp := fun vs H Q _ => ∃ (ms : List Addr) (ap : Addr) (v_some : V) (x_some : (List Int)) (KM : Int → Prop), vs = [.ref ap, v_some] ∧ Wd ms [ap] [] H H ∧ rep ms H (D.lst (x_some.map (fun y_ : Int => (D.v (V.int y_))))) v_some ∧ M_pick x_some KM ∧ ∀ (r : Int) (u : V) (H1 : Hp), KM r → Ret [ap] H H1 → rep ms H1 (D.v (V.int r)) u → Q u H1
set_option maxHeartbeats 16000000 in
theorem ok_pick {P : Program} {w : World} {K : PySem.W.Frag} {mg : Str → Option Value} {base : Heap} {A : Ad} (T : Txt K mg A) : FnOk P w K mg base CX0 2 A.a_pick A.d_pick ["_law_pot_here", "_law_some"] (sp_pick A) := by
  refine T.F_pick.ok sc_pick (fun vs H Q E h => ?_) (fun cdv A_ outer s_ H_0 vs Q E hr h => ?_)
  · obtain ⟨ms, ap, v_some, x_some, KM, rfl, _⟩ := h
    rfl
  · obtain ⟨ms, ap, v_some, x_some, KM, rfl, hW, h_some, hM, hQ⟩ := h
    unfold M_pick at hM
    refine ⟨_, (pss_one (ps_ret (pe_ix ix_list (pv 1) (pe_call (ok_draw T) (hr.mono (by decide)) (by rfl) T.g_draw T.F_draw.kp T.b_draw .nil pass0 (pa_cons (pv 0) (pa_cons (pe_callB call_len (by rfl) T.z_len PySem.boot_len (pa_cons (pv 1) pa_nil)) pa_nil))) (fun _ _ => rfl)))), ?_⟩
    refine ⟨_, rfl, ?_⟩
    refine ⟨_, rfl, ?_⟩
    refine ⟨_, rfl, ?_⟩
    apply rep_lenL (e := (fun y_ : Int => (D.v (V.int y_)))) (xs := x_some) h_some
    refine ⟨ms, ap, (x_some.length : Int), _, rfl, hW.enterP, hM, fun r1 u4 H5 hM e3 h2 => ?_⟩
    replace h_some := rep_ret hW e3 h_some
    replace hW := hW.retP e3
    obtain rfl := of_v h2
    obtain ⟨g6, g7, hM⟩ := hM
    apply rep_ixL (e := (fun y_ : Int => (D.v (V.int y_)))) (xs := x_some) h_some g6 g7
    intro u10 h8
    obtain ⟨x9, x9e⟩ : ∃ x_, x_ = x_some[Int.toNat r1]'g7 := ⟨_, rfl⟩
    rw [← x9e] at h8
    replace hM := hM x9 x9e
    obtain rfl := of_v h8
    exact hQ x9 _ _ hM hW.out rep_v
def M_great (x_least_here : Int) (KM : Int → Prop) : Prop :=
  ((-(2 ^ 62) ≤ (7 : Int) ∧ (7 : Int) < 2 ^ 62) ∧ (forC (fun (x3 : Int) (s5 : Int) (k6 : Int → Prop) => (M_draw ((10 : Int) ^ Int.toNat (9 : Int)) fun r14 => (k6 ((((s5 * ((10 : Int) ^ Int.toNat (9 : Int))) + r14) % ((10 : Int) ^ Int.toNat (59 : Int))))))) (rangeI (0 : Int) (7 : Int)) ((0 : Int)) fun s19 => (M_pick ([s19, s19, ((((10 : Int) ^ Int.toNat (60 : Int)) - (1 : Int)) - (s19 % (50 : Int))), (s19 % ((10 : Int) ^ Int.toNat (12 : Int)))] : List Int) fun r29 => (KM (if r29 > x_least_here then r29 else x_least_here)))))
def sp_great (A : Ad) : Sp := fun vs H Q _ => ∃ (ms : List Addr) (ap : Addr) (x_least_here : Int) (KM : Int → Prop), vs = [.ref ap, V.int x_least_here] ∧ Wd ms [ap] [] H H ∧ M_great x_least_here KM ∧ ∀ (r : Int) (u : V) (H1 : Hp), KM r → Ret [ap] H H1 → rep ms H1 (D.v (V.int r)) u → Q u H1
set_option maxHeartbeats 16000000 in
theorem ok_great {P : Program} {w : World} {K : PySem.W.Frag} {mg : Str → Option Value} {base : Heap} {A : Ad} (T : Txt K mg A) : FnOk P w K mg base CX0 3 A.a_great A.d_great ["_law_pot_here", "_law_least_here"] (sp_great A) := by
  refine T.F_great.ok sc_great (fun vs H Q E h => ?_) (fun cdv A_ outer s_ H_0 vs Q E hr h => ?_)
  · obtain ⟨ms, ap, x_least_here, KM, rfl, _⟩ := h
    rfl
  · obtain ⟨ms, ap, x_least_here, KM, rfl, hW, hM, hQ⟩ := h
    unfold M_great at hM
    refine ⟨_, (pss_cons (ps_set (i := 2) sc_great.nd rfl (by first | exact Or.inl rfl | exact Or.inr rfl) pe_int) (pss_cons (ps_for PassesOwn.never rfl (pi_range1 (by rfl) T.z_range (pa_cons pe_int pa_nil)) (pg_name (i := 3) sc_great.nd rfl (by first | exact Or.inl rfl | exact Or.inr rfl)) (pss_one (ps_set (i := 2) sc_great.nd rfl (by first | exact Or.inl rfl | exact Or.inr rfl) (pe_op op_mod (pe_callTy call_int1 (by rfl) T.z_int (by decide +kernel) (pa_cons (pe_op op_add (pe_op op_mul (pv 2) (pe_op op_pow pe_int pe_int)) (pe_call (ok_draw T) (hr.mono (by decide)) (by rfl) T.g_draw T.F_draw.kp T.b_draw .nil pass0 (pa_cons (pv 0) (pa_cons (pe_op op_pow pe_int pe_int) pa_nil)))) pa_nil)) (pe_op op_pow pe_int pe_int))))) (pss_one (ps_ret (pe_callB (call_max2 rfl) (by rfl) T.z_max (by decide +kernel) (pa_cons (pv 1) (pa_cons (pe_call (ok_pick T) (hr.mono (by decide)) (by rfl) T.g_pick T.F_pick.kp T.b_pick .nil pass0 (pa_cons (pv 0) (pa_cons (pe_lst (pa_cons (pv 2) (pa_cons (pv 2) (pa_cons (pe_op op_sub (pe_op op_sub (pe_op op_pow pe_int pe_int) pe_int) (pe_op op_mod (pe_callTy call_int1 (by rfl) T.z_int (by decide +kernel) (pa_cons (pv 2) pa_nil)) pe_int)) (pa_cons (pe_op op_mod (pe_callTy call_int1 (by rfl) T.z_int (by decide +kernel) (pa_cons (pv 2) pa_nil)) (pe_op op_pow pe_int pe_int)) pa_nil))))) pa_nil))) pa_nil))))))), ?_⟩
    obtain ⟨g1, hM⟩ := hM
    refine ⟨_, rfl, g1.1, g1.2, ?_⟩
    refine for_rangeC (lo := (0 : Int)) (hi := (7 : Int)) (N := Int.toNat (7 : Int)) (S := Int) (cs := fun _ => []) (fun (s : Int) σ_ _ => ∃ w_0, σ_ = [some (V.ref ap), some (V.int x_least_here), some (V.int s), w_0]) ((0 : Int)) (by simp) hW hM ⟨_, rfl⟩ ?_ ?_
    · skip
      rintro x3 s5 k6 _ H13 hW hk7 ⟨w12, rfl⟩ hM Nx9 hN10
      refine ⟨_, rfl, ?_⟩
      refine ⟨_, _, rfl, rfl, ⟨by decide, by decide, by decide⟩, ?_⟩
      refine ⟨_, _, rfl, rfl, .inr ⟨by decide, by decide⟩, ?_⟩
      refine ⟨_, rfl, ?_⟩
      refine ⟨_, _, rfl, rfl, ⟨by decide, by decide, by decide⟩, ?_⟩
      refine ⟨ms, ap, ((10 : Int) ^ Int.toNat (9 : Int)), _, rfl, hW.enterP, hM, fun r14 u17 H18 hM e16 h15 => ?_⟩
      replace hk7 := keep_ret hW e16 hk7
      replace hW := hW.retP e16
      obtain rfl := of_v h15
      refine ⟨_, _, rfl, rfl, ?_⟩
      refine .inl ⟨_, rfl, ?_⟩
      refine ⟨_, _, rfl, rfl, ⟨by decide, by decide, by decide⟩, ?_⟩
      refine ⟨_, _, rfl, rfl, (by show (0 : Int) < ((10 : Int) ^ Int.toNat (59 : Int)); decide), ?_⟩
      exact hN10 ((((s5 * ((10 : Int) ^ Int.toNat (9 : Int))) + r14) % ((10 : Int) ^ Int.toNat (59 : Int)))) _ _ hM hW hk7 ⟨_, rfl⟩
    · skip
      rintro s19 _ H22 hM hW hk20 ⟨w21, rfl⟩
      refine ⟨_, rfl, ?_⟩
      refine ⟨_, rfl, ?_⟩
      refine ⟨_, rfl, ?_⟩
      refine ⟨_, rfl, ?_⟩
      refine ⟨_, _, rfl, rfl, ⟨by decide, by decide, by decide⟩, ?_⟩
      refine ⟨_, _, rfl, rfl, ?_⟩
      refine ⟨_, rfl, ?_⟩
      refine .inl ⟨_, rfl, ?_⟩
      refine ⟨_, _, rfl, rfl, (by show (0 : Int) < (50 : Int); decide), ?_⟩
      refine ⟨_, _, rfl, rfl, ?_⟩
      refine ⟨_, rfl, ?_⟩
      refine .inl ⟨_, rfl, ?_⟩
      refine ⟨_, _, rfl, rfl, ⟨by decide, by decide, by decide⟩, ?_⟩
      refine ⟨_, _, rfl, rfl, (by show (0 : Int) < ((10 : Int) ^ Int.toNat (12 : Int)); decide), ?_⟩
      refine ⟨(by show 4 ≤ sizeLine; decide), ?_⟩
      intro p23 n27
      have e24 := Ext.new (H := H22) (o := (HO.lst [V.int s19, V.int s19, V.int ((((10 : Int) ^ Int.toNat (60 : Int)) - (1 : Int)) - (s19 % (50 : Int))), V.int (s19 % ((10 : Int) ^ Int.toNat (12 : Int)))])) n27
      have hp25 : upd H22 p23 (HO.lst [V.int s19, V.int s19, V.int ((((10 : Int) ^ Int.toNat (60 : Int)) - (1 : Int)) - (s19 % (50 : Int))), V.int (s19 % ((10 : Int) ^ Int.toNat (12 : Int)))]) p23 = some (HO.lst [V.int s19, V.int s19, V.int ((((10 : Int) ^ Int.toNat (60 : Int)) - (1 : Int)) - (s19 % (50 : Int))), V.int (s19 % ((10 : Int) ^ Int.toNat (12 : Int)))]) := upd_same
      generalize upd H22 p23 (HO.lst [V.int s19, V.int s19, V.int ((((10 : Int) ^ Int.toNat (60 : Int)) - (1 : Int)) - (s19 % (50 : Int))), V.int (s19 % ((10 : Int) ^ Int.toNat (12 : Int)))]) = H28 at e24 hp25 ⊢
      have h26 : rep ms H28 (D.lst (([s19, s19, ((((10 : Int) ^ Int.toNat (60 : Int)) - (1 : Int)) - (s19 % (50 : Int))), (s19 % ((10 : Int) ^ Int.toNat (12 : Int)))] : List Int).map (fun y_ : Int => (D.v (V.int y_))))) (.ref p23) := rep_lst_mk hW n27 e24 hp25 (repL_cons rep_v (repL_cons rep_v (repL_cons rep_v (repL_cons rep_v repL_nil))))
      replace hW := hW.ret0 e24
      refine ⟨ms, ap, _, ([s19, s19, ((((10 : Int) ^ Int.toNat (60 : Int)) - (1 : Int)) - (s19 % (50 : Int))), (s19 % ((10 : Int) ^ Int.toNat (12 : Int)))] : List Int), _, rfl, hW.enterP, h26, hM, fun r29 u32 H33 hM e31 h30 => ?_⟩
      replace h26 := rep_ret hW e31 h26
      replace hW := hW.retP e31
      obtain rfl := of_v h30
      refine ⟨_, _, rfl, ?_⟩
      exact hQ (if r29 > x_least_here then r29 else x_least_here) _ _ hM hW.out rep_v
def M_short (x_parts_here : (Str × Str × Str)) (x_size : Int) (KM : Int → Prop) : Prop :=
  (M_least x_parts_here fun r1 => (x_parts_here.2.1.length ≤ sizeLine ∧ (∃ KB9 : Int → Prop, (if (decide (x_size ≤ (r1 + ((40 : Int) * (x_parts_here.2.1.length : Int))))) = true then (KB9 x_size) else (x_parts_here.2.1.length ≤ sizeLine ∧ (0 < (x_parts_here.2.1.length : Int) ∧ (KB9 ((r1 + ((40 : Int) * (x_parts_here.2.1.length : Int))) + ((x_size - (r1 + ((40 : Int) * (x_parts_here.2.1.length : Int)))) % (x_parts_here.2.1.length : Int))))))) ∧ ∀ r16 : Int, KB9 r16 → (KM r16))))
def sp_short (A : Ad) : Sp := fun vs H Q _ => ∃ (ms : List Addr) (v_parts_here : V) (x_parts_here : (Str × Str × Str)) (x_size : Int) (KM : Int → Prop), vs = [v_parts_here, V.int x_size] ∧ Wd ms [] [] H H ∧ rep ms H (D.tup [(D.v (V.str x_parts_here.1)), (D.v (V.str x_parts_here.2.1)), (D.v (V.str x_parts_here.2.2))]) v_parts_here ∧ M_short x_parts_here x_size KM ∧ ∀ (r : Int) (u : V) (H1 : Hp), KM r → Ret [] H H1 → rep ms H1 (D.v (V.int r)) u → Q u H1
set_option maxHeartbeats 16000000 in
theorem ok_short {P : Program} {w : World} {K : PySem.W.Frag} {mg : Str → Option Value} {base : Heap} {A : Ad} (T : Txt K mg A) : FnOk P w K mg base CX0 2 A.a_short A.d_short ["_law_parts_here", "_law_size"] (sp_short A) := by
  refine T.F_short.ok sc_short (fun vs H Q E h => ?_) (fun cdv A_ outer s_ H_0 vs Q E hr h => ?_)
  · obtain ⟨ms, v_parts_here, x_parts_here, x_size, KM, rfl, _⟩ := h
    rfl
  · obtain ⟨ms, v_parts_here, x_parts_here, x_size, KM, rfl, hW, h_parts_here, hM, hQ⟩ := h
    unfold M_short at hM
    refine ⟨_, (pss_cons (ps_set (i := 2) sc_short.nd rfl (by first | exact Or.inl rfl | exact Or.inr rfl) (pe_op op_add (pe_call (ok_least T) (hr.mono (by decide)) (by rfl) T.g_least T.F_least.kp T.b_least .nil pass0 (pa_cons (pv 0) pa_nil)) (pe_op op_mul pe_int (pe_callB call_len_str (by rfl) T.z_len PySem.boot_len (pa_cons (pe_ix ix_tup (pv 0) pe_int (fun _ _ => rfl)) pa_nil))))) (pss_one (ps_ret (pe_up (pe_ifExp (pt_cmpR op_le (pv 1) (pv 2) (nomark _)) (pv 1) (pe_op op_add (pv 2) (pe_op op_mod (pe_callTy call_int1 (by rfl) T.z_int (by decide +kernel) (pa_cons (pe_op op_sub (pv 1) (pv 2)) pa_nil)) (pe_callB call_len_str (by rfl) T.z_len PySem.boot_len (pa_cons (pe_ix ix_tup (pv 0) pe_int (fun _ _ => rfl)) pa_nil))))))))), ?_⟩
    refine ⟨_, rfl, ?_⟩
    refine ⟨ms, _, x_parts_here, _, rfl, hW.enter0, h_parts_here, hM, fun r1 u4 H5 hM e3 h2 => ?_⟩
    replace h_parts_here := rep_ext e3 h_parts_here
    replace hW := hW.ret0 e3
    obtain rfl := of_v h2
    refine ⟨_, rfl, ?_⟩
    apply rep_ixT 1 h_parts_here rfl rfl
    intro u7 h6
    obtain rfl := of_v h6
    obtain ⟨g8, hM⟩ := hM
    refine ⟨_, rfl, g8, ?_⟩
    refine ⟨_, _, rfl, rfl, .inl ⟨by decide, by decide⟩, ?_⟩
    refine ⟨_, _, rfl, rfl, ?_⟩
    obtain ⟨KB9, hM, hKKB9⟩ := hM
    refine ⟨fun v H1 => ∃ r : Int, KB9 r ∧ Wd ms [] [] H_0 H1 ∧ Keep ms H5 H1 ∧ rep ms H1 (D.v (V.int r)) v, ?_, ?_⟩
    · skip
      have hj11 := Keep.refl (ms := ms) (H := H5)
      refine ⟨_, rfl, ?_⟩
      refine ⟨_, rfl, ?_⟩
      refine ⟨_, _, rfl, rfl, ?_⟩
      refine ⟨_, rfl, ?_⟩
      refine ite3 hM (fun hM => ?_) (fun hM => ?_)
      · skip
        refine ⟨_, rfl, ?_⟩
        exact ⟨x_size, hM, hW, hj11, rep_v⟩
      · skip
        refine ⟨_, rfl, ?_⟩
        refine ⟨_, rfl, ?_⟩
        refine ⟨_, rfl, ?_⟩
        refine ⟨_, _, rfl, rfl, ?_⟩
        refine .inl ⟨_, rfl, ?_⟩
        refine ⟨_, rfl, ?_⟩
        apply rep_ixT 1 h_parts_here rfl rfl
        intro u13 h12
        obtain rfl := of_v h12
        obtain ⟨g14, hM⟩ := hM
        refine ⟨_, rfl, g14, ?_⟩
        obtain ⟨g15, hM⟩ := hM
        refine ⟨_, _, rfl, rfl, g15, ?_⟩
        refine ⟨_, _, rfl, rfl, ?_⟩
        exact ⟨((r1 + ((40 : Int) * (x_parts_here.2.1.length : Int))) + ((x_size - (r1 + ((40 : Int) * (x_parts_here.2.1.length : Int)))) % (x_parts_here.2.1.length : Int))), hM, hW, hj11, rep_v⟩
    · skip
      rintro u18 Hj10 ⟨r16, hr, hW, hj11, h17⟩
      replace hM := hKKB9 r16 hr
      have h_parts_here := rep_keep hj11 h_parts_here
      obtain rfl := of_v h17
      exact hQ r16 _ _ hM hW.out rep_v
def M_place_in (x_parts_here : (Str × Str × Str)) (x_size : Int) (x_short_here : Int) (x_at : Int) (KM : Int → Prop) : Prop :=
  (x_parts_here.1.length ≤ sizeLine ∧ (x_parts_here.2.1.length ≤ sizeLine ∧ (if (decide (x_at ≤ ((x_parts_here.1.length : Int) + ((20 : Int) * (x_parts_here.2.1.length : Int))))) = true then (KM x_at) else (x_parts_here.2.1.length ≤ sizeLine ∧ (x_parts_here.1.length ≤ sizeLine ∧ (if (decide ((x_size - x_at) < ((x_short_here - ((20 : Int) * (x_parts_here.2.1.length : Int))) - (x_parts_here.1.length : Int)))) = true then (KM (x_short_here - (x_size - x_at))) else (x_parts_here.1.length ≤ sizeLine ∧ (x_parts_here.1.length ≤ sizeLine ∧ (x_parts_here.2.1.length ≤ sizeLine ∧ (0 < (x_parts_here.2.1.length : Int) ∧ (KM (((x_parts_here.1.length : Int) + (1 : Int)) + (((x_at - (x_parts_here.1.length : Int)) - (1 : Int)) % (x_parts_here.2.1.length : Int))))))))))))))
def sp_place_in (A : Ad) : Sp := fun vs H Q _ => ∃ (ms : List Addr) (v_parts_here : V) (x_parts_here : (Str × Str × Str)) (x_size : Int) (x_short_here : Int) (x_at : Int) (KM : Int → Prop), vs = [v_parts_here, V.int x_size, V.int x_short_here, V.int x_at] ∧ Wd ms [] [] H H ∧ rep ms H (D.tup [(D.v (V.str x_parts_here.1)), (D.v (V.str x_parts_here.2.1)), (D.v (V.str x_parts_here.2.2))]) v_parts_here ∧ M_place_in x_parts_here x_size x_short_here x_at KM ∧ ∀ (r : Int) (u : V) (H1 : Hp), KM r → Ret [] H H1 → rep ms H1 (D.v (V.int r)) u → Q u H1
set_option maxHeartbeats 16000000 in
theorem ok_place_in {P : Program} {w : World} {K : PySem.W.Frag} {mg : Str → Option Value} {base : Heap} {A : Ad} (T : Txt K mg A) : FnOk P w K mg base CX0 1 A.a_place_in A.d_place_in ["_law_parts_here", "_law_size", "_law_short_here", "_law_at"] (sp_place_in A) := by
  refine T.F_place_in.ok sc_place_in (fun vs H Q E h => ?_) (fun cdv A_ outer s_ H_0 vs Q E hr h => ?_)
  · obtain ⟨ms, v_parts_here, x_parts_here, x_size, x_short_here, x_at, KM, rfl, _⟩ := h
    rfl
  · obtain ⟨ms, v_parts_here, x_parts_here, x_size, x_short_here, x_at, KM, rfl, hW, h_parts_here, hM, hQ⟩ := h
    unfold M_place_in at hM
    refine ⟨_, (pss_cons (ps_if (pt_cmpR op_le (pv 3) (pe_op op_add (pe_callB call_len_str (by rfl) T.z_len PySem.boot_len (pa_cons (pe_ix ix_tup (pv 0) pe_int (fun _ _ => rfl)) pa_nil)) (pe_op op_mul pe_int (pe_callB call_len_str (by rfl) T.z_len PySem.boot_len (pa_cons (pe_ix ix_tup (pv 0) pe_int (fun _ _ => rfl)) pa_nil)))) (nomark _)) (pss_one (ps_ret (pv 3))) pss_nil) (pss_cons (ps_if (pt_cmpR op_lt (pe_op op_sub (pv 1) (pv 3)) (pe_op op_sub (pe_op op_sub (pv 2) (pe_op op_mul pe_int (pe_callB call_len_str (by rfl) T.z_len PySem.boot_len (pa_cons (pe_ix ix_tup (pv 0) pe_int (fun _ _ => rfl)) pa_nil)))) (pe_callB call_len_str (by rfl) T.z_len PySem.boot_len (pa_cons (pe_ix ix_tup (pv 0) pe_int (fun _ _ => rfl)) pa_nil))) (nomark _)) (pss_one (ps_ret (pe_op op_sub (pv 2) (pe_op op_sub (pv 1) (pv 3))))) pss_nil) (pss_one (ps_ret (pe_op op_add (pe_op op_add (pe_callB call_len_str (by rfl) T.z_len PySem.boot_len (pa_cons (pe_ix ix_tup (pv 0) pe_int (fun _ _ => rfl)) pa_nil)) pe_int) (pe_op op_mod (pe_callTy call_int1 (by rfl) T.z_int (by decide +kernel) (pa_cons (pe_op op_sub (pe_op op_sub (pv 3) (pe_callB call_len_str (by rfl) T.z_len PySem.boot_len (pa_cons (pe_ix ix_tup (pv 0) pe_int (fun _ _ => rfl)) pa_nil))) pe_int) pa_nil)) (pe_callB call_len_str (by rfl) T.z_len PySem.boot_len (pa_cons (pe_ix ix_tup (pv 0) pe_int (fun _ _ => rfl)) pa_nil)))))))), ?_⟩
    refine ⟨_, rfl, ?_⟩
    refine ⟨_, rfl, ?_⟩
    apply rep_ixT 0 h_parts_here rfl rfl
    intro u2 h1
    obtain rfl := of_v h1
    obtain ⟨g3, hM⟩ := hM
    refine ⟨_, rfl, g3, ?_⟩
    refine ⟨_, rfl, ?_⟩
    apply rep_ixT 1 h_parts_here rfl rfl
    intro u5 h4
    obtain rfl := of_v h4
    obtain ⟨g6, hM⟩ := hM
    refine ⟨_, rfl, g6, ?_⟩
    refine ⟨_, _, rfl, rfl, .inl ⟨by decide, by decide⟩, ?_⟩
    refine ⟨_, _, rfl, rfl, ?_⟩
    refine ⟨_, _, rfl, rfl, ?_⟩
    refine ⟨_, rfl, ?_⟩
    refine ite3 hM (fun hM => ?_) (fun hM => ?_)
    · skip
      refine ⟨_, rfl, ?_⟩
      exact hQ x_at _ _ hM hW.out rep_v
    · skip
      refine ⟨_, rfl, ?_⟩
      refine ⟨_, rfl, ?_⟩
      refine ⟨_, _, rfl, rfl, ?_⟩
      refine ⟨_, rfl, ?_⟩
      refine ⟨_, rfl, ?_⟩
      apply rep_ixT 1 h_parts_here rfl rfl
      intro u8 h7
      obtain rfl := of_v h7
      obtain ⟨g9, hM⟩ := hM
      refine ⟨_, rfl, g9, ?_⟩
      refine ⟨_, _, rfl, rfl, .inl ⟨by decide, by decide⟩, ?_⟩
      refine ⟨_, _, rfl, rfl, ?_⟩
      refine ⟨_, rfl, ?_⟩
      apply rep_ixT 0 h_parts_here rfl rfl
      intro u11 h10
      obtain rfl := of_v h10
      obtain ⟨g12, hM⟩ := hM
      refine ⟨_, rfl, g12, ?_⟩
      refine ⟨_, _, rfl, rfl, ?_⟩
      refine ⟨_, _, rfl, rfl, ?_⟩
      refine ⟨_, rfl, ?_⟩
      refine ite3 hM (fun hM => ?_) (fun hM => ?_)
      · skip
        refine ⟨_, rfl, ?_⟩
        refine ⟨_, rfl, ?_⟩
        refine ⟨_, rfl, ?_⟩
        refine ⟨_, _, rfl, rfl, ?_⟩
        refine ⟨_, _, rfl, rfl, ?_⟩
        exact hQ (x_short_here - (x_size - x_at)) _ _ hM hW.out rep_v
      · skip
        refine ⟨_, rfl, ?_⟩
        apply rep_ixT 0 h_parts_here rfl rfl
        intro u14 h13
        obtain rfl := of_v h13
        obtain ⟨g15, hM⟩ := hM
        refine ⟨_, rfl, g15, ?_⟩
        refine ⟨_, _, rfl, rfl, ?_⟩
        refine ⟨_, rfl, ?_⟩
        refine ⟨_, rfl, ?_⟩
        apply rep_ixT 0 h_parts_here rfl rfl
        intro u17 h16
        obtain rfl := of_v h16
        obtain ⟨g18, hM⟩ := hM
        refine ⟨_, rfl, g18, ?_⟩
        refine ⟨_, _, rfl, rfl, ?_⟩
        refine ⟨_, _, rfl, rfl, ?_⟩
        refine .inl ⟨_, rfl, ?_⟩
        refine ⟨_, rfl, ?_⟩
        apply rep_ixT 1 h_parts_here rfl rfl
        intro u20 h19
        obtain rfl := of_v h19
        obtain ⟨g21, hM⟩ := hM
        refine ⟨_, rfl, g21, ?_⟩
        obtain ⟨g22, hM⟩ := hM
        refine ⟨_, _, rfl, rfl, g22, ?_⟩
        refine ⟨_, _, rfl, rfl, ?_⟩
        exact hQ (((x_parts_here.1.length : Int) + (1 : Int)) + (((x_at - (x_parts_here.1.length : Int)) - (1 : Int)) % (x_parts_here.2.1.length : Int))) _ _ hM hW.out rep_v
def M_steps_right (x_made : (Str × Str × Str)) (x_size : Int) (x_at : Int) (KM : Bool → Prop) : Prop :=
  (M_Word_homes x_made x_size x_at fun r1 => (M_Word_homes x_made x_size (x_at - (1 : Int)) fun r6 => (M_Word_mark x_made x_size x_at fun r11 => (KM (decide (V.int (r1 - r6) = V.int (if (decide (V.str r11 = V.str ("h" : Str))) then (1 : Int) else 0)))))))
def sp_steps_right (A : Ad) : Sp := fun vs H Q _ => ∃ (ms : List Addr) (v_made : V) (x_made : (Str × Str × Str)) (x_size : Int) (x_at : Int) (KM : Bool → Prop), vs = [v_made, V.int x_size, V.int x_at] ∧ Wd ms [] [] H H ∧ rep ms H (eWord A x_made) v_made ∧ M_steps_right x_made x_size x_at KM ∧ ∀ (r : Bool) (u : V) (H1 : Hp), KM r → Ret [] H H1 → rep ms H1 (D.v (V.bl r)) u → Q u H1
set_option maxHeartbeats 16000000 in
theorem ok_steps_right {P : Program} {w : World} {K : PySem.W.Frag} {mg : Str → Option Value} {base : Heap} {A : Ad} (T : Txt K mg A) : FnOk P w K mg base CX0 5 A.a_steps_right A.d_steps_right ["_law_made", "_law_size", "_law_at"] (sp_steps_right A) := by
  refine T.F_steps_right.ok sc_steps_right (fun vs H Q E h => ?_) (fun cdv A_ outer s_ H_0 vs Q E hr h => ?_)
  · obtain ⟨ms, v_made, x_made, x_size, x_at, KM, rfl, _⟩ := h
    rfl
  · obtain ⟨ms, v_made, x_made, x_size, x_at, KM, rfl, hW, h_made, hM, hQ⟩ := h
    unfold M_steps_right at hM
    refine ⟨_, (pss_cons (ps_set (i := 3) sc_steps_right.nd rfl (by first | exact Or.inl rfl | exact Or.inr rfl) (pe_op op_sub (pe_meth (pv 0) T.cl_Word T.m_Word_homes (ok_Word_homes T) (hr.mono (by decide)) T.b_Word_homes .nil pass0 (pa_cons (pv 1) (pa_cons (pv 2) pa_nil))) (pe_meth (pv 0) T.cl_Word T.m_Word_homes (ok_Word_homes T) (hr.mono (by decide)) T.b_Word_homes .nil pass0 (pa_cons (pv 1) (pa_cons (pe_op op_sub (pv 2) pe_int) pa_nil))))) (pss_one (ps_ret (pe_cmpR op_eq (pv 3) (pe_callTy call_int1 (by rfl) T.z_int (by decide +kernel) (pa_cons (pe_cmpR op_eq (pe_meth (pv 0) T.cl_Word T.m_Word_mark (ok_Word_mark T) (hr.mono (by decide)) T.b_Word_mark .nil pass0 (pa_cons (pv 1) (pa_cons (pv 2) pa_nil))) pe_str (nomark _)) pa_nil)) (nomark _))))), ?_⟩
    refine ⟨_, rfl, ?_⟩
    apply rep_meth (m := "homes") h_made (by decide +kernel)
    refine ⟨_, rfl, ?_⟩
    refine ⟨_, rfl, ?_⟩
    refine ⟨ms, _, x_made, x_size, x_at, _, rfl, hW.enter0, h_made, hM, fun r1 u4 H5 hM e3 h2 => ?_⟩
    replace h_made := rep_ext e3 h_made
    replace hW := hW.ret0 e3
    obtain rfl := of_v h2
    refine ⟨_, rfl, ?_⟩
    apply rep_meth (m := "homes") h_made (by decide +kernel)
    refine ⟨_, rfl, ?_⟩
    refine ⟨_, rfl, ?_⟩
    refine ⟨_, _, rfl, rfl, ?_⟩
    refine ⟨ms, _, x_made, x_size, (x_at - (1 : Int)), _, rfl, hW.enter0, h_made, hM, fun r6 u9 H10 hM e8 h7 => ?_⟩
    replace h_made := rep_ext e8 h_made
    replace hW := hW.ret0 e8
    obtain rfl := of_v h7
    refine ⟨_, _, rfl, rfl, ?_⟩
    refine ⟨_, rfl, ?_⟩
    refine ⟨_, rfl, ?_⟩
    apply rep_meth (m := "mark") h_made (by decide +kernel)
    refine ⟨_, rfl, ?_⟩
    refine ⟨_, rfl, ?_⟩
    refine ⟨ms, _, x_made, x_size, x_at, _, rfl, hW.enter0, h_made, hM, fun r11 u14 H15 hM e13 h12 => ?_⟩
    replace h_made := rep_ext e13 h_made
    replace hW := hW.ret0 e13
    obtain rfl := of_v h12
    refine ⟨rfl, ?_⟩
    refine .inr ⟨_, rfl, ?_⟩
    refine ⟨rfl, ?_⟩
    exact hQ (decide (V.int (r1 - r6) = V.int (if (decide (V.str r11 = V.str ("h" : Str))) then (1 : Int) else 0))) _ _ hM hW.out rep_v
def M_great_right (x_made : (Str × Str × Str)) (x_parts_here : (Str × Str × Str)) (x_size : Int) (KM : Bool → Prop) : Prop :=
  (M_short x_parts_here x_size fun r1 => (M_line x_parts_here r1 fun r6 => (M_great (0 : Int) fun r11 => (0 < x_size ∧ (([(1 : Int), (2 : Int), (5 : Int), x_size, (x_size - (1 : Int)), (x_size - (4 : Int)), (x_size - (9 : Int)), ((1 : Int) + (r11 % x_size)), (x_size / (2 : Int))] : List Int).length < 100000 ∧ filC (fun (x41 : Int) (k33 : Option Int → Prop) => (if (decide ((1 : Int) ≤ x41)) = true then (if (decide (x41 ≤ x_size)) = true then (k33 (some x41)) else (k33 none)) else (k33 none))) ([(1 : Int), (2 : Int), (5 : Int), x_size, (x_size - (1 : Int)), (x_size - (4 : Int)), (x_size - (9 : Int)), ((1 : Int) + (r11 % x_size)), (x_size / (2 : Int))] : List Int) [] fun ys46 => (forC (fun (x55 : Int) (s57 : Unit) (k58 : Unit → Prop) => (M_place_in x_parts_here x_size r1 x55 fun r67 => (r6.length ≤ sizeLine ∧ ∃ c73, atI r6.cps.toList (r67 - (1 : Int)) = some c73 ∧ (M_Word_mark x_made x_size x55 fun r74 => (if (!(decide (V.str r74 = V.str (Str.mk #[c73])))) = true then (KM false) else (M_steps_right x_made x_size x55 fun r79 => (if (!r79) = true then (KM false) else (k58 ())))))))) ys46 () fun s84 => (KM true)))))))
def sp_great_right (A : Ad) : Sp := fun vs H Q _ => ∃ (ms : List Addr) (ap : Addr) (v_made : V) (v_parts_here : V) (x_made : (Str × Str × Str)) (x_parts_here : (Str × Str × Str)) (x_size : Int) (KM : Bool → Prop), vs = [.ref ap, v_made, v_parts_here, V.int x_size] ∧ Wd ms [ap] [] H H ∧ rep ms H (eWord A x_made) v_made ∧ rep ms H (D.tup [(D.v (V.str x_parts_here.1)), (D.v (V.str x_parts_here.2.1)), (D.v (V.str x_parts_here.2.2))]) v_parts_here ∧ M_great_right x_made x_parts_here x_size KM ∧ ∀ (r : Bool) (u : V) (H1 : Hp), KM r → Ret [ap] H H1 → rep ms H1 (D.v (V.bl r)) u → Q u H1
set_option maxHeartbeats 16000000 in
theorem ok_great_right {P : Program} {w : World} {K : PySem.W.Frag} {mg : Str → Option Value} {base : Heap} {A : Ad} (T : Txt K mg A) : FnOk P w K mg base CX0 6 A.a_great_right A.d_great_right ["_law_pot_here", "_law_made", "_law_parts_here", "_law_size"] (sp_great_right A) := by
  refine T.F_great_right.ok sc_great_right (fun vs H Q E h => ?_) (fun cdv A_ outer s_ H_0 vs Q E hr h => ?_)
  · obtain ⟨ms, ap, v_made, v_parts_here, x_made, x_parts_here, x_size, KM, rfl, _⟩ := h
    rfl
  · obtain ⟨ms, ap, v_made, v_parts_here, x_made, x_parts_here, x_size, KM, rfl, hW, h_made, h_parts_here, hM, hQ⟩ := h
    unfold M_great_right at hM
    refine ⟨_, (pss_cons (ps_set (i := 4) sc_great_right.nd rfl (by first | exact Or.inl rfl | exact Or.inr rfl) (pe_call (ok_short T) (hr.mono (by decide)) (by rfl) T.g_short T.F_short.kp T.b_short .nil pass0 (pa_cons (pv 2) (pa_cons (pv 3) pa_nil)))) (pss_cons (ps_set (i := 5) sc_great_right.nd rfl (by first | exact Or.inl rfl | exact Or.inr rfl) (pe_call (ok_line T) (hr.mono (by decide)) (by rfl) T.g_line T.F_line.kp T.b_line .nil pass0 (pa_cons (pv 2) (pa_cons (pv 4) pa_nil)))) (pss_cons (ps_set (i := 6) sc_great_right.nd rfl (by first | exact Or.inl rfl | exact Or.inr rfl) (pe_lst (pa_cons pe_int (pa_cons pe_int (pa_cons pe_int (pa_cons (pv 3) (pa_cons (pe_op op_sub (pv 3) pe_int) (pa_cons (pe_op op_sub (pv 3) pe_int) (pa_cons (pe_op op_sub (pv 3) pe_int) (pa_cons (pe_op op_add pe_int (pe_op op_mod (pe_callTy call_int1 (by rfl) T.z_int (by decide +kernel) (pa_cons (pe_call (ok_great T) (hr.mono (by decide)) (by rfl) T.g_great T.F_great.kp T.b_great .nil pass0 (pa_cons (pv 0) (pa_cons pe_int pa_nil))) pa_nil)) (pv 3))) (pa_cons (pe_op op_fdivW (pv 3) pe_int) pa_nil))))))))))) (pss_cons (ps_for PassesOwn.never rfl (pi_list (pe_lc (own := [("_law_one", 9)]) (g := gName 9) rfl sc_great_right.nd (pi_list (pv 6)) (blkOk_by (N := ["_law_pot_here", "_law_made", "_law_parts_here", "_law_size", "_law_short_here", "_law_line_here", "_law_some", "_law_at", "_law_due", "_law_one"]) (sc := defScope s_great_right) (by decide +kernel)) (fun _ _ _ _ _ => pg_name (i := 9) sc_great_right.nd rfl (by first | exact Or.inl rfl | exact Or.inr rfl)) (fun _ _ _ _ _ => (pts_one (pt_chain op_le op_le pe_int (pv 9) (pv 3)))) (fun _ _ _ _ _ => (pv 9)))) (pg_name (i := 7) sc_great_right.nd rfl (by first | exact Or.inl rfl | exact Or.inr rfl)) (pss_cons (ps_set (i := 8) sc_great_right.nd rfl (by first | exact Or.inl rfl | exact Or.inr rfl) (pe_ix ix_str (pv 5) (pe_op op_sub (pe_call (ok_place_in T) (hr.mono (by decide)) (by rfl) T.g_place_in T.F_place_in.kp T.b_place_in .nil pass0 (pa_cons (pv 2) (pa_cons (pv 3) (pa_cons (pv 4) (pa_cons (pv 7) pa_nil))))) pe_int) (fun _ _ => rfl))) (pss_one (ps_if (PW.pt (pw_or (pt_cmpR op_ne (pe_meth (pv 1) T.cl_Word T.m_Word_mark (ok_Word_mark T) (hr.mono (by decide)) T.b_Word_mark .nil pass0 (pa_cons (pv 3) (pa_cons (pv 7) pa_nil))) (pv 8) (nomark _)) (pw_or1 (pt_not (pt_val (pe_call (ok_steps_right T) (hr.mono (by decide)) (by rfl) T.g_steps_right T.F_steps_right.kp T.b_steps_right .nil pass0 (pa_cons (pv 1) (pa_cons (pv 3) (pa_cons (pv 7) pa_nil))))))))) (pss_one (ps_ret pe_bl)) pss_nil)))) (pss_one (ps_ret pe_bl)))))), ?_⟩
    refine ⟨_, rfl, ?_⟩
    refine ⟨_, rfl, ?_⟩
    refine ⟨ms, _, x_parts_here, x_size, _, rfl, hW.enter0, h_parts_here, hM, fun r1 u4 H5 hM e3 h2 => ?_⟩
    replace h_made := rep_ext e3 h_made
    replace h_parts_here := rep_ext e3 h_parts_here
    replace hW := hW.ret0 e3
    obtain rfl := of_v h2
    refine ⟨_, rfl, ?_⟩
    refine ⟨_, rfl, ?_⟩
    refine ⟨ms, _, x_parts_here, r1, _, rfl, hW.enter0, h_parts_here, hM, fun r6 u9 H10 hM e8 h7 => ?_⟩
    replace h_made := rep_ext e8 h_made
    replace h_parts_here := rep_ext e8 h_parts_here
    replace hW := hW.ret0 e8
    obtain rfl := of_v h7
    refine ⟨_, rfl, ?_⟩
    refine ⟨_, rfl, ?_⟩
    refine ⟨_, _, rfl, rfl, ?_⟩
    refine ⟨_, rfl, ?_⟩
    refine ⟨_, _, rfl, rfl, ?_⟩
    refine ⟨_, rfl, ?_⟩
    refine ⟨_, _, rfl, rfl, ?_⟩
    refine ⟨_, rfl, ?_⟩
    refine ⟨ms, ap, (0 : Int), _, rfl, hW.enterP, hM, fun r11 u14 H15 hM e13 h12 => ?_⟩
    replace h_made := rep_ret hW e13 h_made
    replace h_parts_here := rep_ret hW e13 h_parts_here
    replace hW := hW.retP e13
    obtain rfl := of_v h12
    refine .inl ⟨_, rfl, ?_⟩
    refine ⟨_, rfl, ?_⟩
    obtain ⟨g16, hM⟩ := hM
    refine ⟨_, _, rfl, rfl, g16, ?_⟩
    refine ⟨_, _, rfl, rfl, ?_⟩
    refine ⟨_, rfl, ?_⟩
    refine ⟨_, _, rfl, rfl, ⟨by decide, by decide⟩, ?_⟩
    refine ⟨(by show 9 ≤ sizeLine; decide), ?_⟩
    intro p17 n21
    have e18 := Ext.new (H := H15) (o := (HO.lst [V.int (1 : Int), V.int (2 : Int), V.int (5 : Int), V.int x_size, V.int (x_size - (1 : Int)), V.int (x_size - (4 : Int)), V.int (x_size - (9 : Int)), V.int ((1 : Int) + (r11 % x_size)), V.int (x_size / (2 : Int))])) n21
    have hp19 : upd H15 p17 (HO.lst [V.int (1 : Int), V.int (2 : Int), V.int (5 : Int), V.int x_size, V.int (x_size - (1 : Int)), V.int (x_size - (4 : Int)), V.int (x_size - (9 : Int)), V.int ((1 : Int) + (r11 % x_size)), V.int (x_size / (2 : Int))]) p17 = some (HO.lst [V.int (1 : Int), V.int (2 : Int), V.int (5 : Int), V.int x_size, V.int (x_size - (1 : Int)), V.int (x_size - (4 : Int)), V.int (x_size - (9 : Int)), V.int ((1 : Int) + (r11 % x_size)), V.int (x_size / (2 : Int))]) := upd_same
    generalize upd H15 p17 (HO.lst [V.int (1 : Int), V.int (2 : Int), V.int (5 : Int), V.int x_size, V.int (x_size - (1 : Int)), V.int (x_size - (4 : Int)), V.int (x_size - (9 : Int)), V.int ((1 : Int) + (r11 % x_size)), V.int (x_size / (2 : Int))]) = H22 at e18 hp19 ⊢
    have h20 : rep ms H22 (D.lst (([(1 : Int), (2 : Int), (5 : Int), x_size, (x_size - (1 : Int)), (x_size - (4 : Int)), (x_size - (9 : Int)), ((1 : Int) + (r11 % x_size)), (x_size / (2 : Int))] : List Int).map (fun y_ : Int => (D.v (V.int y_))))) (.ref p17) := rep_lst_mk hW n21 e18 hp19 (repL_cons rep_v (repL_cons rep_v (repL_cons rep_v (repL_cons rep_v (repL_cons rep_v (repL_cons rep_v (repL_cons rep_v (repL_cons rep_v (repL_cons rep_v repL_nil)))))))))
    replace h_made := rep_ext e18 h_made
    replace h_parts_here := rep_ext e18 h_parts_here
    replace hW := hW.ret0 e18
    refine ⟨_, rfl, ?_⟩
    apply rep_iter h20
    intro a23 xs24 _ an25 hp26 hl27
    refine fun L28 nl29 => ?_
    have hW_L28 := hW
    refine lf_listC (items := ([(1 : Int), (2 : Int), (5 : Int), x_size, (x_size - (1 : Int)), (x_size - (4 : Int)), (x_size - (9 : Int)), ((1 : Int) + (r11 % x_size)), (x_size / (2 : Int))] : List Int)) (e := (fun y_ : Int => (D.v (V.int y_)))) (eb := (fun y_ : Int => (D.v (V.int y_)))) hW an25 hp26 hl27 nl29 hM ?_ ?_
    · skip
      intro x41 u42 n30 ys31 vs32 k33 H44 hn T34 h43 hM Nx39 hN38 hNn40
      obtain ⟨hW, hk35, ha36, ny37⟩ := T34
      have h_made := rep_keep hk35 (rep_new nl29 h_made)
      have h_parts_here := rep_keep hk35 (rep_new nl29 h_parts_here)
      have h20 := rep_keep hk35 (rep_new nl29 h20)
      obtain rfl := of_v h43
      refine ⟨rfl, ?_⟩
      refine ⟨_, rfl, ?_⟩
      refine ⟨_, _, rfl, rfl, ?_⟩
      refine ⟨_, rfl, ?_⟩
      refine ite3 hM (fun hM => ?_) (fun hM => ?_)
      · skip
        refine ⟨_, rfl, ?_⟩
        refine ⟨_, _, rfl, rfl, ?_⟩
        refine ⟨_, rfl, ?_⟩
        refine ite3 hM (fun hM => ?_) (fun hM => ?_)
        · skip
          refine ⟨_, rfl, ?_⟩
          exact lc_end (y := x41) (new_ne hW_L28 nl29) hn hW hk35 ha36 ny37 rep_v (fun vs_ H_ T_ => hN38 x41 vs_ H_ hM T_)
        · skip
          exact hNn40 _ _ hM ⟨hW, hk35, ha36, Nat.le_succ_of_le ny37⟩
      · skip
        refine ⟨_, rfl, ?_⟩
        refine iteF ?_
        exact hNn40 _ _ hM ⟨hW, hk35, ha36, Nat.le_succ_of_le ny37⟩
    · skip
      intro ys46 H49 hM hW hk47 h48
      have h_made := rep_keep hk47 h_made
      have h_parts_here := rep_keep hk47 h_parts_here
      have h20 := rep_keep hk47 h20
      apply rep_iter h48
      intro a50 xs51 _ an52 hp53 hl54
      refine for_listC (items := ys46) (e := (fun y_ : Int => (D.v (V.int y_)))) (S := Unit) (cs := fun _ => []) (fun (s : Unit) σ_ _ => ∃ w_0, ∃ w_1, σ_ = [some (V.ref ap), some v_made, some v_parts_here, some (V.int x_size), some (V.int r1), some (V.str r6), some (V.ref p17), w_0, w_1, none]) () hW an52 hp53 hl54 hM ⟨_, _, rfl⟩ ?_ ?_
      · skip
        rintro x55 u56 s57 k58 _ H66 hW hk59 ⟨w64, w65, rfl⟩ h60 hM Nx61 hN62
        have h_made := rep_keep hk59 h_made
        have h_parts_here := rep_keep hk59 h_parts_here
        have h20 := rep_keep hk59 h20
        have h48 := rep_keep hk59 h48
        obtain rfl := of_v h60
        refine ⟨_, rfl, ?_⟩
        refine ⟨_, rfl, ?_⟩
        refine ⟨_, rfl, ?_⟩
        refine ⟨_, rfl, ?_⟩
        refine ⟨_, rfl, ?_⟩
        refine ⟨ms, _, x_parts_here, x_size, r1, x55, _, rfl, hW.enter0, h_parts_here, hM, fun r67 u70 H71 hM e69 h68 => ?_⟩
        replace h_made := rep_ext e69 h_made
        replace h_parts_here := rep_ext e69 h_parts_here
        replace h20 := rep_ext e69 h20
        replace h48 := rep_ext e69 h48
        replace hk59 := keep_ext e69 hk59
        replace hW := hW.ret0 e69
        obtain rfl := of_v h68
        refine ⟨_, _, rfl, rfl, ?_⟩
        obtain ⟨g72, hM⟩ := hM
        obtain ⟨c73, c73h, hM⟩ := hM
        refine ⟨_, _, _, rfl, rfl, g72, c73h, ?_⟩
        refine ⟨_, rfl, ?_⟩
        apply rep_meth (m := "mark") h_made (by decide +kernel)
        refine ⟨_, rfl, ?_⟩
        refine ⟨_, rfl, ?_⟩
        refine ⟨ms, _, x_made, x_size, x55, _, rfl, hW.enter0, h_made, hM, fun r74 u77 H78 hM e76 h75 => ?_⟩
        replace h_made := rep_ext e76 h_made
        replace h_parts_here := rep_ext e76 h_parts_here
        replace h20 := rep_ext e76 h20
        replace h48 := rep_ext e76 h48
        replace hk59 := keep_ext e76 hk59
        replace hW := hW.ret0 e76
        obtain rfl := of_v h75
        refine ⟨_, rfl, ?_⟩
        refine ⟨rfl, ?_⟩
        refine ⟨_, rfl, ?_⟩
        refine ite3 hM (fun hM => ?_) (fun hM => ?_)
        · skip
          refine iteT ?_
          exact hQ false _ _ hM hW.out rep_v
        · skip
          refine ⟨_, rfl, ?_⟩
          refine ⟨_, rfl, ?_⟩
          refine ⟨_, rfl, ?_⟩
          refine ⟨ms, _, x_made, x_size, x55, _, rfl, hW.enter0, h_made, hM, fun r79 u82 H83 hM e81 h80 => ?_⟩
          replace h_made := rep_ext e81 h_made
          replace h_parts_here := rep_ext e81 h_parts_here
          replace h20 := rep_ext e81 h20
          replace h48 := rep_ext e81 h48
          replace hk59 := keep_ext e81 hk59
          replace hW := hW.ret0 e81
          obtain rfl := of_v h80
          refine ⟨_, rfl, ?_⟩
          refine ite3 hM (fun hM => ?_) (fun hM => ?_)
          · skip
            exact hQ false _ _ hM hW.out rep_v
          · skip
            exact hN62 () _ _ hM hW hk59 ⟨_, _, rfl⟩
      · skip
        rintro s84 _ H88 hM hW hk85 ⟨w86, w87, rfl⟩
        have h_made := rep_keep hk85 h_made
        have h_parts_here := rep_keep hk85 h_parts_here
        have h20 := rep_keep hk85 h20
        have h48 := rep_keep hk85 h48
        exact hQ true _ _ hM hW.out rep_v
def M_rounds_right (x_made : (Str × Str × Str)) (x_parts_here : (Str × Str × Str)) (x_size : Int) (KM : Bool → Prop) : Prop :=
  (x_parts_here.1.length ≤ sizeLine ∧ (x_parts_here.2.2.length ≤ sizeLine ∧ (x_parts_here.2.1.length ≤ sizeLine ∧ (if (decide (((x_size - (x_parts_here.2.2.length : Int)) - (x_parts_here.1.length : Int)) < (x_parts_here.2.1.length : Int))) = true then (KM true) else (M_great (0 : Int) fun r10 => (0 < ((((x_size - (x_parts_here.2.2.length : Int)) - (x_parts_here.1.length : Int)) - (x_parts_here.2.1.length : Int)) + (1 : Int)) ∧ (M_Word_homes x_made x_size (((x_parts_here.1.length : Int) + (r10 % ((((x_size - (x_parts_here.2.2.length : Int)) - (x_parts_here.1.length : Int)) - (x_parts_here.2.1.length : Int)) + (1 : Int)))) + (x_parts_here.2.1.length : Int)) fun r16 => (M_Word_homes x_made x_size ((x_parts_here.1.length : Int) + (r10 % ((((x_size - (x_parts_here.2.2.length : Int)) - (x_parts_here.1.length : Int)) - (x_parts_here.2.1.length : Int)) + (1 : Int)))) fun r21 => (if (!(decide (V.int (r16 - r21) = V.int (Txt.count x_parts_here.2.1 ("h" : Str) : Int)))) = true then (KM false) else (CDivW ((x_size - (x_parts_here.2.2.length : Int)) - (x_parts_here.1.length : Int)) (x_parts_here.2.1.length : Int) ∧ (CMulW (((x_size - (x_parts_here.2.2.length : Int)) - (x_parts_here.1.length : Int)) / (x_parts_here.2.1.length : Int)) (Txt.count x_parts_here.2.1 ("h" : Str) : Int) ∧ (CMulW (((x_size - (x_parts_here.2.2.length : Int)) - (x_parts_here.1.length : Int)) / (x_parts_here.2.1.length : Int)) (x_parts_here.2.1.length : Int) ∧ (M_Word_homes x_made x_size ((x_parts_here.1.length : Int) + ((((x_size - (x_parts_here.2.2.length : Int)) - (x_parts_here.1.length : Int)) / (x_parts_here.2.1.length : Int)) * (x_parts_here.2.1.length : Int))) fun r35 => (if (!(decide (V.int r35 = V.int ((Txt.count x_parts_here.1 ("h" : Str) : Int) + ((((x_size - (x_parts_here.2.2.length : Int)) - (x_parts_here.1.length : Int)) / (x_parts_here.2.1.length : Int)) * (Txt.count x_parts_here.2.1 ("h" : Str) : Int)))))) = true then (KM false) else (M_Word_homes x_made x_size (x_parts_here.1.length : Int) fun r40 => (if (!(decide (V.int r40 = V.int (Txt.count x_parts_here.1 ("h" : Str) : Int)))) = true then (KM false) else (M_Word_homes x_made x_size x_size fun r47 => (M_Word_homes x_made x_size (x_size - (x_parts_here.2.2.length : Int)) fun r52 => (if (decide (V.int (r47 - r52) = V.int (Txt.count x_parts_here.2.2 ("h" : Str) : Int))) = true then (M_Word_homes x_made x_size (0 : Int) fun r59 => (KM (decide (V.int r59 = V.int (0 : Int))))) else (KM false))))))))))))))))))))
def sp_rounds_right (A : Ad) : Sp := fun vs H Q _ => ∃ (ms : List Addr) (ap : Addr) (v_made : V) (v_parts_here : V) (x_made : (Str × Str × Str)) (x_parts_here : (Str × Str × Str)) (x_size : Int) (KM : Bool → Prop), vs = [.ref ap, v_made, v_parts_here, V.int x_size] ∧ Wd ms [ap] [] H H ∧ rep ms H (eWord A x_made) v_made ∧ rep ms H (D.tup [(D.v (V.str x_parts_here.1)), (D.v (V.str x_parts_here.2.1)), (D.v (V.str x_parts_here.2.2))]) v_parts_here ∧ M_rounds_right x_made x_parts_here x_size KM ∧ ∀ (r : Bool) (u : V) (H1 : Hp), KM r → Ret [ap] H H1 → rep ms H1 (D.v (V.bl r)) u → Q u H1
set_option maxHeartbeats 16000000 in
theorem ok_rounds_right {P : Program} {w : World} {K : PySem.W.Frag} {mg : Str → Option Value} {base : Heap} {A : Ad} (T : Txt K mg A) : FnOk P w K mg base CX0 5 A.a_rounds_right A.d_rounds_right ["_law_pot_here", "_law_made", "_law_parts_here", "_law_size"] (sp_rounds_right A) := by
  refine T.F_rounds_right.ok sc_rounds_right (fun vs H Q E h => ?_) (fun cdv A_ outer s_ H_0 vs Q E hr h => ?_)
  · obtain ⟨ms, ap, v_made, v_parts_here, x_made, x_parts_here, x_size, KM, rfl, _⟩ := h
    rfl
  · obtain ⟨ms, ap, v_made, v_parts_here, x_made, x_parts_here, x_size, KM, rfl, hW, h_made, h_parts_here, hM, hQ⟩ := h
    unfold M_rounds_right at hM
    refine ⟨_, (pss_cons (ps_par (i := 4) (j := 5) (by rfl) sc_rounds_right.nd rfl rfl (by decide) rfl rfl (pa_cons (pe_callB call_len_str (by rfl) T.z_len PySem.boot_len (pa_cons (pe_ix ix_tup (pv 2) pe_int (fun _ _ => rfl)) pa_nil)) (pa_cons (pe_op op_sub (pv 3) (pe_callB call_len_str (by rfl) T.z_len PySem.boot_len (pa_cons (pe_ix ix_tup (pv 2) pe_int (fun _ _ => rfl)) pa_nil))) pa_nil)) (by rfl)) (pss_cons (ps_set (i := 6) sc_rounds_right.nd rfl (by first | exact Or.inl rfl | exact Or.inr rfl) (pe_callB call_len_str (by rfl) T.z_len PySem.boot_len (pa_cons (pe_ix ix_tup (pv 2) pe_int (fun _ _ => rfl)) pa_nil))) (pss_cons (ps_if (pt_cmpR op_lt (pe_op op_sub (pv 5) (pv 4)) (pv 6) (nomark _)) (pss_one (ps_ret pe_bl)) pss_nil) (pss_cons (ps_set (i := 7) sc_rounds_right.nd rfl (by first | exact Or.inl rfl | exact Or.inr rfl) (pe_op op_add (pv 4) (pe_op op_mod (pe_callTy call_int1 (by rfl) T.z_int (by decide +kernel) (pa_cons (pe_call (ok_great T) (hr.mono (by decide)) (by rfl) T.g_great T.F_great.kp T.b_great .nil pass0 (pa_cons (pv 0) (pa_cons pe_int pa_nil))) pa_nil)) (pe_op op_add (pe_op op_sub (pe_op op_sub (pv 5) (pv 4)) (pv 6)) pe_int)))) (pss_cons (ps_if (pt_cmpR op_ne (pe_op op_sub (pe_meth (pv 1) T.cl_Word T.m_Word_homes (ok_Word_homes T) (hr.mono (by decide)) T.b_Word_homes .nil pass0 (pa_cons (pv 3) (pa_cons (pe_op op_add (pv 7) (pv 6)) pa_nil))) (pe_meth (pv 1) T.cl_Word T.m_Word_homes (ok_Word_homes T) (hr.mono (by decide)) T.b_Word_homes .nil pass0 (pa_cons (pv 3) (pa_cons (pv 7) pa_nil)))) (pe_m1 PySem.F.slot_str_count PySem.F.type_str_count mt_count (pe_ix ix_tup (pv 2) pe_int (fun _ _ => rfl)) pe_str) (nomark _)) (pss_one (ps_ret pe_bl)) pss_nil) (pss_cons (ps_set (i := 8) sc_rounds_right.nd rfl (by first | exact Or.inl rfl | exact Or.inr rfl) (pe_op op_fdivW (pe_op op_sub (pv 5) (pv 4)) (pv 6))) (pss_cons (ps_set (i := 9) sc_rounds_right.nd rfl (by first | exact Or.inl rfl | exact Or.inr rfl) (pe_op op_add (pe_m1 PySem.F.slot_str_count PySem.F.type_str_count mt_count (pe_ix ix_tup (pv 2) pe_int (fun _ _ => rfl)) pe_str) (pe_op op_mulW (pv 8) (pe_m1 PySem.F.slot_str_count PySem.F.type_str_count mt_count (pe_ix ix_tup (pv 2) pe_int (fun _ _ => rfl)) pe_str)))) (pss_cons (ps_if (PW.pt (pw_or (pt_cmpR op_ne (pe_meth (pv 1) T.cl_Word T.m_Word_homes (ok_Word_homes T) (hr.mono (by decide)) T.b_Word_homes .nil pass0 (pa_cons (pv 3) (pa_cons (pe_op op_add (pv 4) (pe_op op_mulW (pv 8) (pv 6))) pa_nil))) (pv 9) (nomark _)) (pw_or1 (pt_cmpR op_ne (pe_meth (pv 1) T.cl_Word T.m_Word_homes (ok_Word_homes T) (hr.mono (by decide)) T.b_Word_homes .nil pass0 (pa_cons (pv 3) (pa_cons (pv 4) pa_nil))) (pe_m1 PySem.F.slot_str_count PySem.F.type_str_count mt_count (pe_ix ix_tup (pv 2) pe_int (fun _ _ => rfl)) pe_str) (nomark _))))) (pss_one (ps_ret pe_bl)) pss_nil) (pss_cons (ps_set (i := 10) sc_rounds_right.nd rfl (by first | exact Or.inl rfl | exact Or.inr rfl) (pe_op op_sub (pe_meth (pv 1) T.cl_Word T.m_Word_homes (ok_Word_homes T) (hr.mono (by decide)) T.b_Word_homes .nil pass0 (pa_cons (pv 3) (pa_cons (pv 3) pa_nil))) (pe_meth (pv 1) T.cl_Word T.m_Word_homes (ok_Word_homes T) (hr.mono (by decide)) T.b_Word_homes .nil pass0 (pa_cons (pv 3) (pa_cons (pv 5) pa_nil))))) (pss_one (ps_ret (pe_and (pe_cmpR op_eq (pv 10) (pe_m1 PySem.F.slot_str_count PySem.F.type_str_count mt_count (pe_ix ix_tup (pv 2) pe_int (fun _ _ => rfl)) pe_str) (nomark _)) (pe_one (pe_cmpR op_eq (pe_meth (pv 1) T.cl_Word T.m_Word_homes (ok_Word_homes T) (hr.mono (by decide)) T.b_Word_homes .nil pass0 (pa_cons (pv 3) (pa_cons pe_int pa_nil))) pe_int (nomark _))))))))))))))), ?_⟩
    refine ⟨_, rfl, ?_⟩
    apply rep_ixT 0 h_parts_here rfl rfl
    intro u2 h1
    obtain rfl := of_v h1
    obtain ⟨g3, hM⟩ := hM
    refine ⟨_, rfl, g3, ?_⟩
    refine ⟨_, rfl, ?_⟩
    refine ⟨_, rfl, ?_⟩
    apply rep_ixT 2 h_parts_here rfl rfl
    intro u5 h4
    obtain rfl := of_v h4
    obtain ⟨g6, hM⟩ := hM
    refine ⟨_, rfl, g6, ?_⟩
    refine ⟨_, _, rfl, rfl, ?_⟩
    refine ⟨_, _, rfl, ?_⟩
    refine ⟨_, rfl, ?_⟩
    apply rep_ixT 1 h_parts_here rfl rfl
    intro u8 h7
    obtain rfl := of_v h7
    obtain ⟨g9, hM⟩ := hM
    refine ⟨_, rfl, g9, ?_⟩
    refine ⟨_, rfl, ?_⟩
    refine ⟨_, rfl, ?_⟩
    refine ⟨_, _, rfl, rfl, ?_⟩
    refine ⟨_, rfl, ?_⟩
    refine ⟨_, _, rfl, rfl, ?_⟩
    refine ⟨_, rfl, ?_⟩
    refine ite3 hM (fun hM => ?_) (fun hM => ?_)
    · skip
      exact hQ true _ _ hM hW.out rep_v
    · skip
      refine ⟨_, rfl, ?_⟩
      refine ⟨_, rfl, ?_⟩
      refine ⟨ms, ap, (0 : Int), _, rfl, hW.enterP, hM, fun r10 u13 H14 hM e12 h11 => ?_⟩
      replace h_made := rep_ret hW e12 h_made
      replace h_parts_here := rep_ret hW e12 h_parts_here
      replace hW := hW.retP e12
      obtain rfl := of_v h11
      refine .inl ⟨_, rfl, ?_⟩
      refine ⟨_, rfl, ?_⟩
      refine ⟨_, rfl, ?_⟩
      refine ⟨_, _, rfl, rfl, ?_⟩
      refine ⟨_, rfl, ?_⟩
      refine ⟨_, _, rfl, rfl, ?_⟩
      refine ⟨_, _, rfl, rfl, ?_⟩
      obtain ⟨g15, hM⟩ := hM
      refine ⟨_, _, rfl, rfl, g15, ?_⟩
      refine ⟨_, _, rfl, rfl, ?_⟩
      refine ⟨_, rfl, ?_⟩
      apply rep_meth (m := "homes") h_made (by decide +kernel)
      refine ⟨_, rfl, ?_⟩
      refine ⟨_, rfl, ?_⟩
      refine ⟨_, rfl, ?_⟩
      refine ⟨_, _, rfl, rfl, ?_⟩
      refine ⟨ms, _, x_made, x_size, (((x_parts_here.1.length : Int) + (r10 % ((((x_size - (x_parts_here.2.2.length : Int)) - (x_parts_here.1.length : Int)) - (x_parts_here.2.1.length : Int)) + (1 : Int)))) + (x_parts_here.2.1.length : Int)), _, rfl, hW.enter0, h_made, hM, fun r16 u19 H20 hM e18 h17 => ?_⟩
      replace h_made := rep_ext e18 h_made
      replace h_parts_here := rep_ext e18 h_parts_here
      replace hW := hW.ret0 e18
      obtain rfl := of_v h17
      refine ⟨_, rfl, ?_⟩
      apply rep_meth (m := "homes") h_made (by decide +kernel)
      refine ⟨_, rfl, ?_⟩
      refine ⟨_, rfl, ?_⟩
      refine ⟨ms, _, x_made, x_size, ((x_parts_here.1.length : Int) + (r10 % ((((x_size - (x_parts_here.2.2.length : Int)) - (x_parts_here.1.length : Int)) - (x_parts_here.2.1.length : Int)) + (1 : Int)))), _, rfl, hW.enter0, h_made, hM, fun r21 u24 H25 hM e23 h22 => ?_⟩
      replace h_made := rep_ext e23 h_made
      replace h_parts_here := rep_ext e23 h_parts_here
      replace hW := hW.ret0 e23
      obtain rfl := of_v h22
      refine ⟨_, _, rfl, rfl, ?_⟩
      refine ⟨_, rfl, ?_⟩
      apply rep_ixT 1 h_parts_here rfl rfl
      intro u27 h26
      obtain rfl := of_v h26
      refine ⟨⟨_, rfl⟩, ?_⟩
      refine ⟨_, _, rfl, rfl, ?_⟩
      refine ⟨rfl, ?_⟩
      refine ⟨_, rfl, ?_⟩
      refine ite3 hM (fun hM => ?_) (fun hM => ?_)
      · skip
        exact hQ false _ _ hM hW.out rep_v
      · skip
        refine ⟨_, rfl, ?_⟩
        refine ⟨_, rfl, ?_⟩
        refine ⟨_, _, rfl, rfl, ?_⟩
        refine ⟨_, rfl, ?_⟩
        obtain ⟨g28, hM⟩ := hM
        refine ⟨_, _, rfl, rfl, g28, ?_⟩
        refine ⟨_, rfl, ?_⟩
        apply rep_ixT 0 h_parts_here rfl rfl
        intro u30 h29
        obtain rfl := of_v h29
        refine ⟨⟨_, rfl⟩, ?_⟩
        refine ⟨_, _, rfl, rfl, ?_⟩
        refine ⟨_, rfl, ?_⟩
        refine ⟨_, rfl, ?_⟩
        apply rep_ixT 1 h_parts_here rfl rfl
        intro u32 h31
        obtain rfl := of_v h31
        refine ⟨⟨_, rfl⟩, ?_⟩
        refine ⟨_, _, rfl, rfl, ?_⟩
        obtain ⟨g33, hM⟩ := hM
        refine ⟨_, _, rfl, rfl, g33, ?_⟩
        refine ⟨_, _, rfl, rfl, ?_⟩
        refine ⟨_, rfl, ?_⟩
        apply rep_meth (m := "homes") h_made (by decide +kernel)
        refine ⟨_, rfl, ?_⟩
        refine ⟨_, rfl, ?_⟩
        refine ⟨_, rfl, ?_⟩
        refine ⟨_, rfl, ?_⟩
        obtain ⟨g34, hM⟩ := hM
        refine ⟨_, _, rfl, rfl, g34, ?_⟩
        refine ⟨_, _, rfl, rfl, ?_⟩
        refine ⟨ms, _, x_made, x_size, ((x_parts_here.1.length : Int) + ((((x_size - (x_parts_here.2.2.length : Int)) - (x_parts_here.1.length : Int)) / (x_parts_here.2.1.length : Int)) * (x_parts_here.2.1.length : Int))), _, rfl, hW.enter0, h_made, hM, fun r35 u38 H39 hM e37 h36 => ?_⟩
        replace h_made := rep_ext e37 h_made
        replace h_parts_here := rep_ext e37 h_parts_here
        replace hW := hW.ret0 e37
        obtain rfl := of_v h36
        refine ⟨_, rfl, ?_⟩
        refine ⟨rfl, ?_⟩
        refine ⟨_, rfl, ?_⟩
        refine ite3 hM (fun hM => ?_) (fun hM => ?_)
        · skip
          refine iteT ?_
          exact hQ false _ _ hM hW.out rep_v
        · skip
          refine ⟨_, rfl, ?_⟩
          apply rep_meth (m := "homes") h_made (by decide +kernel)
          refine ⟨_, rfl, ?_⟩
          refine ⟨_, rfl, ?_⟩
          refine ⟨ms, _, x_made, x_size, (x_parts_here.1.length : Int), _, rfl, hW.enter0, h_made, hM, fun r40 u43 H44 hM e42 h41 => ?_⟩
          replace h_made := rep_ext e42 h_made
          replace h_parts_here := rep_ext e42 h_parts_here
          replace hW := hW.ret0 e42
          obtain rfl := of_v h41
          refine ⟨_, rfl, ?_⟩
          apply rep_ixT 0 h_parts_here rfl rfl
          intro u46 h45
          obtain rfl := of_v h45
          refine ⟨⟨_, rfl⟩, ?_⟩
          refine ⟨_, _, rfl, rfl, ?_⟩
          refine ⟨rfl, ?_⟩
          refine ⟨_, rfl, ?_⟩
          refine ite3 hM (fun hM => ?_) (fun hM => ?_)
          · skip
            exact hQ false _ _ hM hW.out rep_v
          · skip
            refine ⟨_, rfl, ?_⟩
            apply rep_meth (m := "homes") h_made (by decide +kernel)
            refine ⟨_, rfl, ?_⟩
            refine ⟨_, rfl, ?_⟩
            refine ⟨ms, _, x_made, x_size, x_size, _, rfl, hW.enter0, h_made, hM, fun r47 u50 H51 hM e49 h48 => ?_⟩
            replace h_made := rep_ext e49 h_made
            replace h_parts_here := rep_ext e49 h_parts_here
            replace hW := hW.ret0 e49
            obtain rfl := of_v h48
            refine ⟨_, rfl, ?_⟩
            apply rep_meth (m := "homes") h_made (by decide +kernel)
            refine ⟨_, rfl, ?_⟩
            refine ⟨_, rfl, ?_⟩
            refine ⟨ms, _, x_made, x_size, (x_size - (x_parts_here.2.2.length : Int)), _, rfl, hW.enter0, h_made, hM, fun r52 u55 H56 hM e54 h53 => ?_⟩
            replace h_made := rep_ext e54 h_made
            replace h_parts_here := rep_ext e54 h_parts_here
            replace hW := hW.ret0 e54
            obtain rfl := of_v h53
            refine ⟨_, _, rfl, rfl, ?_⟩
            refine ⟨_, rfl, ?_⟩
            refine ⟨_, rfl, ?_⟩
            apply rep_ixT 2 h_parts_here rfl rfl
            intro u58 h57
            obtain rfl := of_v h57
            refine ⟨⟨_, rfl⟩, ?_⟩
            refine ⟨_, _, rfl, rfl, ?_⟩
            refine ⟨rfl, ?_⟩
            refine ⟨_, rfl, ?_⟩
            refine ite3 hM (fun hM => ?_) (fun hM => ?_)
            · skip
              refine ⟨_, rfl, ?_⟩
              apply rep_meth (m := "homes") h_made (by decide +kernel)
              refine ⟨_, rfl, ?_⟩
              refine ⟨ms, _, x_made, x_size, (0 : Int), _, rfl, hW.enter0, h_made, hM, fun r59 u62 H63 hM e61 h60 => ?_⟩
              replace h_made := rep_ext e61 h_made
              replace h_parts_here := rep_ext e61 h_parts_here
              replace hW := hW.ret0 e61
              obtain rfl := of_v h60
              refine ⟨rfl, ?_⟩
              exact hQ (decide (V.int r59 = V.int (0 : Int))) _ _ hM hW.out rep_v
            · skip
              exact hQ false _ _ hM hW.out rep_v
def M_right (KM : Bool → Prop) : Prop :=
  ((-(2 ^ 62) ≤ (2 : Int) ∧ (2 : Int) < 2 ^ 62) ∧ (forC (fun (x2 : Int) (s4 : Unit) (k5 : Unit → Prop) => (M_parts  fun r16 => (M_Word_init r16.1 r16.2.1 r16.2.2 ∧ (M_small_right (r16.1, r16.2.1, r16.2.2) r16 fun r31 => (if (!r31) = true then (KM false) else (M_least r16 fun r36 => (M_great r36 fun r41 => (M_least r16 fun r46 => (M_draw (400 : Int) fun r51 => (forC (fun (x67 : Int) (s69 : Unit) (k70 : Unit → Prop) => (M_great_right (r16.1, r16.2.1, r16.2.2) r16 x67 fun r78 => (if (!r78) = true then (KM false) else (M_rounds_right (r16.1, r16.2.1, r16.2.2) r16 x67 fun r83 => (if (!r83) = true then (KM false) else (k70 ())))))) ([r41, (r46 + r51)] : List Int) () fun s88 => (k5 ()))))))))))) (rangeI (0 : Int) (2 : Int)) () fun s92 => (KM true)))
def sp_right (A : Ad) : Sp := fun vs H Q _ => ∃ (ms : List Addr) (ap : Addr) (KM : Bool → Prop), vs = [.ref ap] ∧ Wd ms [ap] [] H H ∧ M_right  KM ∧ ∀ (r : Bool) (u : V) (H1 : Hp), KM r → Ret [ap] H H1 → rep ms H1 (D.v (V.bl r)) u → Q u H1
set_option maxHeartbeats 16000000 in
theorem ok_right {P : Program} {w : World} {K : PySem.W.Frag} {mg : Str → Option Value} {base : Heap} {A : Ad} (T : Txt K mg A) : FnOk P w K mg base CX0 7 A.a_right A.d_right ["_law_pot_here"] (sp_right A) := by
  refine T.F_right.ok sc_right (fun vs H Q E h => ?_) (fun cdv A_ outer s_ H_0 vs Q E hr h => ?_)
  · obtain ⟨ms, ap, KM, rfl, _⟩ := h
    rfl
  · obtain ⟨ms, ap, KM, rfl, hW, hM, hQ⟩ := h
    unfold M_right at hM
    refine ⟨_, (pss_cons (ps_for PassesOwn.never rfl (pi_range1 (by rfl) T.z_range (pa_cons pe_int pa_nil)) (pg_name (i := 1) sc_right.nd rfl (by first | exact Or.inl rfl | exact Or.inr rfl)) (pss_cons (ps_set (i := 2) sc_right.nd rfl (by first | exact Or.inl rfl | exact Or.inr rfl) (pe_call (ok_parts T) (hr.mono (by decide)) (by rfl) T.g_parts T.F_parts.kp T.b_parts .nil pass0 (pa_cons (pv 0) pa_nil))) (pss_cons (ps_set (i := 3) sc_right.nd rfl (by first | exact Or.inl rfl | exact Or.inr rfl) (pe_make T.mk_Word (ok_Word_init T) (hr.mono (by decide)) (by rfl) T.g_Word T.b_Word_init .nil pass0 (pa_cons (pe_ix ix_tup (pv 2) pe_int (fun _ _ => rfl)) (pa_cons (pe_ix ix_tup (pv 2) pe_int (fun _ _ => rfl)) (pa_cons (pe_ix ix_tup (pv 2) pe_int (fun _ _ => rfl)) pa_nil))))) (pss_cons (ps_if (pt_not (pt_val (pe_call (ok_small_right T) (hr.mono (by decide)) (by rfl) T.g_small_right T.F_small_right.kp T.b_small_right .nil pass0 (pa_cons (pv 3) (pa_cons (pv 2) pa_nil))))) (pss_one (ps_ret pe_bl)) pss_nil) (pss_one (ps_for PassesOwn.never rfl (pi_list (pe_lst (pa_cons (pe_call (ok_great T) (hr.mono (by decide)) (by rfl) T.g_great T.F_great.kp T.b_great .nil pass0 (pa_cons (pv 0) (pa_cons (pe_call (ok_least T) (hr.mono (by decide)) (by rfl) T.g_least T.F_least.kp T.b_least .nil pass0 (pa_cons (pv 2) pa_nil)) pa_nil))) (pa_cons (pe_op op_add (pe_call (ok_least T) (hr.mono (by decide)) (by rfl) T.g_least T.F_least.kp T.b_least .nil pass0 (pa_cons (pv 2) pa_nil)) (pe_call (ok_draw T) (hr.mono (by decide)) (by rfl) T.g_draw T.F_draw.kp T.b_draw .nil pass0 (pa_cons (pv 0) (pa_cons pe_int pa_nil)))) pa_nil)))) (pg_name (i := 4) sc_right.nd rfl (by first | exact Or.inl rfl | exact Or.inr rfl)) (pss_one (ps_if (PW.pt (pw_or (pt_not (pt_val (pe_call (ok_great_right T) (hr.mono (by decide)) (by rfl) T.g_great_right T.F_great_right.kp T.b_great_right .nil pass0 (pa_cons (pv 0) (pa_cons (pv 3) (pa_cons (pv 2) (pa_cons (pv 4) pa_nil))))))) (pw_or1 (pt_not (pt_val (pe_call (ok_rounds_right T) (hr.mono (by decide)) (by rfl) T.g_rounds_right T.F_rounds_right.kp T.b_rounds_right .nil pass0 (pa_cons (pv 0) (pa_cons (pv 3) (pa_cons (pv 2) (pa_cons (pv 4) pa_nil)))))))))) (pss_one (ps_ret pe_bl)) pss_nil)))))))) (pss_one (ps_ret pe_bl))), ?_⟩
    obtain ⟨g1, hM⟩ := hM
    refine ⟨_, rfl, g1.1, g1.2, ?_⟩
    refine for_rangeC (lo := (0 : Int)) (hi := (2 : Int)) (N := Int.toNat (2 : Int)) (S := Unit) (cs := fun _ => []) (fun (s : Unit) σ_ _ => ∃ w_0, ∃ w_1, ∃ w_2, ∃ w_3, σ_ = [some (V.ref ap), w_0, w_1, w_2, w_3]) () (by simp) hW hM ⟨_, _, _, _, rfl⟩ ?_ ?_
    · skip
      rintro x2 s4 k5 _ H15 hW hk6 ⟨w11, w12, w13, w14, rfl⟩ hM Nx8 hN9
      refine ⟨_, rfl, ?_⟩
      refine ⟨ms, ap, _, rfl, hW.enterP, hM, fun r16 u19 H20 hM e18 h17 => ?_⟩
      replace hk6 := keep_ret hW e18 hk6
      replace hW := hW.retP e18
      refine ⟨_, rfl, ?_⟩
      apply rep_ixT 0 h17 rfl rfl
      intro u22 h21
      obtain rfl := of_v h21
      refine ⟨_, rfl, ?_⟩
      apply rep_ixT 1 h17 rfl rfl
      intro u24 h23
      obtain rfl := of_v h23
      refine ⟨_, rfl, ?_⟩
      apply rep_ixT 2 h17 rfl rfl
      intro u26 h25
      obtain rfl := of_v h25
      conv => whnf
      apply make_Word hW hM
      intro p27 H30 hM e29 h28
      replace hk6 := keep_ext e29 hk6
      replace h17 := rep_ext e29 h17
      replace hW := hW.ret0 e29
      refine ⟨_, rfl, ?_⟩
      refine ⟨_, rfl, ?_⟩
      refine ⟨ms, _, _, (r16.1, r16.2.1, r16.2.2), r16, _, rfl, hW.enter0, h28, h17, hM, fun r31 u34 H35 hM e33 h32 => ?_⟩
      replace hk6 := keep_ext e33 hk6
      replace h17 := rep_ext e33 h17
      replace h28 := rep_ext e33 h28
      replace hW := hW.ret0 e33
      obtain rfl := of_v h32
      refine ⟨_, rfl, ?_⟩
      refine ite3 hM (fun hM => ?_) (fun hM => ?_)
      · skip
        exact hQ false _ _ hM hW.out rep_v
      · skip
        refine ⟨_, rfl, ?_⟩
        refine ⟨_, rfl, ?_⟩
        refine ⟨ms, _, r16, _, rfl, hW.enter0, h17, hM, fun r36 u39 H40 hM e38 h37 => ?_⟩
        replace hk6 := keep_ext e38 hk6
        replace h17 := rep_ext e38 h17
        replace h28 := rep_ext e38 h28
        replace hW := hW.ret0 e38
        obtain rfl := of_v h37
        refine ⟨ms, ap, r36, _, rfl, hW.enterP, hM, fun r41 u44 H45 hM e43 h42 => ?_⟩
        replace hk6 := keep_ret hW e43 hk6
        replace h17 := rep_ret hW e43 h17
        replace h28 := rep_ret hW e43 h28
        replace hW := hW.retP e43
        obtain rfl := of_v h42
        refine ⟨_, rfl, ?_⟩
        refine ⟨ms, _, r16, _, rfl, hW.enter0, h17, hM, fun r46 u49 H50 hM e48 h47 => ?_⟩
        replace hk6 := keep_ext e48 hk6
        replace h17 := rep_ext e48 h17
        replace h28 := rep_ext e48 h28
        replace hW := hW.ret0 e48
        obtain rfl := of_v h47
        refine ⟨_, rfl, ?_⟩
        refine ⟨ms, ap, (400 : Int), _, rfl, hW.enterP, hM, fun r51 u54 H55 hM e53 h52 => ?_⟩
        replace hk6 := keep_ret hW e53 hk6
        replace h17 := rep_ret hW e53 h17
        replace h28 := rep_ret hW e53 h28
        replace hW := hW.retP e53
        obtain rfl := of_v h52
        refine ⟨_, _, rfl, rfl, ?_⟩
        refine ⟨(by show 2 ≤ sizeLine; decide), ?_⟩
        intro p56 n60
        have e57 := Ext.new (H := H55) (o := (HO.lst [V.int r41, V.int (r46 + r51)])) n60
        have hp58 : upd H55 p56 (HO.lst [V.int r41, V.int (r46 + r51)]) p56 = some (HO.lst [V.int r41, V.int (r46 + r51)]) := upd_same
        generalize upd H55 p56 (HO.lst [V.int r41, V.int (r46 + r51)]) = H61 at e57 hp58 ⊢
        have h59 : rep ms H61 (D.lst (([r41, (r46 + r51)] : List Int).map (fun y_ : Int => (D.v (V.int y_))))) (.ref p56) := rep_lst_mk hW n60 e57 hp58 (repL_cons rep_v (repL_cons rep_v repL_nil))
        replace hk6 := keep_ext e57 hk6
        replace h17 := rep_ext e57 h17
        replace h28 := rep_ext e57 h28
        replace hW := hW.ret0 e57
        apply rep_iter h59
        intro a62 xs63 _ an64 hp65 hl66
        refine for_listC (items := ([r41, (r46 + r51)] : List Int)) (e := (fun y_ : Int => (D.v (V.int y_)))) (S := Unit) (cs := fun _ => []) (fun (s : Unit) σ_ _ => ∃ w_0, σ_ = [some (V.ref ap), some (V.int x2), some u19, some (V.ref p27), w_0]) () hW an64 hp65 hl66 hM ⟨_, rfl⟩ ?_ ?_
        · skip
          rintro x67 u68 s69 k70 _ H77 hW hk71 ⟨w76, rfl⟩ h72 hM Nx73 hN74
          have hk6 := Keep.trans hk6 hk71
          have h17 := rep_keep hk71 h17
          have h28 := rep_keep hk71 h28
          have h59 := rep_keep hk71 h59
          obtain rfl := of_v h72
          refine ⟨_, rfl, ?_⟩
          refine ⟨_, rfl, ?_⟩
          refine ⟨_, rfl, ?_⟩
          refine ⟨_, rfl, ?_⟩
          refine ⟨ms, ap, _, _, (r16.1, r16.2.1, r16.2.2), r16, x67, _, rfl, hW.enterP, h28, h17, hM, fun r78 u81 H82 hM e80 h79 => ?_⟩
          replace hk6 := keep_ret hW e80 hk6
          replace h17 := rep_ret hW e80 h17
          replace h28 := rep_ret hW e80 h28
          replace h59 := rep_ret hW e80 h59
          replace hk71 := keep_ret hW e80 hk71
          replace hW := hW.retP e80
          obtain rfl := of_v h79
          refine ⟨_, rfl, ?_⟩
          refine ite3 hM (fun hM => ?_) (fun hM => ?_)
          · skip
            refine iteT ?_
            exact hQ false _ _ hM hW.out rep_v
          · skip
            refine ⟨_, rfl, ?_⟩
            refine ⟨_, rfl, ?_⟩
            refine ⟨_, rfl, ?_⟩
            refine ⟨_, rfl, ?_⟩
            refine ⟨ms, ap, _, _, (r16.1, r16.2.1, r16.2.2), r16, x67, _, rfl, hW.enterP, h28, h17, hM, fun r83 u86 H87 hM e85 h84 => ?_⟩
            replace hk6 := keep_ret hW e85 hk6
            replace h17 := rep_ret hW e85 h17
            replace h28 := rep_ret hW e85 h28
            replace h59 := rep_ret hW e85 h59
            replace hk71 := keep_ret hW e85 hk71
            replace hW := hW.retP e85
            obtain rfl := of_v h84
            refine ⟨_, rfl, ?_⟩
            refine ite3 hM (fun hM => ?_) (fun hM => ?_)
            · skip
              exact hQ false _ _ hM hW.out rep_v
            · skip
              exact hN74 () _ _ hM hW hk71 ⟨_, rfl⟩
        · skip
          rintro s88 _ H91 hM hW hk89 ⟨w90, rfl⟩
          have hk6 := Keep.trans hk6 hk89
          have h17 := rep_keep hk89 h17
          have h28 := rep_keep hk89 h28
          have h59 := rep_keep hk89 h59
          exact hN9 () _ _ hM hW hk6 ⟨_, _, _, _, rfl⟩
    · skip
      rintro s92 _ H98 hM hW hk93 ⟨w94, w95, w96, w97, rfl⟩
      exact hQ true _ _ hM hW.out rep_v
/-! ### the pot of a cell, and the law -/
def sp_pot (K : PySem.W.Frag) : Sp := fun vs H Q _ => ∃ (a : Addr) (ns : List Int) (k : Int), vs = [.ref a, .int k] ∧ SqL K H a (ns.map V.int) ∧ ns.length ≤ 63 ∧ 0 ≤ k ∧ k ≤ 100 ∧
  ∀ (p : Addr) (H1 : Hp) (i j : Int), H p = none → Ext H H1 → H1 p = some (.lst [.int i, .int j]) → j.natAbs < 4294967296 → Q (.ref p) H1
theorem ok_pot {P : Program} {w : World} {K : PySem.W.Frag} {mg : Str → Option Value} {base : Heap} {A : Ad} (T : Txt K mg A) : FnOk P w K mg base CX0 1 A.a_pot A.d_pot ["_law_script", "_law_k"] (sp_pot K) := by
  refine T.F_pot.ok sc_pot (fun vs H Q E h => ?_) (fun cdv A_ outer s_ H_0 vs Q E hr h => ?_)
  · obtain ⟨a, ns, k, rfl, _⟩ := h
    rfl
  · obtain ⟨a, ns, k, rfl, hS, hl, k0, k1, hQ⟩ := h
    refine ⟨_, pss_cons (ps_set (i := 2) sc_pot.nd rfl (.inl rfl) (pe_op op_add (pe_op op_mul pe_int (pv 1)) pe_int))
      (pss_cons (ps_if (pt_cmpR op_lt (pv 1) (pe_callB call_len (by rfl) T.z_len PySem.boot_len (pa_cons (pv 0) pa_nil)) (nomark _))
        (pss_one (ps_set (i := 2) sc_pot.nd rfl (.inl rfl) (pe_callB call_abs (by rfl) T.z_abs (by decide +kernel) (pa_cons (pe_ix ix_list (pv 0) (pv 1) (fun _ _ => rfl)) pa_nil)))) pss_nil)
      (pss_one (ps_ret (pe_lst (pa_cons (pe_callB (call_max2 rfl) (by rfl) T.z_max (by decide +kernel) (pa_cons pe_int (pa_cons (pe_op op_sub (pv 2) (pe_op op_pow pe_int pe_int)) pa_nil)))
        (pa_cons (pe_op op_add (pe_op op_mod (pe_callTy call_int1 (by rfl) T.z_int (by decide +kernel) (pa_cons (pe_op op_add (pe_op op_add (pe_op op_mul (pe_op op_mod (pe_callTy call_int1 (by rfl) T.z_int (by decide +kernel) (pa_cons (pv 2) pa_nil)) pe_int) pe_int) (pe_op op_mul pe_int (pv 1))) pe_int) pa_nil)) pe_int) pe_int) pa_nil)))))), ?_⟩
    refine ⟨_, rfl, _, _, rfl, rfl, .inl ⟨by decide, by decide⟩, _, _, rfl, rfl, ?_⟩
    refine ⟨_, rfl, _, rfl, _, ns.length, rfl, .inl ⟨_, hS, by rw [List.length_map]⟩, _, _, rfl, rfl, _, rfl, ?_⟩
    have fin : ∀ (c : Int) (p : Addr), H_0 p = none → Q (.ref p) (upd H_0 p (.lst [.int (if c - 10 ^ Int.toNat 18 > 0 then c - 10 ^ Int.toNat 18 else 0), .int ((c % 2147483563 * 40009 + 51287 * k + 17) % 2147483629 + 1)])) := fun c p np =>
      hQ p _ _ _ np (Ext.new np) upd_same (by omega)
    refine ite2 (fun c => ?_) (fun c => ?_)
    · have hk : k.toNat < ns.length := by
        have := of_decide_eq_true c
        omega
      refine ⟨_, rfl, _, rfl, a, _, k, .int (ns[k.toNat]), rfl, rfl, hS, at_of (j := k.toNat) (by omega) (by rw [List.getElem?_map, List.getElem?_eq_getElem hk]; rfl), _, rfl, ?_⟩
      refine ⟨_, rfl, _, _, rfl, rfl, ⟨by decide, by decide, by decide⟩, _, _, rfl, rfl, _, _, rfl, _, rfl, .inl ⟨_, rfl, _, _, rfl, rfl, (by show (0 : Int) < 2147483563; decide), _, _, rfl, rfl, .inr ⟨by decide, by decide⟩, _, rfl, _, _, rfl, rfl, .inl ⟨by decide, by decide⟩, _, _, rfl, rfl, _, _, rfl, rfl, .inl ⟨_, rfl, _, _, rfl, rfl, (by show (0 : Int) < 2147483629; decide), _, _, rfl, rfl, (by show 2 ≤ sizeLine; decide), fun p np => fin _ p np⟩⟩⟩
    · refine ⟨_, rfl, _, _, rfl, rfl, ⟨by decide, by decide, by decide⟩, _, _, rfl, rfl, _, _, rfl, _, rfl, .inl ⟨_, rfl, _, _, rfl, rfl, (by show (0 : Int) < 2147483563; decide), _, _, rfl, rfl, .inr ⟨by decide, by decide⟩, _, rfl, _, _, rfl, rfl, .inl ⟨by decide, by decide⟩, _, _, rfl, rfl, _, _, rfl, rfl, .inl ⟨_, rfl, _, _, rfl, rfl, (by show (0 : Int) < 2147483629; decide), _, _, rfl, rfl, (by show 2 ≤ sizeLine; decide), fun p np => fin _ p np⟩⟩⟩

/-! ### words: what the mirrors ask -/
open Wm
structure WV (w : Str × Str × Str) : Prop where
  h4 : (L w.1).length ≤ 4
  m1 : 1 ≤ (L w.2.1).length
  m4 : (L w.2.1).length ≤ 4
  t4 : (L w.2.2).length ≤ 4
  mh : ∀ c ∈ L w.1, c = 104 ∨ c = 97
  mm : ∀ c ∈ L w.2.1, c = 104 ∨ c = 97
  mt : ∀ c ∈ L w.2.2, c = 104 ∨ c = 97
theorem line_of {z : Str} {n : Nat} (h : (L z).length ≤ n) (hn : n ≤ 100000) : z.length ≤ sizeLine := by
  rw [len_L]
  exact Nat.le_trans h (Nat.le_trans hn (by decide))
theorem line4 {z : Str} (h : (L z).length ≤ 4) : z.length ≤ sizeLine := line_of h (by decide)
def lst (w : Str × Str × Str) : Int := if ((L w.1).length : Int) + (L w.2.2).length > 1 then ((L w.1).length : Int) + (L w.2.2).length else 1
theorem lst_ge {w : Str × Str × Str} : ((L w.1).length : Int) + (L w.2.2).length ≤ lst w ∧ 1 ≤ lst w := by
  unfold lst
  split <;> omega
theorem lst_le {w : Str × Str × Str} (hw : WV w) : lst w ≤ 8 := by
  have := hw.h4
  have := hw.t4
  unfold lst
  split <;> omega
theorem least_ok {w : Str × Str × Str} (hw : WV w) {k : Int → Prop} (q : k (lst w)) : M_least w k := by
  unfold M_least
  refine ⟨line4 hw.h4, line4 hw.t4, ?_⟩
  rw [len_L, len_L]
  exact q
theorem wleast_ok {w : Str × Str × Str} (hw : WV w) {k : Int → Prop} (q : k (lst w)) : M_Word_least w k := by
  unfold M_Word_least
  refine ⟨line4 hw.h4, line4 hw.t4, ?_⟩
  rw [len_L, len_L]
  exact q
theorem checkp_ok {w : Str × Str × Str} (hw : WV w) {n : Int} (hn : lst w ≤ n) {k : Unit → Prop} (q : k ()) : M_check_places w n k := by
  unfold M_check_places M_is_integer
  show (if (!!false) = true then _ else _)
  rw [if_neg (by decide)]
  refine wleast_ok hw ?_
  rw [if_neg (by simpa using hn)]
  exact q
abbrev rw_ (w : Str × Str × Str) (n : Int) : List Nat := row (L w.1) (L w.2.1) (L w.2.2) n.toNat
theorem rw_len {w : Str × Str × Str} {n : Int} (hn : lst w ≤ n) : (rw_ w n).length = n.toNat := row_len (by
  have := @lst_ge w
  omega)
theorem at_nat' {α : Type} {xs : List α} {i : Int} {c : α} (h0 : 0 ≤ i) (h : xs[i.toNat]? = some c) : atI xs i = some c := by
  rw [show i = ((i.toNat : Nat) : Int) by omega]
  exact atI_nat h
theorem emod_nat {x : Int} {n : Nat} (h : 0 ≤ x) : (x % (n : Int)).toNat = x.toNat % n := by
  have e : x = (x.toNat : Int) := by omega
  have : x % (n : Int) = ((x.toNat % n : Nat) : Int) := by rw [Int.natCast_emod, ← e]
  rw [this]
  rfl
theorem mark_ok {w : Str × Str × Str} (hw : WV w) {n i : Int} (hn : lst w ≤ n) (h1 : 1 ≤ i) (h2 : i ≤ n) {k : Str → Prop} (q : ∀ c, (rw_ w n)[(i - 1).toNat]? = some c → k (Str.mk #[c])) : M_Word_mark w n i k := by
  have g := @lst_ge w
  have m1 := hw.m1
  unfold M_Word_mark
  refine checkp_ok hw hn ?_
  show M_is_integer _ _
  unfold M_is_integer
  show (if (!!false) = true then _ else _)
  rw [if_neg (by decide), if_neg (by simpa using h1), if_neg (by simpa using h2)]
  refine ⟨line4 hw.h4, ?_⟩
  have hlen := rw_len hn
  obtain ⟨c, hc⟩ : ∃ c, (rw_ w n)[(i - 1).toNat]? = some c := ⟨_, List.getElem?_eq_getElem (by omega)⟩
  have q' := q c hc
  by_cases b1 : i ≤ (L w.1).length
  · rw [if_pos (by rw [len_L]; simpa using b1)]
    refine ⟨line4 hw.h4, c, at_nat' (by omega) ?_, q'⟩
    rw [row_head (by omega)] at hc
    exact hc
  · rw [if_neg (by rw [len_L]; simpa using b1)]
    refine ⟨line4 hw.t4, ?_⟩
    by_cases b2 : n - (L w.2.2).length < i
    · rw [if_pos (by rw [len_L]; simpa using b2)]
      refine ⟨line4 hw.t4, c, at_nat' (by rw [len_L]; omega) ?_, q'⟩
      rw [row_tail (by omega) (by omega)] at hc
      rw [← hc]
      congr 1
      rw [len_L]
      omega
    · rw [if_neg (by rw [len_L]; simpa using b2)]
      refine ⟨line4 hw.h4, line4 hw.m4, (by rw [len_L]; omega), line4 hw.m4, c, at_nat' (Int.emod_nonneg _ (by rw [len_L]; omega)) ?_, q'⟩
      rw [row_mid (by omega) (by omega) (by omega) (by omega)] at hc
      rw [← hc]
      congr 1
      rw [len_L, len_L, emod_nat (by omega)]
      congr 1
      omega
theorem cm3 {i j : Int} {a : Nat} (ha : i.natAbs < 2 ^ a) (h0 : 0 < a) (hj : j.natAbs < 2 ^ 4) (h : a ≤ 1000) : CMulW i j := wide_mul ha hj h0 (by decide) (by omega)
theorem nat_lt_200 {i : Int} (h0 : 0 ≤ i) (h : i ≤ 10 ^ 60 + 1000) : i.natAbs < 2 ^ 201 := by
  have e : (10 : Int) ^ 60 + 1000 < 2 ^ 201 := by decide
  have e2 : ((2 ^ 201 : Nat) : Int) = (2 : Int) ^ 201 := by decide
  omega
/-- the law's numbers of homes -/
theorem homes_ok {w : Str × Str × Str} (hw : WV w) {n i : Int} (hn : lst w ≤ n) (h1 : 0 ≤ i) (h2 : i ≤ n) (hb : n ≤ 10 ^ 60 + 1000) {k : Int → Prop} (q : k (hom 104 (L w.1) (L w.2.1) (L w.2.2) n.toNat i.toNat)) : M_Word_homes w n i k := by
  have g := @lst_ge w
  have m1 := hw.m1
  have m4 := hw.m4
  unfold M_Word_homes
  refine checkp_ok hw hn ?_
  show M_is_integer _ _
  unfold M_is_integer
  show (if (!!false) = true then _ else _)
  rw [if_neg (by decide), if_neg (by simpa using h1), if_neg (by simpa using h2)]
  refine ⟨line4 hw.h4, line4 hw.t4, line4 hw.h4, line4 hw.t4, ?_⟩
  rw [len_L, len_L]
  generalize hx : (if ((if n - ((L w.2.2).length : Int) < i then n - ((L w.2.2).length : Int) else i) - ((L w.1).length : Int)) > (0 : Int) then ((if n - ((L w.2.2).length : Int) < i then n - ((L w.2.2).length : Int) else i) - ((L w.1).length : Int)) else (0 : Int)) = x
  have x0 : 0 ≤ x ∧ x ≤ n ∧ x.toNat = min i.toNat (n.toNat - (L w.2.2).length) - (L w.1).length := by
    rw [← hx]
    split <;> split <;> omega
  obtain ⟨x0, x1, x2⟩ := x0
  unfold M_homes_said
  have hm0 : (0 : Int) < ((L w.2.1).length : Int) := by omega
  refine ⟨line4 m4, ⟨by rw [len_L]; omega, by rw [len_L]; omega⟩, ?_, line4 m4, ?_⟩
  · refine cm3 (a := 201) (nat_lt_200 (Int.ediv_nonneg x0 (by omega)) ?_) (by decide) ?_ (by decide)
    · have := Int.ediv_le_self (w.2.1.length : Int) x0
      omega
    · rw [count_h]
      have := cn_le 104 (L w.2.1)
      have := cn_pos 104 (L w.2.1)
      omega
  · rw [count_h, count_h, count_h, count_h, cut_take _ h1, cut_take _ (Int.emod_nonneg _ (by rw [len_L]; omega)), cut_take _ (by split <;> omega), len_L]
    have e1 : ((x / ((L w.2.1).length : Int)) * cn 104 (L w.2.1) + cn 104 ((L w.2.1).take (x % ((L w.2.1).length : Int)).toNat)) = cyn 104 (L w.2.1) x.toNat := by
      unfold cyn
      have e2 : x = (x.toNat : Int) := by omega
      rw [show x / ((L w.2.1).length : Int) = ((x.toNat / (L w.2.1).length : Nat) : Int) by rw [Int.natCast_ediv, ← e2], emod_nat x0]
    rw [e1, x2]
    unfold hom at q
    have e3 : (if i - (n - ((L w.2.2).length : Int)) > 0 then i - (n - ((L w.2.2).length : Int)) else 0).toNat = i.toNat - (n.toNat - (L w.2.2).length) := by
      split <;> omega
    rw [e3]
    exact q
theorem draw_ok {n : Int} {k : Int → Prop} (h0 : 0 < n) (h1 : n < 1073741824) (q : ∀ d, 0 ≤ d → d < n → k d) : M_draw n k := ⟨⟨h0, h1⟩, q⟩
theorem str1 (c : Nat) : (Str.mk #[c]).length = 1 := rfl
theorem signs_ok {few many : Int} (h0 : 0 ≤ few) (h1 : few ≤ many) (h4 : many ≤ 4) {k : Str → Prop} (q : ∀ z : Str, few ≤ (L z).length → ((L z).length : Int) ≤ many → (∀ c ∈ L z, c = 104 ∨ c = 97) → k z) : M_signs few many k := by
  unfold M_signs
  refine draw_ok (by omega) (by omega) fun d d0 d1 => ⟨⟨by omega, by omega⟩, by rw [rangeI_len]; omega, ?_⟩
  refine mapC_any (fun y => ∃ c, y = Str.mk #[c] ∧ (c = 104 ∨ c = 97)) (fun x _ k' hk => ?_) fun ys hl hp => ?_
  · refine draw_ok (by decide) (by decide) fun e e0 e1 => ⟨by decide +kernel, ?_⟩
    have he : e = 0 ∨ e = 1 := by omega
    rcases he with rfl | rfl
    · exact ⟨104, by decide +kernel, hk _ ⟨_, rfl, .inl rfl⟩⟩
    · exact ⟨97, by decide +kernel, hk _ ⟨_, rfl, .inr rfl⟩⟩
  · rw [List.nil_append]
    rw [rangeI_len] at hl
    have hs : ∀ zs : List Str, (∀ y ∈ zs, ∃ c, y = Str.mk #[c] ∧ (c = 104 ∨ c = 97)) → (zs.map (·.length)).sum = zs.length ∧ ((zs.map L).flatten).length = zs.length ∧ ∀ c ∈ (zs.map L).flatten, c = 104 ∨ c = 97 := by
      intro zs
      induction zs with
      | nil => intro _; exact ⟨rfl, rfl, fun c hc => absurd hc (by simp)⟩
      | cons z zs ih =>
        intro h
        obtain ⟨c, rfl, hc⟩ := h z List.mem_cons_self
        obtain ⟨i1, i2, i3⟩ := ih fun y hy => h y (List.mem_cons_of_mem _ hy)
        refine ⟨?_, ?_, fun c' hc' => ?_⟩
        · rw [List.map_cons, List.sum_cons, i1, str1, List.length_cons]
          omega
        · rw [List.map_cons, List.flatten_cons, List.length_append, i2, L_one, List.length_cons, List.length_cons, List.length_nil]
          omega
        · rw [List.map_cons, List.flatten_cons, L_one] at hc'
          rcases List.mem_append.mp hc' with hc' | hc'
          · rw [List.mem_singleton.mp hc']
            exact hc
          · exact i3 c' hc'
    obtain ⟨s1, s2, s3⟩ := hs ys hp
    refine ⟨?_, q _ ?_ ?_ ?_⟩
    · rw [s1, len_L, L_empty]
      show ys.length + ys.length * 0 ≤ _
      omega
    · rw [join_L, s2]
      omega
    · rw [join_L, s2]
      omega
    · rw [join_L]
      exact s3
theorem parts_ok {k : Str × Str × Str → Prop} (q : ∀ w, WV w → k w) : M_parts k := by
  unfold M_parts
  refine signs_ok (by decide) (by decide) (by decide) fun h h1 h2 h3 => signs_ok (by decide) (by decide) (by decide) fun m m1 m2 m3 => signs_ok (by decide) (by decide) (by decide) fun t t1 t2 t3 => q _ ⟨?_, ?_, ?_, ?_, h3, m3, t3⟩
  · show (L h).length ≤ 4
    omega
  · show 1 ≤ (L m).length
    omega
  · show (L m).length ≤ 4
    omega
  · show (L t).length ≤ 4
    omega
theorem word_ok {w : Str × Str × Str} (hw : WV w) : M_Word_init w.1 w.2.1 w.2.2 := by
  have one : ∀ {z : Str} {k : Unit → Prop}, (L z).length ≤ 4 → (∀ c ∈ L z, c = 104 ∨ c = 97) → k () → M_check_part z k := fun {z k} h4 hm q => by
    unfold M_check_part M_is_marks
    refine ⟨line4 h4, ?_⟩
    rw [count_h, count_a, marks_all _ hm, len_L]
    show (if (!decide (V.int _ = V.int _)) = true then _ else _)
    rw [if_neg (by simp)]
    refine ⟨line4 h4, ?_⟩
    rw [if_neg (by simp only [decide_eq_true_eq]; omega)]
    exact q
  unfold M_Word_init
  refine one hw.h4 hw.mh (one hw.m4 hw.mm ?_)
  rw [if_neg]
  · exact one hw.t4 hw.mt trivial
  · rw [eqS, L_empty]
    have := hw.m1
    simp
    intro z
    rw [show L w.2.1 = [] from by rw [L, z]] at this
    simp at this
theorem dec_true {p : Prop} [Decidable p] (h : p) : decide p = true := decide_eq_true h
/-- a line, as long as need be -/
theorem line_ok {w : Str × Str × Str} (hw : WV w) {n : Int} (hn : lst w ≤ n) (hb : n ≤ 5000) {k : Str → Prop} (q : ∀ z : Str, L z = rw_ w n → k z) : M_line w n k := by
  have g := @lst_ge w
  have m1 := hw.m1
  have m4 := hw.m4
  have hm : 0 < (L w.2.1).length := by omega
  unfold M_line
  refine whileC_ok (fun s => ∃ j : Nat, L s = cyc (L w.2.1) (j * (L w.2.1).length) ∧ j * (L w.2.1).length ≤ n.toNat + 4) (fun s => n.toNat + 8 - (L s).length) (fun s k1 ⟨j, hs, hj⟩ hk => ?_) ⟨0, by rw [L_empty, Nat.zero_mul]; rfl, by omega⟩
  have hl : (L s).length = j * (L w.2.1).length := by rw [hs, cyc_len]
  refine ⟨line_of (n := 6000) (by omega) (by decide), ?_⟩
  rw [len_L]
  by_cases c : ((L s).length : Int) < n
  · rw [if_pos (dec_true c)]
    refine ⟨?_, hk _ ⟨j + 1, ?_, ?_⟩ ?_⟩
    · have e : sizeLine = 16777216 := sizeLine_eq
      rw [len_L, e]
      omega
    · rw [L_app, hs, cyc_end hm]
    · rw [Nat.succ_mul]
      omega
    · rw [L_app, List.length_append]
      omega
  · rw [if_neg (by simpa using c)]
    have hi : 0 ≤ n - ((L w.1).length : Int) - ((L w.2.2).length : Int) := by omega
    have hc : L (cutS s none (some (n - ((L w.1).length : Int) - ((L w.2.2).length : Int)))) = cyc (L w.2.1) (n.toNat - (L w.1).length - (L w.2.2).length) := by
      rw [cut_take _ hi, hs, cyc_take _ (by omega)]
      congr 1
      omega
    have e : sizeLine = 16777216 := sizeLine_eq
    refine ⟨line4 hw.h4, line4 hw.t4, line_of (n := 6000) (by omega) (by decide), ?_, ?_, q _ ?_⟩
    · rw [len_L, len_L, len_L, hc, cyc_len, e]
      have := hw.h4
      omega
    · rw [len_L, L_app, List.length_append, len_L, len_L, hc, cyc_len, e]
      have := hw.h4
      have := hw.t4
      omega
    · rw [L_app, L_app, len_L, len_L, hc]
      rfl
theorem p10 {a : Int} {n : Nat} (h : a = (n : Int)) : Int.toNat a = n := by omega
theorem great_ok {l : Int} (h0 : 0 ≤ l) (h1 : l ≤ 10 ^ 60) {k : Int → Prop} (q : ∀ g : Int, l ≤ g → g ≤ 10 ^ 60 → k g) : M_great l k := by
  unfold M_great
  refine ⟨by decide, ?_⟩
  rw [show Int.toNat 9 = 9 from rfl, show Int.toNat 59 = 59 from rfl, show Int.toNat 60 = 60 from rfl, show Int.toNat 12 = 12 from rfl]
  refine forC_ok (fun s => 0 ≤ s ∧ s < 10 ^ 59) (fun x _ s k' _ hk => ?_) (by decide) fun s ⟨s0, s1⟩ => ?_
  · refine draw_ok (by decide) (by decide) fun d _ _ => hk _ ⟨Int.emod_nonneg _ (by decide), Int.emod_lt_of_pos _ (by decide)⟩
  · unfold M_pick
    refine draw_ok (by simp) (by simp) fun d d0 d1 => ?_
    have d4 : d < 4 := by simpa using d1
    refine ⟨d0, by simp; omega, fun x hx => ?_⟩
    have b0 : 0 ≤ x ∧ x ≤ 10 ^ 60 := by
      have c : d = 0 ∨ d = 1 ∨ d = 2 ∨ d = 3 := by omega
      have e1 : (10 : Int) ^ 59 ≤ 10 ^ 60 := by decide
      have e2 : (1000 : Int) ≤ 10 ^ 60 := by decide
      have e3 : (10 : Int) ^ 12 ≤ 10 ^ 60 := by decide
      have r1 := Int.emod_nonneg s (show (50 : Int) ≠ 0 by decide)
      have r2 := Int.emod_lt_of_pos s (show (0 : Int) < 50 by decide)
      have r3 := Int.emod_nonneg s (show (10 : Int) ^ 12 ≠ 0 by decide)
      have r4 := Int.emod_lt_of_pos s (show (0 : Int) < 10 ^ 12 by decide)
      rcases c with rfl | rfl | rfl | rfl
      · have hx' : x = s := hx
        omega
      · have hx' : x = s := hx
        omega
      · have hx' : x = 10 ^ 60 - 1 - s % 50 := hx
        omega
      · have hx' : x = s % 10 ^ 12 := hx
        omega
    show k (if x > l then x else l)
    by_cases c : x > l
    · rw [if_pos c]
      exact q _ (by omega) b0.2
    · rw [if_neg c]
      exact q _ (by omega) h1

theorem all_len {ys : List Str} (h : ∀ y ∈ ys, y.length = 1) : (ys.map (·.length)).sum = ys.length := by
  induction ys with
  | nil => rfl
  | cons y ys ih =>
    rw [List.map_cons, List.sum_cons, ih fun z hz => h z (List.mem_cons_of_mem _ hz), h y List.mem_cons_self, List.length_cons]
    omega
theorem flat_one (l : List Nat) : ((l.map fun c => Str.mk #[c]).map L).flatten = l := by
  induction l with
  | nil => rfl
  | cons c l ih =>
    rw [List.map_cons, List.map_cons, List.flatten_cons, L_one, ih]
    rfl
theorem ints_py (ns : List Int) : pyOf (D.lst (ns.map fun y => D.v (V.int y))) = .list (ns.map PyData.int) := by
  simp only [pyOf]
  congr 1
  induction ns with
  | nil => rfl
  | cons n ns ih =>
    rw [List.map_cons, List.map_cons]
    simp only [pyL, pyOf]
    rw [ih]
theorem ints_plain (ns : List Int) : plainD (D.lst (ns.map fun y => D.v (V.int y))) = true := by
  simp only [plainD]
  induction ns with
  | nil => rfl
  | cons n ns ih =>
    rw [List.map_cons]
    simp only [plainL, plainD, Bool.true_and]
    exact ih
theorem ints_shaped (ns : List Int) : SeqAt.shaped (pyOf (D.lst (ns.map fun y => D.v (V.int y)))) = true := by
  rw [ints_py]
  unfold SeqAt.shaped
  rw [Bool.and_eq_true]
  have h : ∀ ns : List Int, PyData.canLayAll0 (ns.map PyData.int) = true ∧ PyData.depthAll (ns.map PyData.int) ≤ 1 := by
    intro ns
    induction ns with
    | nil => exact ⟨rfl, by simp [PyData.depthAll]⟩
    | cons n ns ih =>
      refine ⟨?_, ?_⟩
      · rw [List.map_cons]
        simp only [PyData.canLayAll0, PyData.canLay0, Bool.true_and]
        exact ih.1
      · rw [List.map_cons]
        simp only [PyData.depthAll, PyData.depth]
        have := ih.2
        omega
  refine ⟨?_, ?_⟩
  · simp only [PyData.canLay0]
    exact (h ns).1
  · refine decide_eq_true ?_
    simp only [PyData.depth]
    have := (h ns).2
    omega
/-- the marks of a row, one by one -/
theorem marks_row {w : Str × Str × Str} (hw : WV w) {n : Int} (hn : lst w ≤ n) (hb : n ≤ 90000) {k : List Str → Prop} (q : k ((rw_ w n).map fun c => Str.mk #[c])) :
    mapC (fun (x : Int) (k' : Str → Prop) => M_Word_mark w n x fun r => k' r) (rangeI 1 (n + 1)) [] k := by
  have g := @lst_ge w
  have hl := rw_len hn
  refine mapC_ok (fun x => Str.mk #[(rw_ w n).getD (x - 1).toNat 0]) (fun x hx k' hk => ?_) ?_
  · obtain ⟨x1, x2⟩ := rangeI_mem hx
    refine mark_ok hw hn x1 (by omega) fun c hc => ?_
    rw [List.getD_eq_getElem?_getD, hc] at hk
    exact hk
  · rw [List.nil_append]
    have e : (rangeI 1 (n + 1)).map (fun x => Str.mk #[(rw_ w n).getD (x - 1).toNat 0]) = (rw_ w n).map fun c => Str.mk #[c] := by
      apply List.ext_getElem?
      intro j
      rw [List.getElem?_map, List.getElem?_map]
      by_cases h : j < n.toNat
      · rw [rangeI_get (by omega), List.getElem?_eq_getElem (by omega)]
        show some (Str.mk #[(rw_ w n).getD (1 + (j : Int) - 1).toNat 0]) = some _
        rw [show (1 + (j : Int) - 1).toNat = j by omega, List.getD_eq_getElem?_getD, List.getElem?_eq_getElem (by omega)]
        rfl
      · rw [List.getElem?_eq_none (by rw [rangeI_len]; omega), List.getElem?_eq_none (by omega)]
        rfl
    rw [e]
    exact q
theorem hom_row {w : Str × Str × Str} (hw : WV w) {n i : Int} (hn : lst w ≤ n) (h0 : 0 ≤ i) (hi : i ≤ n) : hom 104 (L w.1) (L w.2.1) (L w.2.2) n.toNat i.toNat = cn 104 ((rw_ w n).take i.toNat) := by
  have g := @lst_ge w
  have := hw.m1
  exact (hom_eq 104 (by omega) (by omega) _ (by omega)).symm
theorem small_ok {w : Str × Str × Str} (hw : WV w) {k : Bool → Prop} (q : k true) : M_small_right w w k := by
  have g := @lst_ge w
  have g8 := lst_le hw
  have hb : (10 : Int) ^ 60 + 1000 ≥ 1000 := by decide
  unfold M_small_right
  refine least_ok hw (least_ok hw ⟨⟨by omega, by omega, by omega, by omega⟩, ?_⟩)
  refine forC_ok (fun _ => True) (fun n hn s k' _ hk => ?_) trivial fun _ _ => ?_
  · obtain ⟨n1, n2⟩ := rangeI_mem hn
    have hl := rw_len n1
    refine line_ok hw n1 (by omega) fun z hz => ?_
    refine ⟨⟨by decide, by decide, by omega, by omega⟩, by rw [rangeI_len]; omega, marks_row hw n1 (by omega) ?_⟩
    have h1 : ∀ y ∈ (rw_ w n).map (fun c => Str.mk #[c]), y.length = 1 := fun y hy => by
      obtain ⟨c, _, e⟩ := List.mem_map.mp hy
      rw [← e]
      rfl
    refine ⟨?_, ?_⟩
    · rw [all_len h1, List.length_map, hl, len_L, L_empty]
      show n.toNat + n.toNat * 0 ≤ _
      omega
    · rw [eqS, join_L, flat_one, hz, if_neg (by simp)]
      refine ⟨⟨by omega, by omega⟩, by rw [rangeI_len]; omega, ?_⟩
      refine mapC_ok (fun x => cn 104 ((rw_ w n).take x.toNat)) (fun x hx k2 hk2 => ?_) ?_
      · obtain ⟨x1, x2⟩ := rangeI_mem hx
        refine homes_ok hw n1 x1 (by omega) (by omega) ?_
        rw [hom_row hw n1 x1 (by omega)]
        exact hk2
      · rw [List.nil_append]
        refine ⟨⟨by omega, by omega⟩, by rw [rangeI_len]; omega, ?_⟩
        refine mapC_ok (fun x => cn 104 ((rw_ w n).take x.toNat)) (fun x hx k2 hk2 => ?_) ?_
        · obtain ⟨x1, x2⟩ := rangeI_mem hx
          refine ⟨line_of (n := 6000) (by rw [hz]; omega) (by decide), ?_⟩
          rw [count_h, cut_take _ x1, hz]
          exact hk2
        · rw [List.nil_append]
          refine ⟨⟨ints_plain _, ints_plain _, ints_shaped _, ints_shaped _⟩, ?_⟩
          rw [SeqAt.eqv_refl _ (SeqAt.canLay_of_shaped (ints_shaped _)), if_neg (by decide)]
          exact hk () trivial
  · refine line_ok hw (by omega) (by decide) fun z hz => ?_
    have n1 : lst w ≤ 30 := by omega
    have hl := rw_len n1
    refine mark_ok hw n1 (by decide) (by decide) fun c hc => ?_
    have hc' : (rw_ w 30)[0]? = some c := hc
    refine ⟨line_of (n := 6000) (by rw [hz]; omega) (by decide), c, at_nat' (by decide) (by rw [show z.cps.toList = rw_ w 30 from hz]; exact hc'), ?_⟩
    rw [if_pos (by simp)]
    refine homes_ok hw n1 (by decide) (by decide) (by omega) ?_
    rw [hom_row hw n1 (by decide) (by decide), eqI, count_h, hz, List.take_of_length_le (by omega), dec_true rfl]
    exact q

theorem steps_ok {w : Str × Str × Str} (hw : WV w) {n x : Int} (hn : lst w ≤ n) (hb : n ≤ 10 ^ 60 + 1000) (h1 : 1 ≤ x) (h2 : x ≤ n) {k : Bool → Prop} (q : k true) : M_steps_right w n x k := by
  have hl := rw_len hn
  have g := @lst_ge w
  unfold M_steps_right
  refine homes_ok hw hn (by omega) h2 hb (homes_ok hw hn (by omega) (by omega) hb (mark_ok hw hn h1 h2 fun c hc => ?_))
  rw [hom_row hw hn (by omega) h2, hom_row hw hn (by omega) (by omega), eqI, eqS, L_one, L_h]
  rw [show x.toNat = (x - 1).toNat + 1 by omega, cn_succ 104 hc]
  have e : (cn 104 ((rw_ w n).take (x - 1).toNat) + (if c = 104 then 1 else 0) - cn 104 ((rw_ w n).take (x - 1).toNat)) = (if decide ([c] = [104]) = true then (1 : Int) else 0) := by
    by_cases h : c = 104
    · subst h
      simp
      omega
    · simp [h]
  rw [e, dec_true rfl]
  exact q
/-- the short size with the same rest -/
def SH (w : Str × Str × Str) (n s : Int) : Prop := (n ≤ lst w + 40 * (L w.2.1).length → s = n) ∧ (lst w + 40 * (L w.2.1).length < n → s = lst w + 40 * (L w.2.1).length + (n - (lst w + 40 * (L w.2.1).length)) % ((L w.2.1).length : Int))
theorem short_ok {w : Str × Str × Str} (hw : WV w) {n : Int} {k : Int → Prop} (q : ∀ s, SH w n s → k s) : M_short w n k := by
  have m1 := hw.m1
  have m4 := hw.m4
  unfold M_short
  refine least_ok hw ⟨line4 m4, fun s => SH w n s, ?_, fun r hr => q r hr⟩
  rw [len_L]
  by_cases c : n ≤ lst w + 40 * ((L w.2.1).length : Int)
  · rw [if_pos (dec_true c)]
    exact ⟨fun _ => rfl, fun h => by omega⟩
  · rw [if_neg (by simpa using c)]
    exact ⟨line4 m4, by omega, fun h => by omega, fun _ => rfl⟩
theorem mod_same {a b : Nat} {m : Nat} (h : ((a : Int) - b) % (m : Int) = 0) : a % m = b % m := by
  obtain ⟨z, hz⟩ := Int.dvd_of_emod_eq_zero h
  have : ((a : Int)) % (m : Int) = (b : Int) % (m : Int) := by
    rw [show (a : Int) = b + m * z by omega, Int.add_mul_emod_self_left]
  omega
theorem place_ok {w : Str × Str × Str} (hw : WV w) {n s x : Int} (hn : lst w ≤ n) (hs : SH w n s) (h1 : 1 ≤ x) (h2 : x ≤ n) {k : Int → Prop} (q : ∀ p : Int, 1 ≤ p → p ≤ s → (rw_ w s)[(p - 1).toNat]? = (rw_ w n)[(x - 1).toNat]? → k p) : M_place_in w n s x k := by
  have g := @lst_ge w
  have m1 := hw.m1
  have m4 := hw.m4
  have hm : 0 < (L w.2.1).length := by omega
  have hm' : (0 : Int) < ((L w.2.1).length : Int) := by omega
  obtain ⟨s1, s2⟩ := hs
  unfold M_place_in
  refine ⟨line4 hw.h4, line4 m4, ?_⟩
  rw [len_L, len_L]
  have nn : (n.toNat : Int) = n := by omega
  generalize hM : ((L w.2.1).length : Int) = M at *
  have hMn : (L w.2.1).length = M.toNat := by omega
  -- s, and how far n is from it
  have hsn : lst w ≤ s ∧ s ≤ n ∧ (n - s) % M = 0 ∧ (n = s ∨ lst w + 40 * M ≤ s) := by
    by_cases c : n ≤ lst w + 40 * M
    · have e := s1 c
      subst e
      exact ⟨hn, by omega, by rw [Int.sub_self]; exact Int.zero_emod _, .inl rfl⟩
    · have e := s2 (by omega)
      have r0 := Int.emod_nonneg (n - (lst w + 40 * M)) (by omega : M ≠ 0)
      have r1 := Int.emod_lt_of_pos (n - (lst w + 40 * M)) hm'
      have r2 := Int.mul_ediv_add_emod (n - (lst w + 40 * M)) M
      have r3 : 0 ≤ (n - (lst w + 40 * M)) / M := Int.ediv_nonneg (by omega) (by omega)
      have r4 : 0 ≤ M * ((n - (lst w + 40 * M)) / M) := Int.mul_nonneg (by omega) r3
      refine ⟨by omega, by omega, ?_, .inr (by omega)⟩
      have e2 : n - s = M * ((n - (lst w + 40 * M)) / M) := by omega
      rw [e2]
      exact Int.mul_emod_right _ _
  obtain ⟨a1, a2, a3, a4⟩ := hsn
  have mid : ∀ p : Int, ((L w.1).length : Int) < p → p ≤ s - ((L w.2.2).length : Int) → ((L w.1).length : Int) < x → x ≤ n - ((L w.2.2).length : Int) → (x - p) % M = 0 → (rw_ w s)[(p - 1).toNat]? = (rw_ w n)[(x - 1).toNat]? := fun p p1 p2 x1 x2 hd => by
    rw [row_mid hm (by omega) (by omega) (by omega), row_mid hm (by omega) (by omega) (by omega)]
    congr 1
    refine (mod_same ?_).symm
    rw [hM, ← hd]
    congr 1
    omega
  by_cases c1 : x ≤ ((L w.1).length : Int) + 20 * M
  · rw [if_pos (dec_true c1)]
    refine q x h1 (by omega) ?_
    by_cases c2 : x ≤ ((L w.1).length : Int)
    · rw [row_head (by omega), row_head (by omega)]
    · rcases a4 with e | e
      · rw [e]
      · exact mid x (by omega) (by omega) (by omega) (by omega) (by rw [Int.sub_self]; exact Int.zero_emod _)
  · rw [if_neg (by simpa using c1)]
    refine ⟨line4 m4, line4 hw.h4, ?_⟩
    by_cases c2 : n - x < s - 20 * M - ((L w.1).length : Int)
    · rw [if_pos (dec_true c2)]
      refine q _ (by omega) (by omega) ?_
      by_cases c3 : n - x < ((L w.2.2).length : Int)
      · rw [row_tail (by omega) (by omega), row_tail (by omega) (by omega)]
        congr 1
        omega
      · refine mid _ (by omega) (by omega) (by omega) (by omega) ?_
        rw [← a3]
        congr 1
        omega
    · rw [if_neg (by simpa using c2)]
      have r0 := Int.emod_nonneg (x - ((L w.1).length : Int) - 1) (by omega : M ≠ 0)
      have r1 := Int.emod_lt_of_pos (x - ((L w.1).length : Int) - 1) hm'
      have r2 := Int.mul_ediv_add_emod (x - ((L w.1).length : Int) - 1) M
      refine ⟨line4 hw.h4, line4 hw.h4, line4 m4, hm', q _ (by omega) (by omega) (mid _ (by omega) (by omega) (by omega) (by omega) ?_)⟩
      have e : x - (((L w.1).length : Int) + 1 + (x - ((L w.1).length : Int) - 1) % M) = M * ((x - ((L w.1).length : Int) - 1) / M) := by omega
      rw [e]
      exact Int.mul_emod_right _ _
theorem gright_ok {w : Str × Str × Str} (hw : WV w) {n : Int} (hn : lst w ≤ n) (hb : n ≤ 10 ^ 60 + 1000) {k : Bool → Prop} (q : k true) : M_great_right w w n k := by
  have g := @lst_ge w
  have g8 := lst_le hw
  have m1 := hw.m1
  have m4 := hw.m4
  have hl := rw_len hn
  unfold M_great_right
  refine short_ok hw fun s hs => ?_
  have hsb : lst w ≤ s ∧ s ≤ 5000 := by
    obtain ⟨s1, s2⟩ := hs
    by_cases c : n ≤ lst w + 40 * ((L w.2.1).length : Int)
    · have := s1 c
      omega
    · have := s2 (by omega)
      have r0 := Int.emod_nonneg (n - (lst w + 40 * ((L w.2.1).length : Int))) (by omega : ((L w.2.1).length : Int) ≠ 0)
      have r1 := Int.emod_lt_of_pos (n - (lst w + 40 * ((L w.2.1).length : Int))) (by omega : (0 : Int) < ((L w.2.1).length : Int))
      omega
  refine line_ok hw hsb.1 hsb.2 fun z hz => ?_
  have hls := rw_len hsb.1
  refine great_ok (by decide) (by decide) fun a a0 a1 => ⟨by omega, by simp, ?_⟩
  refine filC_ok (fun x => if 1 ≤ x ∧ x ≤ n then some x else none) (fun x _ k' hk => ?_) ?_
  · by_cases c1 : 1 ≤ x
    · rw [if_pos (dec_true c1)]
      by_cases c2 : x ≤ n
      · rw [if_pos (dec_true c2)]
        rw [if_pos ⟨c1, c2⟩] at hk
        exact hk
      · rw [if_neg (by simpa using c2)]
        rw [if_neg (fun h => c2 h.2)] at hk
        exact hk
    · rw [if_neg (by simpa using c1)]
      rw [if_neg (fun h => c1 h.1)] at hk
      exact hk
  · rw [List.nil_append]
    refine forC_ok (fun _ => True) (fun x hx s' k' _ hk => ?_) trivial fun _ _ => q
    obtain ⟨y, _, hy⟩ := List.mem_filterMap.mp hx
    have hxb : 1 ≤ x ∧ x ≤ n := by
      by_cases c : 1 ≤ y ∧ y ≤ n
      · rw [if_pos c] at hy
        have := Option.some.inj hy
        omega
      · rw [if_neg c] at hy
        cases hy
    refine place_ok hw hn hs hxb.1 hxb.2 fun p p1 p2 hp => ?_
    obtain ⟨c, hc⟩ : ∃ c, (rw_ w n)[(x - 1).toNat]? = some c := ⟨_, List.getElem?_eq_getElem (by omega)⟩
    refine ⟨line_of (n := 6000) (by rw [hz]; omega) (by decide), c, at_nat' (by omega) (by rw [show z.cps.toList = rw_ w s from hz, hp]; exact hc), ?_⟩
    refine mark_ok hw hn hxb.1 hxb.2 fun c' hc' => ?_
    rw [hc] at hc'
    have ec : c = c' := Option.some.inj hc'
    subst ec
    rw [if_neg (by simp)]
    refine steps_ok hw hn hb hxb.1 hxb.2 ?_
    rw [if_neg (by decide)]
    exact hk () trivial

theorem rounds_ok {w : Str × Str × Str} (hw : WV w) {n : Int} (hn : lst w ≤ n) (hb : n ≤ 10 ^ 60 + 1000) {k : Bool → Prop} (q : k true) : M_rounds_right w w n k := by
  have g := @lst_ge w
  have m1 := hw.m1
  have m4 := hw.m4
  have hm : 0 < (L w.2.1).length := by omega
  have hm' : (0 : Int) < ((L w.2.1).length : Int) := by omega
  have c0 := cn_pos 104 (L w.2.1)
  have c1 := cn_le 104 (L w.2.1)
  unfold M_rounds_right
  refine ⟨line4 hw.h4, line4 hw.t4, line4 m4, ?_⟩
  rw [len_L, len_L, len_L, count_h, count_h, count_h]
  by_cases c : n - ((L w.2.2).length : Int) - ((L w.1).length : Int) < ((L w.2.1).length : Int)
  · rw [if_pos (dec_true c)]
    exact q
  · rw [if_neg (by simpa using c)]
    generalize hE : n - ((L w.2.2).length : Int) - ((L w.1).length : Int) = E at *
    refine great_ok (by decide) (by decide) fun a a0 a1 => ⟨by omega, ?_⟩
    have r0 := Int.emod_nonneg a (by omega : E - ((L w.2.1).length : Int) + 1 ≠ 0)
    have r1 := Int.emod_lt_of_pos a (by omega : 0 < E - ((L w.2.1).length : Int) + 1)
    generalize hR : a % (E - ((L w.2.1).length : Int) + 1) = R at *
    have midh : ∀ x : Int, 0 ≤ x → x ≤ E → hom 104 (L w.1) (L w.2.1) (L w.2.2) n.toNat (((L w.1).length : Int) + x).toNat = cn 104 (L w.1) + cyn 104 (L w.2.1) x.toNat := fun x x0 x1 => by
      unfold hom
      rw [List.take_of_length_le (by omega), show (((L w.1).length : Int) + x).toNat - (n.toNat - (L w.2.2).length) = 0 by omega, List.take_zero, cn_nil,
        show min (((L w.1).length : Int) + x).toNat (n.toNat - (L w.2.2).length) - (L w.1).length = x.toNat by omega]
      omega
    have d1 : CDivW E ((L w.2.1).length : Int) := wide_div hm' (b := 4) (by omega) (by decide) (by decide)
    have q0 : 0 ≤ E / ((L w.2.1).length : Int) := Int.ediv_nonneg (by omega) (by omega)
    have q1 : E / ((L w.2.1).length : Int) ≤ E := Int.ediv_le_self _ (by omega)
    have q2 : E / ((L w.2.1).length : Int) * ((L w.2.1).length : Int) ≤ E := Int.ediv_mul_le _ (by omega)
    have q3 : 0 ≤ E / ((L w.2.1).length : Int) * ((L w.2.1).length : Int) := Int.mul_nonneg q0 (by omega)
    refine homes_ok hw hn (by omega) (by omega) hb (homes_ok hw hn (by omega) (by omega) hb ?_)
    rw [Int.add_assoc, midh _ (by omega) (by omega), midh _ (by omega) (by omega), show (R + ((L w.2.1).length : Int)).toNat = R.toNat + (L w.2.1).length by omega, cyn_add 104 hm, eqI]
    rw [if_neg (by simp; omega)]
    refine ⟨d1, cm3 (a := 201) (nat_lt_200 q0 (by omega)) (by decide) (by omega) (by decide), cm3 (a := 201) (nat_lt_200 q0 (by omega)) (by decide) (by omega) (by decide), ?_⟩
    refine homes_ok hw hn (by omega) (by omega) hb ?_
    have e1 : (E / ((L w.2.1).length : Int) * ((L w.2.1).length : Int)).toNat = (E / ((L w.2.1).length : Int)).toNat * (L w.2.1).length := by
      have e2 : E / ((L w.2.1).length : Int) = (((E / ((L w.2.1).length : Int)).toNat : Nat) : Int) := by omega
      rw [e2, ← Int.natCast_mul]
      rfl
    rw [midh _ q3 q2, e1, cyn_mul 104 hm, eqI, show (((E / ((L w.2.1).length : Int)).toNat : Nat) : Int) = E / ((L w.2.1).length : Int) by omega]
    rw [if_neg (by simp)]
    refine homes_ok hw hn (by omega) (by omega) hb ?_
    have m0 := midh 0 (by decide) (by omega)
    rw [Int.add_zero] at m0
    rw [m0, show (0 : Int).toNat = 0 from rfl, show cyn 104 (L w.2.1) 0 = 0 by rw [← cyn_eq 104 hm]; rfl, eqI]
    rw [if_neg (by simp)]
    refine homes_ok hw hn (by omega) (by omega) hb (homes_ok hw hn (by omega) (by omega) hb ?_)
    have e3 : hom 104 (L w.1) (L w.2.1) (L w.2.2) n.toNat n.toNat - hom 104 (L w.1) (L w.2.1) (L w.2.2) n.toNat (n - ((L w.2.2).length : Int)).toNat = cn 104 (L w.2.2) := by
      unfold hom
      rw [List.take_of_length_le (by omega), List.take_of_length_le (l := L w.1) (i := (n - ((L w.2.2).length : Int)).toNat) (by omega), List.take_of_length_le (l := L w.2.2) (by omega),
        show (n - ((L w.2.2).length : Int)).toNat - (n.toNat - (L w.2.2).length) = 0 by omega, List.take_zero, cn_nil,
        show min n.toNat (n.toNat - (L w.2.2).length) = min (n - ((L w.2.2).length : Int)).toNat (n.toNat - (L w.2.2).length) by omega]
      omega
    rw [e3, eqI, if_pos (dec_true rfl)]
    refine homes_ok hw hn (by decide) (by omega) hb ?_
    have e4 : hom 104 (L w.1) (L w.2.1) (L w.2.2) n.toNat (Int.toNat 0) = 0 := by
      unfold hom
      rw [show Int.toNat 0 = 0 from rfl, List.take_zero, cn_nil, Nat.zero_min, Nat.zero_sub, Nat.zero_sub, List.take_zero, cn_nil, show cyn 104 (L w.2.1) 0 = 0 by rw [← cyn_eq 104 hm]; rfl]
      rfl
    rw [e4, eqI, dec_true rfl]
    exact q
theorem right_true : M_right (fun r => r = true) := by
  have hb : (10 : Int) ^ 60 ≥ 1000 := by decide
  unfold M_right
  refine ⟨by decide, forC_ok (fun _ => True) (fun x _ s k' _ hk => ?_) trivial fun _ _ => rfl⟩
  refine parts_ok fun w hw => ⟨word_ok hw, small_ok hw ?_⟩
  have g := @lst_ge w
  have g8 := lst_le hw
  rw [if_neg (by decide)]
  refine least_ok hw (great_ok (by omega) (by omega) fun a a0 a1 => least_ok hw (draw_ok (by decide) (by decide) fun d d0 d1 => ?_))
  refine forC_ok (fun _ => True) (fun n hn s2 k2 _ hk2 => ?_) trivial fun _ _ => hk () trivial
  have nb : lst w ≤ n ∧ n ≤ 10 ^ 60 + 1000 := by
    rcases List.mem_cons.mp hn with e | hn
    · omega
    · have e := List.mem_singleton.mp hn
      omega
  refine gright_ok hw nb.1 nb.2 ?_
  rw [if_neg (by decide)]
  refine rounds_ok hw nb.1 nb.2 ?_
  rw [if_neg (by decide)]
  exact hk2 () trivial

def sp_law (K : PySem.W.Frag) : Sp := fun vs H Q _ => ∃ (a : Addr) (ns : List Int), vs = [.ref a] ∧ SqL K H a (ns.map V.int) ∧ ns.length ≤ 63 ∧ ∀ H1 : Hp, Q (.bl true) H1
theorem law_enter {K : PySem.W.Frag} {H : Hp} {a : Addr} {ns : List Int} (hl : ns.length ≤ 63) (_ : Only H) (hS : SqL K H a (ns.map V.int)) : sp_law K [.ref a] H (fun v _ => v = .bl true) fun _ _ _ => False := ⟨a, ns, rfl, hS, hl, fun _ => rfl⟩
theorem sq_keep {K : PySem.W.Frag} {H H1 : Hp} {a : Addr} {xs : List V} (k : ∀ b o, H b = some o → H1 b = some o) (h : SqL K H a xs) : SqL K H1 a xs := by
  rcases h with (h | ⟨o, h⟩) | h
  · exact .inl (.inl (k _ _ h))
  · exact .inl (.inr ⟨o, k _ _ h⟩)
  · exact .inr h
theorem ok_law {P : Program} {w : World} {K : PySem.W.Frag} {mg : Str → Option Value} {base : Heap} {A : Ad} (T : Txt K mg A) : FnOk P w K mg base CX0 8 A.a_law A.d_law ["_law_script"] (sp_law K) := by
  refine T.F_law.ok sc_law (fun vs H Q E h => ?_) (fun cdv A_ outer s_ H_0 vs Q E hr h => ?_)
  · obtain ⟨a, ns, rfl, _⟩ := h
    rfl
  · obtain ⟨a, ns, rfl, hS, hl, hQ⟩ := h
    refine ⟨_, pss_one (ps_ret (pe_callB (cr_all rfl) (by rfl) T.z_all (by decide +kernel) (pa_cons (pe_lc (own := [("_law_k", 1)]) (g := gName 1) rfl sc_law.nd
      (pi_range1 (by rfl) T.z_range (pa_cons (pe_callB (call_max2 rfl) (by rfl) T.z_max (by decide +kernel) (pa_cons pe_int (pa_cons (pe_callB (call_min2 rfl) (by rfl) T.z_min (by decide +kernel) (pa_cons (pe_callB call_len (by rfl) T.z_len PySem.boot_len (pa_cons (pv 0) pa_nil)) (pa_cons pe_int pa_nil))) pa_nil))) pa_nil))
      (blkOk_by (N := ["_law_script", "_law_k"]) (sc := defScope s_law) (by decide +kernel)) (fun _ _ _ _ _ => pg_name (i := 1) sc_law.nd rfl (by first | exact Or.inl rfl | exact Or.inr rfl)) (fun _ _ _ _ _ => pts_nil)
      (fun _ _ _ _ _ => pe_call (ok_right T) (hr.mono (by decide)) (by rfl) T.g_right T.F_right.kp T.b_right .nil pass0 (pa_cons (pe_call (ok_pot T) (hr.mono (by decide)) (by rfl) T.g_pot T.F_pot.kp T.b_pot .nil pass0 (pa_cons (pv 0) (pa_cons (pv 1) pa_nil))) pa_nil))) pa_nil))), ?_⟩
    refine ⟨_, rfl, _, ns.length, rfl, .inl ⟨_, hS, by rw [List.length_map]⟩, _, _, rfl, _, _, rfl, _, rfl, ?_, ?_, fun L nl => ?_⟩
    · split <;> split <;> omega
    · split <;> split <;> omega
    have hsq : ∀ H : Hp, (∀ o, H_0 a = some o → H a = some o) → SqL K H a (ns.map V.int) := fun H k => by
      rcases hS with (h | ⟨o, h⟩) | h
      · exact .inl (.inl (k _ h))
      · exact .inl (.inr ⟨o, k _ h⟩)
      · exact .inr h
    refine lc_range (lo := 0) (fun i H => (∀ o, H_0 a = some o → H a = some o) ∧ ∃ n, n ≤ i ∧ H L = some (.lst (List.replicate n (.bl true)))) ⟨fun o h => (Ext.new nl).keep h, 0, Nat.le_refl _, upd_same⟩ (fun i H hi ⟨hS1, n, hn, hL⟩ => ?_) (fun H ⟨hS1, n, hn, hL⟩ => ?_)
    · refine ⟨rfl, ?_⟩
      refine tyes_of ?_
      have hi4 : i < 4 := by
        refine Nat.lt_of_lt_of_le hi ?_
        split <;> split <;> omega
      refine ⟨_, rfl, _, rfl, a, ns, 0 + (i : Int), rfl, hsq H hS1, hl, by omega, by omega, fun p H1 i1 j1 np e1 hp hj => ?_⟩
      refine ⟨[p], p, fun r => r = true, rfl, ⟨fun _ _ _ h => h, fun _ h => h, fun m hm => ?_, fun b hb => ?_, fun b hb => hb, fun c hc => absurd hc List.not_mem_nil⟩, right_true, fun r u H2 hr2 e2 hu => ?_⟩
      · rw [List.mem_singleton.mp hm, hp]
        exact fun z => nomatch z
      · rw [List.mem_singleton.mp hb]
        exact ⟨i1, j1, hp, hj⟩
      · obtain rfl := of_v hu
        have e3 : ∀ b o, H b = some o → H2 b = some o := fun b o h => e2.kp b o (fun z => by
          rw [List.mem_singleton.mp z, np] at h
          cases h) (e1.keep h)
        refine ⟨_, e3 _ _ hL, ?_, fun o h => ?_, n + 1, Nat.succ_le_succ hn, by rw [upd_same, hr2, List.replicate_succ']⟩
        · rw [List.length_replicate]
          exact Nat.lt_of_le_of_lt (show n ≤ 4 by omega) (by decide)
        · rw [upd_ne (ne_of_none h nl)]
          exact e3 _ _ (hS1 _ h)
    · refine ⟨L, List.replicate n true, rfl, .inl (.inl (by rw [List.map_replicate]; exact hL)), ?_⟩
      have : (List.replicate n true).all id = true := by
        rw [List.all_eq_true]
        intro x hx
        rw [(List.mem_replicate.mp hx).2]
        rfl
      rw [this]
      exact hQ _

theorem all_mk {l : PySem.W.OpenLaw} {w : World} {K : PySem.W.Frag} {h : Heap} {mg : Str → Option Value} {fa Ais_marks Acheck_part Adraw Asigns Aparts Aleast Aline Ais_integer AWord_least Acheck_places AWord_mark Ahomes_said AWord_homes Asmall_right Apick Agreat Ashort Aplace_in Asteps_right Agreat_right Arounds_right Aright Apot Alaw AWord_init CWord : Addr} (X : K.In h) (G : h.Ns mainGlobals mg) (hfa : mg "law" = some (.ref fa))
    {odis_marks anis_marks : Option Addr} {slis_marks : Array (Option Value)} {ocis_marks kVis_marks dcis_marks pmis_marks cdis_marks ctis_marks : Value}
    {odcheck_part ancheck_part : Option Addr} {slcheck_part : Array (Option Value)} {occheck_part kVcheck_part dccheck_part pmcheck_part cdcheck_part ctcheck_part : Value}
    {oddraw andraw : Option Addr} {sldraw : Array (Option Value)} {ocdraw kVdraw dcdraw pmdraw cddraw ctdraw : Value}
    {odsigns ansigns : Option Addr} {slsigns : Array (Option Value)} {ocsigns kVsigns dcsigns pmsigns cdsigns ctsigns : Value}
    {odparts anparts : Option Addr} {slparts : Array (Option Value)} {ocparts kVparts dcparts pmparts cdparts ctparts : Value}
    {odleast anleast : Option Addr} {slleast : Array (Option Value)} {ocleast kVleast dcleast pmleast cdleast ctleast : Value}
    {odline anline : Option Addr} {slline : Array (Option Value)} {ocline kVline dcline pmline cdline ctline : Value}
    {odis_integer anis_integer : Option Addr} {slis_integer : Array (Option Value)} {ocis_integer kVis_integer dcis_integer pmis_integer cdis_integer ctis_integer : Value}
    {PWord_least : Addr}
    {RWord_least : List Value}
    {odWord_least anWord_least : Option Addr} {slWord_least : Array (Option Value)} {ocWord_least kVWord_least dcWord_least pmWord_least cdWord_least ctWord_least : Value}
    {odcheck_places ancheck_places : Option Addr} {slcheck_places : Array (Option Value)} {occheck_places kVcheck_places dccheck_places pmcheck_places cdcheck_places ctcheck_places : Value}
    {odWord_mark anWord_mark : Option Addr} {slWord_mark : Array (Option Value)} {ocWord_mark kVWord_mark dcWord_mark pmWord_mark cdWord_mark ctWord_mark : Value}
    {odhomes_said anhomes_said : Option Addr} {slhomes_said : Array (Option Value)} {ochomes_said kVhomes_said dchomes_said pmhomes_said cdhomes_said cthomes_said : Value}
    {odWord_homes anWord_homes : Option Addr} {slWord_homes : Array (Option Value)} {ocWord_homes kVWord_homes dcWord_homes pmWord_homes cdWord_homes ctWord_homes : Value}
    {odsmall_right ansmall_right : Option Addr} {slsmall_right : Array (Option Value)} {ocsmall_right kVsmall_right dcsmall_right pmsmall_right cdsmall_right ctsmall_right : Value}
    {odpick anpick : Option Addr} {slpick : Array (Option Value)} {ocpick kVpick dcpick pmpick cdpick ctpick : Value}
    {odgreat angreat : Option Addr} {slgreat : Array (Option Value)} {ocgreat kVgreat dcgreat pmgreat cdgreat ctgreat : Value}
    {odshort anshort : Option Addr} {slshort : Array (Option Value)} {ocshort kVshort dcshort pmshort cdshort ctshort : Value}
    {odplace_in anplace_in : Option Addr} {slplace_in : Array (Option Value)} {ocplace_in kVplace_in dcplace_in pmplace_in cdplace_in ctplace_in : Value}
    {odsteps_right ansteps_right : Option Addr} {slsteps_right : Array (Option Value)} {ocsteps_right kVsteps_right dcsteps_right pmsteps_right cdsteps_right ctsteps_right : Value}
    {odgreat_right angreat_right : Option Addr} {slgreat_right : Array (Option Value)} {ocgreat_right kVgreat_right dcgreat_right pmgreat_right cdgreat_right ctgreat_right : Value}
    {odrounds_right anrounds_right : Option Addr} {slrounds_right : Array (Option Value)} {ocrounds_right kVrounds_right dcrounds_right pmrounds_right cdrounds_right ctrounds_right : Value}
    {odright anright : Option Addr} {slright : Array (Option Value)} {ocright kVright dcright pmright cdright ctright : Value}
    {odpot anpot : Option Addr} {slpot : Array (Option Value)} {ocpot kVpot dcpot pmpot cdpot ctpot : Value}
    {odlaw anlaw : Option Addr} {sllaw : Array (Option Value)} {oclaw kVlaw dclaw pmlaw cdlaw ctlaw : Value}
    {odWord_init anWord_init : Option Addr} {slWord_init : Array (Option Value)} {ocWord_init kVWord_init dcWord_init pmWord_init cdWord_init ctWord_init : Value}
    {tMOST_MARKS : Tok}
    (a_is_marks : PySem.W.nsIn K mainGlobals "is_marks" = some (some (.ref Ais_marks)))
    (l_is_marks : K.lookup Ais_marks = some ⟨ocis_marks, odis_marks, .func (PySem.W.fnOf "is_marks" "is_marks" (defArgs s_is_marks) (defBody s_is_marks) (defScope s_is_marks) .none kVis_marks dcis_marks pmis_marks anis_marks cdis_marks ctis_marks), slis_marks⟩)
    (o_is_marks : PySem.W.codeIn K cdis_marks "is_marks" = true)
    (k_is_marks : PySem.W.keepIn K (.ref Ais_marks) = true)
    (a_check_part : PySem.W.nsIn K mainGlobals "_check_part" = some (some (.ref Acheck_part)))
    (l_check_part : K.lookup Acheck_part = some ⟨occheck_part, odcheck_part, .func (PySem.W.fnOf "_check_part" "_check_part" (defArgs s_check_part) (defBody s_check_part) (defScope s_check_part) .none kVcheck_part dccheck_part pmcheck_part ancheck_part cdcheck_part ctcheck_part), slcheck_part⟩)
    (o_check_part : PySem.W.codeIn K cdcheck_part "_check_part" = true)
    (k_check_part : PySem.W.keepIn K (.ref Acheck_part) = true)
    (a_draw : PySem.W.nsIn K mainGlobals "_law_draw" = some (some (.ref Adraw)))
    (l_draw : K.lookup Adraw = some ⟨ocdraw, oddraw, .func (PySem.W.fnOf "_law_draw" "_law_draw" (defArgs s_draw) (defBody s_draw) (defScope s_draw) .none kVdraw dcdraw pmdraw andraw cddraw ctdraw), sldraw⟩)
    (o_draw : PySem.W.codeIn K cddraw "_law_draw" = true)
    (k_draw : PySem.W.keepIn K (.ref Adraw) = true)
    (a_signs : PySem.W.nsIn K mainGlobals "_law_signs" = some (some (.ref Asigns)))
    (l_signs : K.lookup Asigns = some ⟨ocsigns, odsigns, .func (PySem.W.fnOf "_law_signs" "_law_signs" (defArgs s_signs) (defBody s_signs) (defScope s_signs) .none kVsigns dcsigns pmsigns ansigns cdsigns ctsigns), slsigns⟩)
    (o_signs : PySem.W.codeIn K cdsigns "_law_signs" = true)
    (k_signs : PySem.W.keepIn K (.ref Asigns) = true)
    (a_parts : PySem.W.nsIn K mainGlobals "_law_parts" = some (some (.ref Aparts)))
    (l_parts : K.lookup Aparts = some ⟨ocparts, odparts, .func (PySem.W.fnOf "_law_parts" "_law_parts" (defArgs s_parts) (defBody s_parts) (defScope s_parts) .none kVparts dcparts pmparts anparts cdparts ctparts), slparts⟩)
    (o_parts : PySem.W.codeIn K cdparts "_law_parts" = true)
    (k_parts : PySem.W.keepIn K (.ref Aparts) = true)
    (a_least : PySem.W.nsIn K mainGlobals "_law_least" = some (some (.ref Aleast)))
    (l_least : K.lookup Aleast = some ⟨ocleast, odleast, .func (PySem.W.fnOf "_law_least" "_law_least" (defArgs s_least) (defBody s_least) (defScope s_least) .none kVleast dcleast pmleast anleast cdleast ctleast), slleast⟩)
    (o_least : PySem.W.codeIn K cdleast "_law_least" = true)
    (k_least : PySem.W.keepIn K (.ref Aleast) = true)
    (a_line : PySem.W.nsIn K mainGlobals "_law_line" = some (some (.ref Aline)))
    (l_line : K.lookup Aline = some ⟨ocline, odline, .func (PySem.W.fnOf "_law_line" "_law_line" (defArgs s_line) (defBody s_line) (defScope s_line) .none kVline dcline pmline anline cdline ctline), slline⟩)
    (o_line : PySem.W.codeIn K cdline "_law_line" = true)
    (k_line : PySem.W.keepIn K (.ref Aline) = true)
    (a_is_integer : PySem.W.nsIn K mainGlobals "is_integer" = some (some (.ref Ais_integer)))
    (l_is_integer : K.lookup Ais_integer = some ⟨ocis_integer, odis_integer, .func (PySem.W.fnOf "is_integer" "is_integer" (defArgs s_is_integer) (defBody s_is_integer) (defScope s_is_integer) .none kVis_integer dcis_integer pmis_integer anis_integer cdis_integer ctis_integer), slis_integer⟩)
    (o_is_integer : PySem.W.codeIn K cdis_integer "is_integer" = true)
    (k_is_integer : PySem.W.keepIn K (.ref Ais_integer) = true)
    (pa_Word_least : PySem.W.findIn K (.ref CWord) "least" = some (some (.ref PWord_least)))
    (pg_Word_least : PySem.W.specialIn K (.ref PWord_least) "__get__" = some (some (.builtin "property.__get__")))
    (pt_Word_least : PySem.W.takesIn K (.ref PWord_least) = some true)
    (pr_Word_least : PySem.W.recIn K PWord_least "property" = some (.ref AWord_least :: RWord_least))
    (l_Word_least : K.lookup AWord_least = some ⟨ocWord_least, odWord_least, .func (PySem.W.fnOf "least" "Word.least" (defArgs s_Word_least) (defBody s_Word_least) (defScope s_Word_least) .none kVWord_least dcWord_least pmWord_least anWord_least cdWord_least ctWord_least), slWord_least⟩)
    (o_Word_least : PySem.W.codeIn K cdWord_least "Word.least" = true)
    (k_Word_least : PySem.W.keepIn K (.ref AWord_least) = true)
    (a_check_places : PySem.W.nsIn K mainGlobals "_check_places" = some (some (.ref Acheck_places)))
    (l_check_places : K.lookup Acheck_places = some ⟨occheck_places, odcheck_places, .func (PySem.W.fnOf "_check_places" "_check_places" (defArgs s_check_places) (defBody s_check_places) (defScope s_check_places) .none kVcheck_places dccheck_places pmcheck_places ancheck_places cdcheck_places ctcheck_places), slcheck_places⟩)
    (o_check_places : PySem.W.codeIn K cdcheck_places "_check_places" = true)
    (k_check_places : PySem.W.keepIn K (.ref Acheck_places) = true)
    (a_Word_mark : PySem.W.findIn K (.ref CWord) "mark" = some (some (.ref AWord_mark)))
    (i_Word_mark : PySem.W.isFn K (.ref AWord_mark) = true)
    (l_Word_mark : K.lookup AWord_mark = some ⟨ocWord_mark, odWord_mark, .func (PySem.W.fnOf "mark" "Word.mark" (defArgs s_Word_mark) (defBody s_Word_mark) (defScope s_Word_mark) .none kVWord_mark dcWord_mark pmWord_mark anWord_mark cdWord_mark ctWord_mark), slWord_mark⟩)
    (o_Word_mark : PySem.W.codeIn K cdWord_mark "Word.mark" = true)
    (k_Word_mark : PySem.W.keepIn K (.ref AWord_mark) = true)
    (a_homes_said : PySem.W.nsIn K mainGlobals "_homes_said" = some (some (.ref Ahomes_said)))
    (l_homes_said : K.lookup Ahomes_said = some ⟨ochomes_said, odhomes_said, .func (PySem.W.fnOf "_homes_said" "_homes_said" (defArgs s_homes_said) (defBody s_homes_said) (defScope s_homes_said) .none kVhomes_said dchomes_said pmhomes_said anhomes_said cdhomes_said cthomes_said), slhomes_said⟩)
    (o_homes_said : PySem.W.codeIn K cdhomes_said "_homes_said" = true)
    (k_homes_said : PySem.W.keepIn K (.ref Ahomes_said) = true)
    (a_Word_homes : PySem.W.findIn K (.ref CWord) "homes" = some (some (.ref AWord_homes)))
    (i_Word_homes : PySem.W.isFn K (.ref AWord_homes) = true)
    (l_Word_homes : K.lookup AWord_homes = some ⟨ocWord_homes, odWord_homes, .func (PySem.W.fnOf "homes" "Word.homes" (defArgs s_Word_homes) (defBody s_Word_homes) (defScope s_Word_homes) .none kVWord_homes dcWord_homes pmWord_homes anWord_homes cdWord_homes ctWord_homes), slWord_homes⟩)
    (o_Word_homes : PySem.W.codeIn K cdWord_homes "Word.homes" = true)
    (k_Word_homes : PySem.W.keepIn K (.ref AWord_homes) = true)
    (a_small_right : PySem.W.nsIn K mainGlobals "_law_small_right" = some (some (.ref Asmall_right)))
    (l_small_right : K.lookup Asmall_right = some ⟨ocsmall_right, odsmall_right, .func (PySem.W.fnOf "_law_small_right" "_law_small_right" (defArgs s_small_right) (defBody s_small_right) (defScope s_small_right) .none kVsmall_right dcsmall_right pmsmall_right ansmall_right cdsmall_right ctsmall_right), slsmall_right⟩)
    (o_small_right : PySem.W.codeIn K cdsmall_right "_law_small_right" = true)
    (k_small_right : PySem.W.keepIn K (.ref Asmall_right) = true)
    (a_pick : PySem.W.nsIn K mainGlobals "_law_pick" = some (some (.ref Apick)))
    (l_pick : K.lookup Apick = some ⟨ocpick, odpick, .func (PySem.W.fnOf "_law_pick" "_law_pick" (defArgs s_pick) (defBody s_pick) (defScope s_pick) .none kVpick dcpick pmpick anpick cdpick ctpick), slpick⟩)
    (o_pick : PySem.W.codeIn K cdpick "_law_pick" = true)
    (k_pick : PySem.W.keepIn K (.ref Apick) = true)
    (a_great : PySem.W.nsIn K mainGlobals "_law_great" = some (some (.ref Agreat)))
    (l_great : K.lookup Agreat = some ⟨ocgreat, odgreat, .func (PySem.W.fnOf "_law_great" "_law_great" (defArgs s_great) (defBody s_great) (defScope s_great) .none kVgreat dcgreat pmgreat angreat cdgreat ctgreat), slgreat⟩)
    (o_great : PySem.W.codeIn K cdgreat "_law_great" = true)
    (k_great : PySem.W.keepIn K (.ref Agreat) = true)
    (a_short : PySem.W.nsIn K mainGlobals "_law_short" = some (some (.ref Ashort)))
    (l_short : K.lookup Ashort = some ⟨ocshort, odshort, .func (PySem.W.fnOf "_law_short" "_law_short" (defArgs s_short) (defBody s_short) (defScope s_short) .none kVshort dcshort pmshort anshort cdshort ctshort), slshort⟩)
    (o_short : PySem.W.codeIn K cdshort "_law_short" = true)
    (k_short : PySem.W.keepIn K (.ref Ashort) = true)
    (a_place_in : PySem.W.nsIn K mainGlobals "_law_place_in" = some (some (.ref Aplace_in)))
    (l_place_in : K.lookup Aplace_in = some ⟨ocplace_in, odplace_in, .func (PySem.W.fnOf "_law_place_in" "_law_place_in" (defArgs s_place_in) (defBody s_place_in) (defScope s_place_in) .none kVplace_in dcplace_in pmplace_in anplace_in cdplace_in ctplace_in), slplace_in⟩)
    (o_place_in : PySem.W.codeIn K cdplace_in "_law_place_in" = true)
    (k_place_in : PySem.W.keepIn K (.ref Aplace_in) = true)
    (a_steps_right : PySem.W.nsIn K mainGlobals "_law_steps_right" = some (some (.ref Asteps_right)))
    (l_steps_right : K.lookup Asteps_right = some ⟨ocsteps_right, odsteps_right, .func (PySem.W.fnOf "_law_steps_right" "_law_steps_right" (defArgs s_steps_right) (defBody s_steps_right) (defScope s_steps_right) .none kVsteps_right dcsteps_right pmsteps_right ansteps_right cdsteps_right ctsteps_right), slsteps_right⟩)
    (o_steps_right : PySem.W.codeIn K cdsteps_right "_law_steps_right" = true)
    (k_steps_right : PySem.W.keepIn K (.ref Asteps_right) = true)
    (a_great_right : PySem.W.nsIn K mainGlobals "_law_great_right" = some (some (.ref Agreat_right)))
    (l_great_right : K.lookup Agreat_right = some ⟨ocgreat_right, odgreat_right, .func (PySem.W.fnOf "_law_great_right" "_law_great_right" (defArgs s_great_right) (defBody s_great_right) (defScope s_great_right) .none kVgreat_right dcgreat_right pmgreat_right angreat_right cdgreat_right ctgreat_right), slgreat_right⟩)
    (o_great_right : PySem.W.codeIn K cdgreat_right "_law_great_right" = true)
    (k_great_right : PySem.W.keepIn K (.ref Agreat_right) = true)
    (a_rounds_right : PySem.W.nsIn K mainGlobals "_law_rounds_right" = some (some (.ref Arounds_right)))
    (l_rounds_right : K.lookup Arounds_right = some ⟨ocrounds_right, odrounds_right, .func (PySem.W.fnOf "_law_rounds_right" "_law_rounds_right" (defArgs s_rounds_right) (defBody s_rounds_right) (defScope s_rounds_right) .none kVrounds_right dcrounds_right pmrounds_right anrounds_right cdrounds_right ctrounds_right), slrounds_right⟩)
    (o_rounds_right : PySem.W.codeIn K cdrounds_right "_law_rounds_right" = true)
    (k_rounds_right : PySem.W.keepIn K (.ref Arounds_right) = true)
    (a_right : PySem.W.nsIn K mainGlobals "_law_right" = some (some (.ref Aright)))
    (l_right : K.lookup Aright = some ⟨ocright, odright, .func (PySem.W.fnOf "_law_right" "_law_right" (defArgs s_right) (defBody s_right) (defScope s_right) .none kVright dcright pmright anright cdright ctright), slright⟩)
    (o_right : PySem.W.codeIn K cdright "_law_right" = true)
    (k_right : PySem.W.keepIn K (.ref Aright) = true)
    (a_pot : PySem.W.nsIn K mainGlobals "_law_pot" = some (some (.ref Apot)))
    (l_pot : K.lookup Apot = some ⟨ocpot, odpot, .func (PySem.W.fnOf "_law_pot" "_law_pot" (defArgs s_pot) (defBody s_pot) (defScope s_pot) .none kVpot dcpot pmpot anpot cdpot ctpot), slpot⟩)
    (o_pot : PySem.W.codeIn K cdpot "_law_pot" = true)
    (k_pot : PySem.W.keepIn K (.ref Apot) = true)
    (a_law : PySem.W.nsIn K mainGlobals "law" = some (some (.ref Alaw)))
    (l_law : K.lookup Alaw = some ⟨oclaw, odlaw, .func (PySem.W.fnOf "law" "law" (defArgs s_law) (defBody s_law) (defScope s_law) .none kVlaw dclaw pmlaw anlaw cdlaw ctlaw), sllaw⟩)
    (o_law : PySem.W.codeIn K cdlaw "law" = true)
    (k_law : PySem.W.keepIn K (.ref Alaw) = true)
    (a_Word_init : PySem.W.findIn K (.ref CWord) "__init__" = some (some (.ref AWord_init)))
    (i_Word_init : PySem.W.isFn K (.ref AWord_init) = true)
    (l_Word_init : K.lookup AWord_init = some ⟨ocWord_init, odWord_init, .func (PySem.W.fnOf "__init__" "Word.__init__" (defArgs s_Word_init) (defBody s_Word_init) (defScope s_Word_init) .none kVWord_init dcWord_init pmWord_init anWord_init cdWord_init ctWord_init), slWord_init⟩)
    (o_Word_init : PySem.W.codeIn K cdWord_init "Word.__init__" = true)
    (k_Word_init : PySem.W.keepIn K (.ref AWord_init) = true)
    (aC_Word : PySem.W.nsIn K mainGlobals "Word" = some (some (.ref CWord)))
    (pg_Word : PySem.W.plainGet K CWord Str.empty = true)
    (hd_Word : PySem.W.hasDictIn K CWord = true)
    (po_Word : PySem.W.plainOver K CWord = true)
    (sa_Word : PySem.W.findIn K (.ref CWord) "__setattr__" = some (some (.builtin "object.__setattr__")))
    (mk_Word : PySem.W.makesIn K CWord = true)
    (kc_Word : PySem.W.keepIn K (.ref CWord) = true)
    (na_Word__head : PySem.W.findIn K (.ref CWord) "_head" = some none)
    (na_Word__middle : PySem.W.findIn K (.ref CWord) "_middle" = some none)
    (na_Word__tail : PySem.W.findIn K (.ref CWord) "_tail" = some none)
    (z_abs : PySem.W.nsIn K mainGlobals "abs" = some none)
    (z_all : PySem.W.nsIn K mainGlobals "all" = some none)
    (z_bool : PySem.W.nsIn K mainGlobals "bool" = some none)
    (z_divmod : PySem.W.nsIn K mainGlobals "divmod" = some none)
    (z_int : PySem.W.nsIn K mainGlobals "int" = some none)
    (z_isinstance : PySem.W.nsIn K mainGlobals "isinstance" = some none)
    (z_len : PySem.W.nsIn K mainGlobals "len" = some none)
    (z_max : PySem.W.nsIn K mainGlobals "max" = some none)
    (z_min : PySem.W.nsIn K mainGlobals "min" = some none)
    (z_range : PySem.W.nsIn K mainGlobals "range" = some none)
    (z_str : PySem.W.nsIn K mainGlobals "str" = some none)
    (c_MOST_MARKS : PySem.W.nsIn K mainGlobals "MOST_MARKS" = some (some (.int 4 tMOST_MARKS))) :
    ∃ fd : FuncData, (∀ (s : Shared) (v : Value), BindsTo s fd ⟨[v], []⟩ [("_law_script", v)]) ∧ ∀ base : Heap, K.In base → base.Ns mainGlobals mg → FnOk l.prog w K mg base CX0 8 fa fd ["_law_script"] (sp_law K) := by
  have e := hfa.symm.trans (PySem.W.mg_of X G a_law)
  cases e
  have T : Txt K mg ⟨Ais_marks, (PySem.W.fnOf "is_marks" "is_marks" (defArgs s_is_marks) (defBody s_is_marks) (defScope s_is_marks) .none kVis_marks dcis_marks pmis_marks anis_marks cdis_marks ctis_marks), Acheck_part, (PySem.W.fnOf "_check_part" "_check_part" (defArgs s_check_part) (defBody s_check_part) (defScope s_check_part) .none kVcheck_part dccheck_part pmcheck_part ancheck_part cdcheck_part ctcheck_part), Adraw, (PySem.W.fnOf "_law_draw" "_law_draw" (defArgs s_draw) (defBody s_draw) (defScope s_draw) .none kVdraw dcdraw pmdraw andraw cddraw ctdraw), Asigns, (PySem.W.fnOf "_law_signs" "_law_signs" (defArgs s_signs) (defBody s_signs) (defScope s_signs) .none kVsigns dcsigns pmsigns ansigns cdsigns ctsigns), Aparts, (PySem.W.fnOf "_law_parts" "_law_parts" (defArgs s_parts) (defBody s_parts) (defScope s_parts) .none kVparts dcparts pmparts anparts cdparts ctparts), Aleast, (PySem.W.fnOf "_law_least" "_law_least" (defArgs s_least) (defBody s_least) (defScope s_least) .none kVleast dcleast pmleast anleast cdleast ctleast), Aline, (PySem.W.fnOf "_law_line" "_law_line" (defArgs s_line) (defBody s_line) (defScope s_line) .none kVline dcline pmline anline cdline ctline), Ais_integer, (PySem.W.fnOf "is_integer" "is_integer" (defArgs s_is_integer) (defBody s_is_integer) (defScope s_is_integer) .none kVis_integer dcis_integer pmis_integer anis_integer cdis_integer ctis_integer), AWord_least, (PySem.W.fnOf "least" "Word.least" (defArgs s_Word_least) (defBody s_Word_least) (defScope s_Word_least) .none kVWord_least dcWord_least pmWord_least anWord_least cdWord_least ctWord_least), Acheck_places, (PySem.W.fnOf "_check_places" "_check_places" (defArgs s_check_places) (defBody s_check_places) (defScope s_check_places) .none kVcheck_places dccheck_places pmcheck_places ancheck_places cdcheck_places ctcheck_places), AWord_mark, (PySem.W.fnOf "mark" "Word.mark" (defArgs s_Word_mark) (defBody s_Word_mark) (defScope s_Word_mark) .none kVWord_mark dcWord_mark pmWord_mark anWord_mark cdWord_mark ctWord_mark), Ahomes_said, (PySem.W.fnOf "_homes_said" "_homes_said" (defArgs s_homes_said) (defBody s_homes_said) (defScope s_homes_said) .none kVhomes_said dchomes_said pmhomes_said anhomes_said cdhomes_said cthomes_said), AWord_homes, (PySem.W.fnOf "homes" "Word.homes" (defArgs s_Word_homes) (defBody s_Word_homes) (defScope s_Word_homes) .none kVWord_homes dcWord_homes pmWord_homes anWord_homes cdWord_homes ctWord_homes), Asmall_right, (PySem.W.fnOf "_law_small_right" "_law_small_right" (defArgs s_small_right) (defBody s_small_right) (defScope s_small_right) .none kVsmall_right dcsmall_right pmsmall_right ansmall_right cdsmall_right ctsmall_right), Apick, (PySem.W.fnOf "_law_pick" "_law_pick" (defArgs s_pick) (defBody s_pick) (defScope s_pick) .none kVpick dcpick pmpick anpick cdpick ctpick), Agreat, (PySem.W.fnOf "_law_great" "_law_great" (defArgs s_great) (defBody s_great) (defScope s_great) .none kVgreat dcgreat pmgreat angreat cdgreat ctgreat), Ashort, (PySem.W.fnOf "_law_short" "_law_short" (defArgs s_short) (defBody s_short) (defScope s_short) .none kVshort dcshort pmshort anshort cdshort ctshort), Aplace_in, (PySem.W.fnOf "_law_place_in" "_law_place_in" (defArgs s_place_in) (defBody s_place_in) (defScope s_place_in) .none kVplace_in dcplace_in pmplace_in anplace_in cdplace_in ctplace_in), Asteps_right, (PySem.W.fnOf "_law_steps_right" "_law_steps_right" (defArgs s_steps_right) (defBody s_steps_right) (defScope s_steps_right) .none kVsteps_right dcsteps_right pmsteps_right ansteps_right cdsteps_right ctsteps_right), Agreat_right, (PySem.W.fnOf "_law_great_right" "_law_great_right" (defArgs s_great_right) (defBody s_great_right) (defScope s_great_right) .none kVgreat_right dcgreat_right pmgreat_right angreat_right cdgreat_right ctgreat_right), Arounds_right, (PySem.W.fnOf "_law_rounds_right" "_law_rounds_right" (defArgs s_rounds_right) (defBody s_rounds_right) (defScope s_rounds_right) .none kVrounds_right dcrounds_right pmrounds_right anrounds_right cdrounds_right ctrounds_right), Aright, (PySem.W.fnOf "_law_right" "_law_right" (defArgs s_right) (defBody s_right) (defScope s_right) .none kVright dcright pmright anright cdright ctright), Apot, (PySem.W.fnOf "_law_pot" "_law_pot" (defArgs s_pot) (defBody s_pot) (defScope s_pot) .none kVpot dcpot pmpot anpot cdpot ctpot), fa, (PySem.W.fnOf "law" "law" (defArgs s_law) (defBody s_law) (defScope s_law) .none kVlaw dclaw pmlaw anlaw cdlaw ctlaw), AWord_init, (PySem.W.fnOf "__init__" "Word.__init__" (defArgs s_Word_init) (defBody s_Word_init) (defScope s_Word_init) .none kVWord_init dcWord_init pmWord_init anWord_init cdWord_init ctWord_init), CWord, PWord_least⟩ := ⟨fun_mk (st := s_is_marks) l_is_marks o_is_marks k_is_marks, (fun_mk (st := s_is_marks) l_is_marks o_is_marks k_is_marks).binds (ps := ["value"]) fun _ _ _ _ _ _ us hl => match us, hl with | [_], _ => rfl, PySem.W.mg_of X G a_is_marks, fun_mk (st := s_check_part) l_check_part o_check_part k_check_part, (fun_mk (st := s_check_part) l_check_part o_check_part k_check_part).binds (ps := ["marks"]) fun _ _ _ _ _ _ us hl => match us, hl with | [_], _ => rfl, PySem.W.mg_of X G a_check_part, fun_mk (st := s_draw) l_draw o_draw k_draw, (fun_mk (st := s_draw) l_draw o_draw k_draw).binds (ps := ["_law_pot_here", "_law_size"]) fun _ _ _ _ _ _ us hl => match us, hl with | [_, _], _ => rfl, PySem.W.mg_of X G a_draw, fun_mk (st := s_signs) l_signs o_signs k_signs, (fun_mk (st := s_signs) l_signs o_signs k_signs).binds (ps := ["_law_pot_here", "_law_few", "_law_many"]) fun _ _ _ _ _ _ us hl => match us, hl with | [_, _, _], _ => rfl, PySem.W.mg_of X G a_signs, fun_mk (st := s_parts) l_parts o_parts k_parts, (fun_mk (st := s_parts) l_parts o_parts k_parts).binds (ps := ["_law_pot_here"]) fun _ _ _ _ _ _ us hl => match us, hl with | [_], _ => rfl, PySem.W.mg_of X G a_parts, fun_mk (st := s_least) l_least o_least k_least, (fun_mk (st := s_least) l_least o_least k_least).binds (ps := ["_law_parts_here"]) fun _ _ _ _ _ _ us hl => match us, hl with | [_], _ => rfl, PySem.W.mg_of X G a_least, fun_mk (st := s_line) l_line o_line k_line, (fun_mk (st := s_line) l_line o_line k_line).binds (ps := ["_law_parts_here", "_law_size"]) fun _ _ _ _ _ _ us hl => match us, hl with | [_, _], _ => rfl, PySem.W.mg_of X G a_line, fun_mk (st := s_is_integer) l_is_integer o_is_integer k_is_integer, (fun_mk (st := s_is_integer) l_is_integer o_is_integer k_is_integer).binds (ps := ["value"]) fun _ _ _ _ _ _ us hl => match us, hl with | [_], _ => rfl, PySem.W.mg_of X G a_is_integer, fun_mk (st := s_Word_least) l_Word_least o_Word_least k_Word_least, (fun_mk (st := s_Word_least) l_Word_least o_Word_least k_Word_least).binds (ps := ["self"]) fun _ _ _ _ _ _ us hl => match us, hl with | [_], _ => rfl, ⟨pa_Word_least, pg_Word_least, pt_Word_least, ⟨_, pr_Word_least⟩⟩, fun_mk (st := s_check_places) l_check_places o_check_places k_check_places, (fun_mk (st := s_check_places) l_check_places o_check_places k_check_places).binds (ps := ["word", "places"]) fun _ _ _ _ _ _ us hl => match us, hl with | [_, _], _ => rfl, PySem.W.mg_of X G a_check_places, fun_mk (st := s_Word_mark) l_Word_mark o_Word_mark k_Word_mark, (fun_mk (st := s_Word_mark) l_Word_mark o_Word_mark k_Word_mark).binds (ps := ["self", "places", "place"]) fun _ _ _ _ _ _ us hl => match us, hl with | [_, _, _], _ => rfl, ⟨a_Word_mark, i_Word_mark, k_Word_mark⟩, fun_mk (st := s_homes_said) l_homes_said o_homes_said k_homes_said, (fun_mk (st := s_homes_said) l_homes_said o_homes_said k_homes_said).binds (ps := ["middle", "many"]) fun _ _ _ _ _ _ us hl => match us, hl with | [_, _], _ => rfl, PySem.W.mg_of X G a_homes_said, fun_mk (st := s_Word_homes) l_Word_homes o_Word_homes k_Word_homes, (fun_mk (st := s_Word_homes) l_Word_homes o_Word_homes k_Word_homes).binds (ps := ["self", "places", "place"]) fun _ _ _ _ _ _ us hl => match us, hl with | [_, _, _], _ => rfl, ⟨a_Word_homes, i_Word_homes, k_Word_homes⟩, fun_mk (st := s_small_right) l_small_right o_small_right k_small_right, (fun_mk (st := s_small_right) l_small_right o_small_right k_small_right).binds (ps := ["_law_made", "_law_parts_here"]) fun _ _ _ _ _ _ us hl => match us, hl with | [_, _], _ => rfl, PySem.W.mg_of X G a_small_right, fun_mk (st := s_pick) l_pick o_pick k_pick, (fun_mk (st := s_pick) l_pick o_pick k_pick).binds (ps := ["_law_pot_here", "_law_some"]) fun _ _ _ _ _ _ us hl => match us, hl with | [_, _], _ => rfl, PySem.W.mg_of X G a_pick, fun_mk (st := s_great) l_great o_great k_great, (fun_mk (st := s_great) l_great o_great k_great).binds (ps := ["_law_pot_here", "_law_least_here"]) fun _ _ _ _ _ _ us hl => match us, hl with | [_, _], _ => rfl, PySem.W.mg_of X G a_great, fun_mk (st := s_short) l_short o_short k_short, (fun_mk (st := s_short) l_short o_short k_short).binds (ps := ["_law_parts_here", "_law_size"]) fun _ _ _ _ _ _ us hl => match us, hl with | [_, _], _ => rfl, PySem.W.mg_of X G a_short, fun_mk (st := s_place_in) l_place_in o_place_in k_place_in, (fun_mk (st := s_place_in) l_place_in o_place_in k_place_in).binds (ps := ["_law_parts_here", "_law_size", "_law_short_here", "_law_at"]) fun _ _ _ _ _ _ us hl => match us, hl with | [_, _, _, _], _ => rfl, PySem.W.mg_of X G a_place_in, fun_mk (st := s_steps_right) l_steps_right o_steps_right k_steps_right, (fun_mk (st := s_steps_right) l_steps_right o_steps_right k_steps_right).binds (ps := ["_law_made", "_law_size", "_law_at"]) fun _ _ _ _ _ _ us hl => match us, hl with | [_, _, _], _ => rfl, PySem.W.mg_of X G a_steps_right, fun_mk (st := s_great_right) l_great_right o_great_right k_great_right, (fun_mk (st := s_great_right) l_great_right o_great_right k_great_right).binds (ps := ["_law_pot_here", "_law_made", "_law_parts_here", "_law_size"]) fun _ _ _ _ _ _ us hl => match us, hl with | [_, _, _, _], _ => rfl, PySem.W.mg_of X G a_great_right, fun_mk (st := s_rounds_right) l_rounds_right o_rounds_right k_rounds_right, (fun_mk (st := s_rounds_right) l_rounds_right o_rounds_right k_rounds_right).binds (ps := ["_law_pot_here", "_law_made", "_law_parts_here", "_law_size"]) fun _ _ _ _ _ _ us hl => match us, hl with | [_, _, _, _], _ => rfl, PySem.W.mg_of X G a_rounds_right, fun_mk (st := s_right) l_right o_right k_right, (fun_mk (st := s_right) l_right o_right k_right).binds (ps := ["_law_pot_here"]) fun _ _ _ _ _ _ us hl => match us, hl with | [_], _ => rfl, PySem.W.mg_of X G a_right, fun_mk (st := s_pot) l_pot o_pot k_pot, (fun_mk (st := s_pot) l_pot o_pot k_pot).binds (ps := ["_law_script", "_law_k"]) fun _ _ _ _ _ _ us hl => match us, hl with | [_, _], _ => rfl, PySem.W.mg_of X G a_pot, fun_mk (st := s_law) l_law o_law k_law, (fun_mk (st := s_law) l_law o_law k_law).binds (ps := ["_law_script"]) fun _ _ _ _ _ _ us hl => match us, hl with | [_], _ => rfl, PySem.W.mg_of X G a_law, fun_mk (st := s_Word_init) l_Word_init o_Word_init k_Word_init, (fun_mk (st := s_Word_init) l_Word_init o_Word_init k_Word_init).binds (ps := ["self", "head", "middle", "tail"]) fun _ _ _ _ _ _ us hl => match us, hl with | [_, _, _, _], _ => rfl, ⟨pg_Word, hd_Word, po_Word, sa_Word⟩, PySem.W.mg_of X G aC_Word, ⟨mk_Word, a_Word_init, i_Word_init, kc_Word⟩, na_Word__head, na_Word__middle, na_Word__tail, PySem.W.mg_none_of X G z_abs, PySem.W.mg_none_of X G z_all, PySem.W.mg_none_of X G z_bool, PySem.W.mg_none_of X G z_divmod, PySem.W.mg_none_of X G z_int, PySem.W.mg_none_of X G z_isinstance, PySem.W.mg_none_of X G z_len, PySem.W.mg_none_of X G z_max, PySem.W.mg_none_of X G z_min, PySem.W.mg_none_of X G z_range, PySem.W.mg_none_of X G z_str, ⟨_, PySem.W.mg_of X G c_MOST_MARKS, ⟨_, rfl⟩⟩, ⟨fun s us ws _ h1 h2 => match us, ws, h1, h2 with | [_], [_, _], _, _ => .of_eq rfl, fun r1 r2 => r1.append (.cons (vals_getD r2 1) (.cons (vals_getD r2 0) (.nil)))⟩, ⟨fun s us ws _ h1 h2 => match us, ws, h1, h2 with | [_], [_, _], _, _ => .of_eq rfl, fun r1 r2 => r1.append (.cons (vals_getD r2 1) (.cons (vals_getD r2 0) (.nil)))⟩⟩
  exact ⟨_, fun s v => .of_eq rfl, fun base _ _ => ok_law T⟩
end Lw
open PySem PySem.W PyProof.Rows in
set_option maxRecDepth 100000 in
set_option maxHeartbeats 0 in
theorem PySem.Challenge.cw_ringrows_k22_marks_and_homes_holds : PySem.Challenge.rw_ringrows_k22_marks_and_homes.Holds := by
  w_on; o_law; k_head; (case hw => w_witness2)
  k_fill
  refine L2.walk_of (l := PySem.Challenge.rw_ringrows_k22_marks_and_homes) (n := 63) (k := 8) (x := "_law_script") (CX := fun _ => L2.CX0) (sp := fun w => Lw.sp_law _) rfl (by decide) rfl ⟨rfl, by decide, by decide⟩ (fun w h Y => PySem.W.kIn_of Y) ?F (fun w H a ns hl hO hS => Lw.law_enter hl hO hS) (fun _ _ _ _ _ h => h)
  case F =>
    intro w mg fa h KX G hmg
    refine' Lw.all_mk KX G hmg ?a_is_marks ?l_is_marks ?o_is_marks ?k_is_marks ?a_check_part ?l_check_part ?o_check_part ?k_check_part ?a_draw ?l_draw ?o_draw ?k_draw ?a_signs ?l_signs ?o_signs ?k_signs ?a_parts ?l_parts ?o_parts ?k_parts ?a_least ?l_least ?o_least ?k_least ?a_line ?l_line ?o_line ?k_line ?a_is_integer ?l_is_integer ?o_is_integer ?k_is_integer ?pa_Word_least ?pg_Word_least ?pt_Word_least ?pr_Word_least ?l_Word_least ?o_Word_least ?k_Word_least ?a_check_places ?l_check_places ?o_check_places ?k_check_places ?a_Word_mark ?i_Word_mark ?l_Word_mark ?o_Word_mark ?k_Word_mark ?a_homes_said ?l_homes_said ?o_homes_said ?k_homes_said ?a_Word_homes ?i_Word_homes ?l_Word_homes ?o_Word_homes ?k_Word_homes ?a_small_right ?l_small_right ?o_small_right ?k_small_right ?a_pick ?l_pick ?o_pick ?k_pick ?a_great ?l_great ?o_great ?k_great ?a_short ?l_short ?o_short ?k_short ?a_place_in ?l_place_in ?o_place_in ?k_place_in ?a_steps_right ?l_steps_right ?o_steps_right ?k_steps_right ?a_great_right ?l_great_right ?o_great_right ?k_great_right ?a_rounds_right ?l_rounds_right ?o_rounds_right ?k_rounds_right ?a_right ?l_right ?o_right ?k_right ?a_pot ?l_pot ?o_pot ?k_pot ?a_law ?l_law ?o_law ?k_law ?a_Word_init ?i_Word_init ?l_Word_init ?o_Word_init ?k_Word_init ?aC_Word ?pg_Word ?hd_Word ?po_Word ?sa_Word ?mk_Word ?kc_Word ?na_Word__head ?na_Word__middle ?na_Word__tail ?z_abs ?z_all ?z_bool ?z_divmod ?z_int ?z_isinstance ?z_len ?z_max ?z_min ?z_range ?z_str ?c_MOST_MARKS
    (case aC_Word => k_is); (case a_is_marks => k_is); (case l_is_marks => k_is); (case o_is_marks => k_is); (case k_is_marks => k_is); (case a_check_part => k_is); (case l_check_part => k_is); (case o_check_part => k_is); (case k_check_part => k_is); (case a_draw => k_is); (case l_draw => k_is); (case o_draw => k_is); (case k_draw => k_is); (case a_signs => k_is); (case l_signs => k_is); (case o_signs => k_is); (case k_signs => k_is); (case a_parts => k_is); (case l_parts => k_is); (case o_parts => k_is); (case k_parts => k_is); (case a_least => k_is); (case l_least => k_is); (case o_least => k_is); (case k_least => k_is); (case a_line => k_is); (case l_line => k_is); (case o_line => k_is); (case k_line => k_is); (case a_is_integer => k_is); (case l_is_integer => k_is); (case o_is_integer => k_is); (case k_is_integer => k_is); (case pa_Word_least => k_is); (case pg_Word_least => k_is); (case pt_Word_least => k_is); (case pr_Word_least => k_is); (case l_Word_least => k_is); (case o_Word_least => k_is); (case k_Word_least => k_is); (case a_check_places => k_is); (case l_check_places => k_is); (case o_check_places => k_is); (case k_check_places => k_is); (case a_Word_mark => k_is); (case i_Word_mark => k_is); (case l_Word_mark => k_is); (case o_Word_mark => k_is); (case k_Word_mark => k_is); (case a_homes_said => k_is); (case l_homes_said => k_is); (case o_homes_said => k_is); (case k_homes_said => k_is); (case a_Word_homes => k_is); (case i_Word_homes => k_is); (case l_Word_homes => k_is); (case o_Word_homes => k_is); (case k_Word_homes => k_is); (case a_small_right => k_is); (case l_small_right => k_is); (case o_small_right => k_is); (case k_small_right => k_is); (case a_pick => k_is); (case l_pick => k_is); (case o_pick => k_is); (case k_pick => k_is); (case a_great => k_is); (case l_great => k_is); (case o_great => k_is); (case k_great => k_is); (case a_short => k_is); (case l_short => k_is); (case o_short => k_is); (case k_short => k_is); (case a_place_in => k_is); (case l_place_in => k_is); (case o_place_in => k_is); (case k_place_in => k_is); (case a_steps_right => k_is); (case l_steps_right => k_is); (case o_steps_right => k_is); (case k_steps_right => k_is); (case a_great_right => k_is); (case l_great_right => k_is); (case o_great_right => k_is); (case k_great_right => k_is); (case a_rounds_right => k_is); (case l_rounds_right => k_is); (case o_rounds_right => k_is); (case k_rounds_right => k_is); (case a_right => k_is); (case l_right => k_is); (case o_right => k_is); (case k_right => k_is); (case a_pot => k_is); (case l_pot => k_is); (case o_pot => k_is); (case k_pot => k_is); (case a_law => k_is); (case l_law => k_is); (case o_law => k_is); (case k_law => k_is); (case a_Word_init => k_is); (case i_Word_init => k_is); (case l_Word_init => k_is); (case o_Word_init => k_is); (case k_Word_init => k_is); (case pg_Word => k_is); (case hd_Word => k_is); (case po_Word => k_is); (case sa_Word => k_is); (case mk_Word => k_is); (case kc_Word => k_is); (case na_Word__head => k_is); (case na_Word__middle => k_is); (case na_Word__tail => k_is); (case z_abs => k_is); (case z_all => k_is); (case z_bool => k_is); (case z_divmod => k_is); (case z_int => k_is); (case z_isinstance => k_is); (case z_len => k_is); (case z_max => k_is); (case z_min => k_is); (case z_range => k_is); (case z_str => k_is); (case c_MOST_MARKS => k_is)
