import PyProof.Rows.All
import Wide.All
import OpenK.AllK
import Wide.FinOn
import HandS.ForMost
import HandS.Exc
import HandS.WordsExc
import HandS.TupAny
import HandS.Flow
import HandS.Wide
import HandS.IsInst
import HandS.CallSlots
import HandS.Deep
import HandS.Style
import HandS.RaiseMore
import PySem.Challenge.RW_bondfloors_k01_names_and_sizes
set_option Elab.async false
set_option linter.all false
set_option maxRecDepth 100000
/-! The third layer: values as data, a store of one's own, a meaning for each construct as a function; each is sound over the hand layer. -/
namespace L3
open PySem PySem.Spec PyProof.Rows L2

inductive D where
  | non | bl (b : Bool) | int (i : Int) | str (x : Str)
  | tup (xs : List D) | frz (xs : List D) | loc (n : Nat)

inductive O where
  | lst (xs : List D)
  | dK (kvs : List (Key × D))
  | dT (kvs : List (List Key × D))
  | ins (c : Str) (fs : List (Str × D))

abbrev Sto := List O
structure XN where
  cls : Str
  fs : List (Str × D)

inductive R (α : Type) where
  | ok (a : α) (st : Sto) | exn (x : XN) (st : Sto) | bad

def R.bind {α β : Type} (m : R α) (f : α → Sto → R β) : R β := match m with
  | .ok a st => f a st
  | .exn x st => .exn x st
  | .bad => .bad
@[simp] theorem R.bind_ok {α β : Type} (a : α) (st : Sto) (f : α → Sto → R β) : (R.ok a st).bind f = f a st := rfl
@[simp] theorem R.bind_exn {α β : Type} (x : XN) (st : Sto) (f : α → Sto → R β) : (R.exn x st : R α).bind f = .exn x st := rfl
@[simp] theorem R.bind_bad {α β : Type} (f : α → Sto → R β) : (R.bad : R α).bind f = .bad := rfl

/-! ### the relation to the hand layer's heap -/
/-- a list that never changes -/
def FzL (K : PySem.W.Frag) (H : Hp) (a : Addr) (xs : List V) : Prop :=
  (∃ o, H a = some (.frz o (.lst xs))) ∨
    ∃ (o : Obj) (its : Array Value) (n : Nat), K.lookup a = some o ∧ o.cls = .type "list" ∧ o.dict = none ∧ o.data = .seq its n ∧ its.size ≤ sizeLine ∧ Vals xs its.toList
theorem FzL.sq {K : PySem.W.Frag} {H : Hp} {a : Addr} {xs : List V} (h : FzL K H a xs) : SqL K H a xs := by
  rcases h with h | h
  · exact .inl (.inr h)
  · exact .inr h

mutual
def VR (K : PySem.W.Frag) (β : List Addr) (H : Hp) : D → V → Prop
  | .non, v => v = .non
  | .bl b, v => v = .bl b
  | .int i, v => v = .int i
  | .str x, v => v = .str x
  | .tup xs, v => ∃ a vs, v = .ref a ∧ SqT K H a vs ∧ VRs K β H xs vs
  | .frz xs, v => ∃ a vs, v = .ref a ∧ FzL K H a vs ∧ VRs K β H xs vs
  | .loc n, v => ∃ a, β[n]? = some a ∧ v = .ref a
def VRs (K : PySem.W.Frag) (β : List Addr) (H : Hp) : List D → List V → Prop
  | [], vs => vs = []
  | d :: ds, vs => ∃ v r, vs = v :: r ∧ VR K β H d v ∧ VRs K β H ds r
end

/-- what stays -/
structure Ext0 (β : List Addr) (H : Hp) (β' : List Addr) (H' : Hp) : Prop where
  pre : ∃ t, β' = β ++ t
  tups : ∀ a xs, H a = some (.tup xs) → H' a = some (.tup xs)
  frzs : ∀ a o u, H a = some (.frz o u) → H' a = some (.frz o u)
structure Ext (β : List Addr) (H : Hp) (β' : List Addr) (H' : Hp) : Prop extends Ext0 β H β' H' where
  keep : ∀ a u, H a = some u → a ∉ β → H' a = some u
  new : ∀ a, a ∈ β' → a ∈ β ∨ H a = none
theorem Ext.refl (β : List Addr) (H : Hp) : Ext β H β H := ⟨⟨⟨[], by simp⟩, fun _ _ h => h, fun _ _ _ h => h⟩, fun _ _ h _ => h, fun _ h => .inl h⟩
theorem Ext.trans {β β1 β2 : List Addr} {H H1 H2 : Hp} (a : Ext β H β1 H1) (b : Ext β1 H1 β2 H2) : Ext β H β2 H2 := by
  obtain ⟨t, et⟩ := a.pre
  obtain ⟨u, eu⟩ := b.pre
  refine ⟨⟨⟨t ++ u, by rw [eu, et]; simp⟩, fun c xs h => b.tups c xs (a.tups c xs h), fun c o u h => b.frzs c o u (a.frzs c o u h)⟩, fun c w h hn => b.keep c w (a.keep c w h hn) fun z => ?_, fun c h => ?_⟩
  · rcases a.new c z with z | z
    · exact hn z
    · rw [h] at z; cases z
  · rcases b.new c h with z | z
    · exact a.new c z
    · cases q : H c with
      | none => exact .inr rfl
      | some w =>
        by_cases hc : c ∈ β
        · exact .inl hc
        · have := a.keep c w q hc
          rw [z] at this; cases this
theorem Ext0.get {β β' : List Addr} {H H' : Hp} (e : Ext0 β H β' H') {n : Nat} {a : Addr} (h : β[n]? = some a) : β'[n]? = some a := by
  obtain ⟨t, rfl⟩ := e.pre
  have hl : n < β.length := (List.getElem?_eq_some_iff.mp h).1
  rw [List.getElem?_append_left hl]; exact h
theorem Ext0.sqT {K : PySem.W.Frag} {β β' : List Addr} {H H' : Hp} (e : Ext0 β H β' H') {a : Addr} {xs : List V} (h : SqT K H a xs) : SqT K H' a xs := by
  rcases h with (h | ⟨o, h⟩) | h
  · exact .inl (.inl (e.tups _ _ h))
  · exact .inl (.inr ⟨o, e.frzs _ _ _ h⟩)
  · exact .inr h
theorem Ext0.fzL {K : PySem.W.Frag} {β β' : List Addr} {H H' : Hp} (e : Ext0 β H β' H') {a : Addr} {xs : List V} (h : FzL K H a xs) : FzL K H' a xs := by
  rcases h with ⟨o, h⟩ | h
  · exact .inl ⟨o, e.frzs _ _ _ h⟩
  · exact .inr h
mutual
theorem VR.mono0 {K : PySem.W.Frag} {β β' : List Addr} {H H' : Hp} (e : Ext0 β H β' H') : ∀ (d : D) (v : V), VR K β H d v → VR K β' H' d v
  | .non, _, h => by unfold VR at h ⊢; exact h
  | .bl b, _, h => by unfold VR at h ⊢; exact h
  | .int i, _, h => by unfold VR at h ⊢; exact h
  | .str x, _, h => by unfold VR at h ⊢; exact h
  | .tup xs, v, h => by
    unfold VR at h ⊢
    obtain ⟨a, vs, e1, h1, h2⟩ := h
    exact ⟨a, vs, e1, e.sqT h1, VRs.mono0 e xs vs h2⟩
  | .frz xs, v, h => by
    unfold VR at h ⊢
    obtain ⟨a, vs, e1, h1, h2⟩ := h
    exact ⟨a, vs, e1, e.fzL h1, VRs.mono0 e xs vs h2⟩
  | .loc n, v, h => by
    unfold VR at h ⊢
    obtain ⟨a, h1, h2⟩ := h
    exact ⟨a, e.get h1, h2⟩
theorem VRs.mono0 {K : PySem.W.Frag} {β β' : List Addr} {H H' : Hp} (e : Ext0 β H β' H') : ∀ (ds : List D) (vs : List V), VRs K β H ds vs → VRs K β' H' ds vs
  | [], _, h => by unfold VRs at h ⊢; exact h
  | d :: ds, vs, h => by
    unfold VRs at h ⊢
    obtain ⟨v, r, e1, h1, h2⟩ := h
    exact ⟨v, r, e1, VR.mono0 e d v h1, VRs.mono0 e ds r h2⟩
end
theorem VR.mono {K : PySem.W.Frag} {β β' : List Addr} {H H' : Hp} (e : Ext β H β' H') (d : D) (v : V) (h : VR K β H d v) : VR K β' H' d v := VR.mono0 e.toExt0 d v h
theorem VRs.mono {K : PySem.W.Frag} {β β' : List Addr} {H H' : Hp} (e : Ext β H β' H') (ds : List D) (vs : List V) (h : VRs K β H ds vs) : VRs K β' H' ds vs := VRs.mono0 e.toExt0 ds vs h
section
variable {K : PySem.W.Frag} {β : List Addr} {H : Hp}
theorem VR.non {v} : VR K β H .non v ↔ v = .non := by unfold VR; exact Iff.rfl
theorem VR.bl {b v} : VR K β H (.bl b) v ↔ v = .bl b := by unfold VR; exact Iff.rfl
theorem VR.int {i v} : VR K β H (.int i) v ↔ v = .int i := by unfold VR; exact Iff.rfl
theorem VR.str {x v} : VR K β H (.str x) v ↔ v = .str x := by unfold VR; exact Iff.rfl
theorem VR.tup {xs v} : VR K β H (.tup xs) v ↔ ∃ a vs, v = .ref a ∧ SqT K H a vs ∧ VRs K β H xs vs := by conv => lhs; unfold VR
theorem VR.frz {xs v} : VR K β H (.frz xs) v ↔ ∃ a vs, v = .ref a ∧ FzL K H a vs ∧ VRs K β H xs vs := by conv => lhs; unfold VR
theorem VR.loc {n v} : VR K β H (.loc n) v ↔ ∃ a, β[n]? = some a ∧ v = .ref a := by conv => lhs; unfold VR
theorem VRs.nil {vs} : VRs K β H [] vs ↔ vs = [] := by unfold VRs; exact Iff.rfl
theorem VRs.cons {d ds vs} : VRs K β H (d :: ds) vs ↔ ∃ v r, vs = v :: r ∧ VR K β H d v ∧ VRs K β H ds r := by conv => lhs; unfold VRs
theorem VRs.length : ∀ {ds : List D} {vs : List V}, VRs K β H ds vs → vs.length = ds.length
  | [], vs, h => by rw [VRs.nil.mp h]; rfl
  | d :: ds, vs, h => by
    obtain ⟨v, r, rfl, _, h2⟩ := VRs.cons.mp h
    simp [VRs.length h2]
theorem VRs.get : ∀ {ds : List D} {vs : List V} {i : Nat} {v : V}, VRs K β H ds vs → vs[i]? = some v → ∃ d, ds[i]? = some d ∧ VR K β H d v
  | [], vs, i, v, h, e => by rw [VRs.nil.mp h] at e; simp at e
  | d :: ds, vs, i, v, h, e => by
    obtain ⟨w, r, rfl, h1, h2⟩ := VRs.cons.mp h
    cases i with
    | zero => simp at e; subst e; exact ⟨d, rfl, h1⟩
    | succ i => simpa using VRs.get (i := i) h2 (by simpa using e)
theorem VRs.getD : ∀ {ds : List D} {vs : List V} {i : Nat} {d : D}, VRs K β H ds vs → ds[i]? = some d → ∃ v, vs[i]? = some v ∧ VR K β H d v
  | [], vs, i, d, h, e => by simp at e
  | d' :: ds, vs, i, d, h, e => by
    obtain ⟨w, r, rfl, h1, h2⟩ := VRs.cons.mp h
    cases i with
    | zero => simp at e; subst e; exact ⟨w, rfl, h1⟩
    | succ i => simpa using VRs.getD (i := i) h2 (by simpa using e)
theorem VRs.append : ∀ {ds es : List D} {vs us : List V}, VRs K β H ds vs → VRs K β H es us → VRs K β H (ds ++ es) (vs ++ us)
  | [], es, vs, us, h, g => by rw [VRs.nil.mp h]; exact g
  | d :: ds, es, vs, us, h, g => by
    obtain ⟨w, r, rfl, h1, h2⟩ := VRs.cons.mp h
    exact VRs.cons.mpr ⟨w, r ++ us, rfl, h1, VRs.append h2 g⟩
theorem VRs.take : ∀ {ds : List D} {vs : List V} (n : Nat), VRs K β H ds vs → VRs K β H (ds.take n) (vs.take n)
  | ds, vs, 0, h => VRs.nil.mpr (by simp)
  | [], vs, n + 1, h => by rw [VRs.nil.mp h]; exact VRs.nil.mpr (by simp)
  | d :: ds, vs, n + 1, h => by
    obtain ⟨w, r, rfl, h1, h2⟩ := VRs.cons.mp h
    exact VRs.cons.mpr ⟨w, r.take n, by simp, h1, VRs.take n h2⟩
theorem VRs.drop : ∀ {ds : List D} {vs : List V} (n : Nat), VRs K β H ds vs → VRs K β H (ds.drop n) (vs.drop n)
  | ds, vs, 0, h => by simpa using h
  | [], vs, n + 1, h => by rw [VRs.nil.mp h]; exact VRs.nil.mpr (by simp)
  | d :: ds, vs, n + 1, h => by
    obtain ⟨w, r, rfl, h1, h2⟩ := VRs.cons.mp h
    simpa using VRs.drop n h2
theorem VRs.set : ∀ {ds : List D} {vs : List V} {d : D} {v : V} (i : Nat), VRs K β H ds vs → VR K β H d v → VRs K β H (ds.set i d) (vs.set i v)
  | [], vs, d, v, i, h, g => by rw [VRs.nil.mp h]; exact VRs.nil.mpr (by simp)
  | e :: ds, vs, d, v, i, h, g => by
    obtain ⟨w, r, rfl, h1, h2⟩ := VRs.cons.mp h
    cases i with
    | zero => exact VRs.cons.mpr ⟨v, r, rfl, g, h2⟩
    | succ i => exact VRs.cons.mpr ⟨w, r.set i v, rfl, h1, VRs.set i h2 g⟩
theorem VRs.reverse {ds : List D} {vs : List V} (h : VRs K β H ds vs) : VRs K β H ds.reverse vs.reverse := by
  induction ds generalizing vs with
  | nil => rw [VRs.nil.mp h]; exact VRs.nil.mpr (by simp)
  | cons d ds ih =>
    obtain ⟨w, r, rfl, h1, h2⟩ := VRs.cons.mp h
    rw [List.reverse_cons, List.reverse_cons]
    exact VRs.append (ih h2) (VRs.cons.mpr ⟨w, [], rfl, h1, VRs.nil.mpr rfl⟩)
theorem VRs.eraseIdx : ∀ {ds : List D} {vs : List V} (i : Nat), VRs K β H ds vs → VRs K β H (ds.eraseIdx i) (vs.eraseIdx i)
  | [], vs, i, h => by rw [VRs.nil.mp h]; exact VRs.nil.mpr (by simp)
  | e :: ds, vs, i, h => by
    obtain ⟨w, r, rfl, h1, h2⟩ := VRs.cons.mp h
    cases i with
    | zero => simpa using h2
    | succ i => exact VRs.cons.mpr ⟨w, r.eraseIdx i, rfl, h1, VRs.eraseIdx i h2⟩
end

/-- attributes -/
def FR (K : PySem.W.Frag) (β : List Addr) (H : Hp) : List (Str × D) → List (Str × V) → Prop := Paired fun p q => p.1 = q.1 ∧ VR K β H p.2 q.2
def KR {κ : Type} (K : PySem.W.Frag) (β : List Addr) (H : Hp) : List (κ × D) → List (κ × V) → Prop := Paired fun p q => p.1 = q.1 ∧ VR K β H p.2 q.2
theorem KR.mono0 {κ : Type} {K : PySem.W.Frag} {β β' : List Addr} {H H' : Hp} (e : Ext0 β H β' H') {l : List (κ × D)} {r : List (κ × V)} (h : KR K β H l r) : KR K β' H' l r :=
  Paired.mapP h fun p q z => ⟨z.1, VR.mono0 e _ _ z.2⟩

def OR (K : PySem.W.Frag) (mg : Str → Option Value) (β : List Addr) (H : Hp) : O → Addr → Prop
  | .lst xs, a => ∃ vs, H a = some (.lst vs) ∧ VRs K β H xs vs
  | .dK kvs, a => ∃ ks, H a = some (.dK ks) ∧ KR K β H kvs ks
  | .dT kvs, a => ∃ ks, H a = some (.dT ks) ∧ KR K β H kvs ks
  | .ins c fs, a => ∃ C dx gs, mg c = some (.ref C) ∧ H a = some (.ins C dx gs) ∧ FR K β H fs gs
theorem OR.mono0 {K : PySem.W.Frag} {mg : Str → Option Value} {β β' : List Addr} {H H' : Hp} (e : Ext0 β H β' H') {a : Addr} (ha : H' a = H a) : ∀ {o : O}, OR K mg β H o a → OR K mg β' H' o a
  | .lst xs, ⟨vs, h1, h2⟩ => ⟨vs, ha.trans h1, VRs.mono0 e _ _ h2⟩
  | .dK _, ⟨vs, h1, h2⟩ => ⟨vs, ha.trans h1, h2.mono0 e⟩
  | .dT _, ⟨vs, h1, h2⟩ => ⟨vs, ha.trans h1, h2.mono0 e⟩
  | .ins _ _, ⟨C, dx, gs, h0, h1, h2⟩ => ⟨C, dx, gs, h0, ha.trans h1, KR.mono0 e h2⟩
theorem OR.mono {K : PySem.W.Frag} {mg : Str → Option Value} {β β' : List Addr} {H H' : Hp} (e : Ext β H β' H') {a : Addr} (ha : H' a = H a) {o : O} (h : OR K mg β H o a) : OR K mg β' H' o a := h.mono0 e.toExt0 ha
theorem OR.some {K : PySem.W.Frag} {mg : Str → Option Value} {β : List Addr} {H : Hp} {a : Addr} : ∀ {o : O}, OR K mg β H o a → ∃ u, H a = some u ∧ (∀ xs, u ≠ .tup xs) ∧ (∀ ob w, u ≠ .frz ob w)
  | .lst _, ⟨_, h1, _⟩ => ⟨_, h1, fun _ z => (by cases z), fun _ _ z => (by cases z)⟩
  | .dK _, ⟨_, h1, _⟩ => ⟨_, h1, fun _ z => (by cases z), fun _ _ z => (by cases z)⟩
  | .dT _, ⟨_, h1, _⟩ => ⟨_, h1, fun _ z => (by cases z), fun _ _ z => (by cases z)⟩
  | .ins _ _, ⟨_, _, _, _, h1, _⟩ => ⟨_, h1, fun _ z => (by cases z), fun _ _ z => (by cases z)⟩

structure Sim (K : PySem.W.Frag) (mg : Str → Option Value) (β : List Addr) (st : Sto) (H : Hp) : Prop where
  len : β.length = st.length
  inj : ∀ (m n : Nat) (a : Addr), β[m]? = some a → β[n]? = some a → m = n
  ob : ∀ (n : Nat) (o : O) (a : Addr), st[n]? = some o → β[n]? = some a → OR K mg β H o a
section
variable {K : PySem.W.Frag} {mg : Str → Option Value} {β : List Addr} {st : Sto} {H : Hp}
theorem Sim.at (S : Sim K mg β st H) {n : Nat} {a : Addr} (h : β[n]? = some a) : ∃ o, st[n]? = some o ∧ OR K mg β H o a := by
  have hl : n < β.length := (List.getElem?_eq_some_iff.mp h).1
  rw [S.len] at hl
  exact ⟨st[n], List.getElem?_eq_getElem hl, S.ob n _ a (List.getElem?_eq_getElem hl) h⟩
theorem Sim.used (S : Sim K mg β st H) {n : Nat} {a : Addr} (h : β[n]? = some a) : ∃ u, H a = some u := by
  obtain ⟨o, _, r⟩ := S.at h
  obtain ⟨u, e, _⟩ := r.some
  exact ⟨u, e⟩
theorem Sim.fresh (S : Sim K mg β st H) {p : Addr} (hp : H p = none) {n : Nat} (h : β[n]? = some p) : False := by
  obtain ⟨u, e⟩ := S.used h
  rw [hp] at e; cases e
theorem ext_new {p : Addr} {o : HO} (hp : H p = none) : Ext β H (β ++ [p]) (upd H p o) :=
  ⟨⟨⟨[p], rfl⟩, fun a xs h => by rw [upd_ne (ne_of_none h hp)]; exact h, fun a ob u h => by rw [upd_ne (ne_of_none h hp)]; exact h⟩, fun a u h _ => by rw [upd_ne (ne_of_none h hp)]; exact h, fun a h => by
    rcases List.mem_append.mp h with h | h
    · exact .inl h
    · have e : a = p := by simpa using h
      subst e
      exact .inr hp⟩
/-- a new object, not of the store (a tuple) -/
theorem ext_new0 {p : Addr} {o : HO} (hp : H p = none) : Ext β H β (upd H p o) :=
  ⟨⟨⟨[], by simp⟩, fun a xs h => by rw [upd_ne (ne_of_none h hp)]; exact h, fun a ob u h => by rw [upd_ne (ne_of_none h hp)]; exact h⟩, fun a u h _ => by rw [upd_ne (ne_of_none h hp)]; exact h, fun a h => .inl h⟩
theorem Sim.new0 (S : Sim K mg β st H) {p : Addr} {o : HO} (hp : H p = none) : Sim K mg β st (upd H p o) :=
  ⟨S.len, S.inj, fun n ob a h1 h2 => (S.ob n ob a h1 h2).mono (ext_new0 hp) (upd_ne (by obtain ⟨u, e⟩ := S.used h2; exact ne_of_none e hp))⟩
/-- a new object of the store -/
theorem Sim.push (S : Sim K mg β st H) {p : Addr} {o : HO} {ob : O} (hp : H p = none) (h : OR K mg (β ++ [p]) (upd H p o) ob p) : Sim K mg (β ++ [p]) (st ++ [ob]) (upd H p o) := by
  refine ⟨by simp [S.len], fun m n a h1 h2 => ?_, fun n q a h1 h2 => ?_⟩
  · have lm : m < β.length + 1 := by simpa using (List.getElem?_eq_some_iff.mp h1).1
    have ln : n < β.length + 1 := by simpa using (List.getElem?_eq_some_iff.mp h2).1
    by_cases hm : m < β.length
    · rw [List.getElem?_append_left hm] at h1
      by_cases hn : n < β.length
      · rw [List.getElem?_append_left hn] at h2
        exact S.inj m n a h1 h2
      · have e : n = β.length := by omega
        subst e
        simp at h2
        subst h2
        exact (S.fresh hp h1).elim
    · have e : m = β.length := by omega
      subst e
      simp at h1
      subst h1
      by_cases hn : n < β.length
      · rw [List.getElem?_append_left hn] at h2
        exact (S.fresh hp h2).elim
      · omega
  · have ln : n < β.length + 1 := by simpa using (List.getElem?_eq_some_iff.mp h2).1
    by_cases hn : n < β.length
    · rw [List.getElem?_append_left hn] at h2
      rw [List.getElem?_append_left (by rw [← S.len]; exact hn)] at h1
      obtain ⟨u, e⟩ := S.used h2
      exact (S.ob n q a h1 h2).mono (ext_new hp) (upd_ne (ne_of_none e hp))
    · have e : n = β.length := by omega
      subst e
      simp at h2
      subst h2
      rw [S.len] at h1
      simp at h1
      subst h1
      exact h
/-- an object of the store is changed -/
theorem Sim.ext (S : Sim K mg β st H) {n : Nat} {a : Addr} {o : HO} (h : β[n]? = some a) : Ext β H β (upd H a o) := by
  obtain ⟨ob, _, r⟩ := S.at h
  obtain ⟨u, e, h1, h2⟩ := r.some
  refine ⟨⟨⟨[], by simp⟩, fun b xs q => ?_, fun b ob' w q => ?_⟩, fun b w q hn => ?_, fun b h => .inl h⟩
  · rw [upd_ne (fun z => by subst z; rw [e] at q; exact h1 xs (Option.some.inj q))]; exact q
  · rw [upd_ne (fun z => by subst z; rw [e] at q; exact h2 _ _ (Option.some.inj q))]; exact q
  · rw [upd_ne (fun z => by subst z; exact hn (List.mem_of_getElem? h))]; exact q
theorem Sim.set (S : Sim K mg β st H) {n : Nat} {a : Addr} {o : HO} {ob : O} (h : β[n]? = some a) (hr : OR K mg β (upd H a o) ob a) : Sim K mg β (st.set n ob) (upd H a o) := by
  refine ⟨by simp [S.len], S.inj, fun m q b h1 h2 => ?_⟩
  by_cases hm : m = n
  · subst hm
    rw [h] at h2; cases h2
    have hl : m < st.length := by rw [← S.len]; exact (List.getElem?_eq_some_iff.mp h).1
    rw [List.getElem?_set_self hl] at h1
    cases h1
    exact hr
  · rw [List.getElem?_set_ne (Ne.symm hm)] at h1
    have hb : b ≠ a := fun z => by subst z; exact hm (S.inj _ _ _ h2 h)
    exact (S.ob m q b h1 h2).mono (S.ext h) (upd_ne hb)
end

/-! ### the frame's values -/
abbrev Env3 := List (Option D)
def ER (K : PySem.W.Frag) (β : List Addr) (H : Hp) (ρ : Env3) (σ : L2.St) : Prop := ρ.length = σ.length ∧ ∀ (i : Nat) (d : D), ρ[i]? = some (some d) → ∃ v, σ[i]? = some (some v) ∧ VR K β H d v
theorem ER.mono {K : PySem.W.Frag} {β β' : List Addr} {H H' : Hp} {ρ : Env3} {σ : L2.St} (e : Ext β H β' H') (h : ER K β H ρ σ) : ER K β' H' ρ σ :=
  ⟨h.1, fun i d q => let ⟨v, h1, h2⟩ := h.2 i d q; ⟨v, h1, VR.mono e _ _ h2⟩⟩
theorem ER.set {K : PySem.W.Frag} {β : List Addr} {H : Hp} {ρ : Env3} {σ : L2.St} {d : D} {v : V} (h : ER K β H ρ σ) (i : Nat) (r : VR K β H d v) : ER K β H (ρ.set i (some d)) (σ.set i (some v)) := by
  refine ⟨by simp [h.1], fun j e q => ?_⟩
  by_cases hj : j = i
  · subst hj
    have hl : j < ρ.length := by have := (List.getElem?_eq_some_iff.mp q).1; simpa using this
    rw [List.getElem?_set_self hl] at q
    cases q
    exact ⟨v, by rw [List.getElem?_set_self (by rw [← h.1]; exact hl)], r⟩
  · rw [List.getElem?_set_ne (Ne.symm hj)] at q
    rw [List.getElem?_set_ne (Ne.symm hj)]
    exact h.2 j e q
theorem ER.clear {K : PySem.W.Frag} {β : List Addr} {H : Hp} {ρ : Env3} {σ : L2.St} (h : ER K β H ρ σ) (i : Nat) (o : Option V) : ER K β H (ρ.set i none) (σ.set i o) := by
  refine ⟨by simp [h.1], fun j e q => ?_⟩
  by_cases hj : j = i
  · subst hj
    have hl : j < ρ.length := by have := (List.getElem?_eq_some_iff.mp q).1; simpa using this
    rw [List.getElem?_set_self hl] at q
    cases q
  · rw [List.getElem?_set_ne (Ne.symm hj)] at q
    rw [List.getElem?_set_ne (Ne.symm hj)]
    exact h.2 j e q

/-! ### what is wanted of a meaning -/
/-- an exception and its likeness -/
def XR (K : PySem.W.Frag) (mg : Str → Option Value) (β : List Addr) (H : Hp) (x : XN) (c : Value) (dd : Option Addr) : Prop :=
  mg x.cls = some c ∧ match dd with
    | none => x.fs = []
    | some d => ∃ gs, H d = some (.xd gs) ∧ FR K β H x.fs gs
def PostA {α : Type} (K : PySem.W.Frag) (mg : Str → Option Value) (W : WX) (σ : L2.St) (ok : α → List Addr → Hp → Prop) (β : List Addr) (H : Hp) : R α → Prop
  | .ok a st' => ∀ β' H', Ext β H β' H' → Sim K mg β' st' H' → ok a β' H'
  | .exn x st' => ∀ β' H' c dd, Ext β H β' H' → Sim K mg β' st' H' → XR K mg β' H' x c dd → W c dd σ H'
  | .bad => False
theorem PostA.mono {α : Type} {K : PySem.W.Frag} {mg : Str → Option Value} {W : WX} {σ : L2.St} {ok : α → List Addr → Hp → Prop} {β β1 : List Addr} {H H1 : Hp} (e : Ext β H β1 H1) : ∀ {r : R α}, PostA K mg W σ ok β H r → PostA K mg W σ ok β1 H1 r
  | .ok _ _, h => fun β' H' e' S => h β' H' (e.trans e') S
  | .exn _ _, h => fun β' H' c dd e' S => h β' H' c dd (e.trans e') S
  | .bad, h => h
theorem PostA.imp {α : Type} {K : PySem.W.Frag} {mg : Str → Option Value} {W : WX} {σ : L2.St} {ok ok' : α → List Addr → Hp → Prop} {β : List Addr} {H : Hp} (f : ∀ a β' H', ok a β' H' → ok' a β' H') : ∀ {r : R α}, PostA K mg W σ ok β H r → PostA K mg W σ ok' β H r
  | .ok _ _, h => fun β' H' e' S => f _ _ _ (h β' H' e' S)
  | .exn _ _, h => h
  | .bad, h => h
/-- one after another -/
theorem PostA.bind {α γ : Type} {K : PySem.W.Frag} {mg : Str → Option Value} {W : WX} {σ : L2.St} {ok : γ → List Addr → Hp → Prop} {β : List Addr} {H : Hp} {m : R α} {f : α → Sto → R γ} (h : PostA K mg W σ ok β H (m.bind f)) :
    PostA K mg W σ (fun a β' H' => ∃ st', Sim K mg β' st' H' ∧ PostA K mg W σ ok β' H' (f a st')) β H m := by
  cases m with
  | ok a st' => exact fun β' H' e S => ⟨st', S, PostA.mono e h⟩
  | exn x st' => exact h
  | bad => exact h
abbrev okE (K : PySem.W.Frag) (Q : VK) : D → List Addr → Hp → Prop := fun d β' H' => ∀ v, VR K β' H' d v → Q v H'
abbrev okA (K : PySem.W.Frag) (Q : List V → Hp → Prop) : List D → List Addr → Hp → Prop := fun ds β' H' => ∀ vs, VRs K β' H' ds vs → Q vs H'
abbrev okT (Q : Bool → Hp → Prop) : Bool → List Addr → Hp → Prop := fun b _ H' => Q b H'

abbrev KE := Env3 → Sto → R D
abbrev KA := Env3 → Sto → R (List D)
abbrev KT := Env3 → Sto → R Bool
def lift (K : PySem.W.Frag) (mg : Str → Option Value) (W : WX) (k : KE) : TE := fun σ H Q => ∃ β ρ st, Sim K mg β st H ∧ ER K β H ρ σ ∧ PostA K mg W σ (okE K Q) β H (k ρ st)
def liftA (K : PySem.W.Frag) (mg : Str → Option Value) (W : WX) (k : KA) : TA := fun σ H Q => ∃ β ρ st, Sim K mg β st H ∧ ER K β H ρ σ ∧ PostA K mg W σ (okA K Q) β H (k ρ st)
def liftT (K : PySem.W.Frag) (mg : Str → Option Value) (W : WX) (k : KT) : TT := fun σ H Q => ∃ β ρ st, Sim K mg β st H ∧ ER K β H ρ σ ∧ PostA K mg W σ (okT Q) β H (k ρ st)

theorem PE.imp {X : Cx} {e : Expr} {t t' : TE} (h : PE X e t) (i : ∀ σ H Q, t' σ H Q → t σ H Q) : PE X e t' := ⟨fun pins s σ H Q I q => h.run pins s σ H Q I (i σ H Q q)⟩
theorem PT.imp {X : Cx} {e : Expr} {t t' : TT} (h : PT X e t) (i : ∀ σ H Q, t' σ H Q → t σ H Q) : PT X e t' := ⟨fun pins s σ H Q I q => h.run pins s σ H Q I (i σ H Q q)⟩
theorem PW.imp {X : Cx} {e : Expr} {t t' : TT} (h : PW X e t) (i : ∀ σ H Q, t' σ H Q → t σ H Q) : PW X e t' := ⟨fun wh pins s σ H Q I q => h.run wh pins s σ H Q I (i σ H Q q)⟩
theorem PA.imp {X : Cx} {es : List Expr} {t t' : TA} (h : PA X es t) (i : ∀ σ H Q, t' σ H Q → t σ H Q) : PA X es t' := ⟨fun pos pins s σ H Q I q => h.run pos pins s σ H Q I (i σ H Q q)⟩
theorem PS.imp {X : Cx} {e : Stmt} {t t' : TS} (h : PS X e t) (i : ∀ D σ H, t' D σ H → t D σ H) : PS X e t' := ⟨fun pins s σ H D I q => h.run pins s σ H D I (i D σ H q)⟩
theorem PSs.imp {X : Cx} {e : List Stmt} {t t' : TS} (h : PSs X e t) (i : ∀ D σ H, t' D σ H → t D σ H) : PSs X e t' := ⟨fun pins s σ H D I q => h.run pins s σ H D I (i D σ H q)⟩

/-- a meaning's step: from (a and then f) to a's own wish -/
theorem lift.bind {α : Type} {X : Cx} {W : WX} {σ : L2.St} {ok : α → List Addr → Hp → Prop} {β : List Addr} {H : Hp} {ρ : Env3} {st : Sto} {k : KE} {f : D → Sto → R α} {Q : VK} (S : Sim X.K X.mg β st H) (E : ER X.K β H ρ σ)
    (h : PostA X.K X.mg W σ ok β H ((k ρ st).bind f))
    (hq : ∀ d v β' H' st', Ext β H β' H' → Sim X.K X.mg β' st' H' → ER X.K β' H' ρ σ → VR X.K β' H' d v → PostA X.K X.mg W σ ok β' H' (f d st') → Q v H') : lift X.K X.mg W k σ H Q := by
  refine ⟨β, ρ, st, S, E, ?_⟩
  cases hm : k ρ st with
  | ok a st' =>
    rw [hm] at h
    exact fun β' H' e S' v r => hq a v β' H' st' e S' (E.mono e) r (PostA.mono e h)
  | exn x st' => rw [hm] at h; exact h
  | bad => rw [hm] at h; exact h
theorem liftT.bind {α : Type} {X : Cx} {W : WX} {σ : L2.St} {ok : α → List Addr → Hp → Prop} {β : List Addr} {H : Hp} {ρ : Env3} {st : Sto} {k : KT} {f : Bool → Sto → R α} {Q : Bool → Hp → Prop} (S : Sim X.K X.mg β st H) (E : ER X.K β H ρ σ)
    (h : PostA X.K X.mg W σ ok β H ((k ρ st).bind f))
    (hq : ∀ b β' H' st', Ext β H β' H' → Sim X.K X.mg β' st' H' → ER X.K β' H' ρ σ → PostA X.K X.mg W σ ok β' H' (f b st') → Q b H') : liftT X.K X.mg W k σ H Q := by
  refine ⟨β, ρ, st, S, E, ?_⟩
  cases hm : k ρ st with
  | ok a st' =>
    rw [hm] at h
    exact fun β' H' e S' => hq a β' H' st' e S' (E.mono e) (PostA.mono e h)
  | exn x st' => rw [hm] at h; exact h
  | bad => rw [hm] at h; exact h
theorem liftA.bind {α : Type} {X : Cx} {W : WX} {σ : L2.St} {ok : α → List Addr → Hp → Prop} {β : List Addr} {H : Hp} {ρ : Env3} {st : Sto} {k : KA} {f : List D → Sto → R α} {Q : List V → Hp → Prop} (S : Sim X.K X.mg β st H) (E : ER X.K β H ρ σ)
    (h : PostA X.K X.mg W σ ok β H ((k ρ st).bind f))
    (hq : ∀ ds vs β' H' st', Ext β H β' H' → Sim X.K X.mg β' st' H' → ER X.K β' H' ρ σ → VRs X.K β' H' ds vs → PostA X.K X.mg W σ ok β' H' (f ds st') → Q vs H') : liftA X.K X.mg W k σ H Q := by
  refine ⟨β, ρ, st, S, E, ?_⟩
  cases hm : k ρ st with
  | ok a st' =>
    rw [hm] at h
    exact fun β' H' e S' v r => hq a v β' H' st' e S' (E.mono e) r (PostA.mono e h)
  | exn x st' => rw [hm] at h; exact h
  | bad => rw [hm] at h; exact h
end L3

namespace L3
open PySem PySem.Spec PyProof.Rows L2

/-! ### the combinators: what an expression means -/
def kv (i : Nat) : KE := fun ρ st => match ρ[i]? with
  | some (some d) => .ok d st
  | _ => .bad
def kc (d : D) : KE := fun _ st => .ok d st
def k1 (f : D → Sto → R D) (a : KE) : KE := fun ρ st => (a ρ st).bind f
def k2 (f : D → D → Sto → R D) (a b : KE) : KE := fun ρ st => (a ρ st).bind fun x st1 => (b ρ st1).bind fun y st2 => f x y st2
def kA0 : KA := fun _ st => .ok [] st
def kA1 (a : KE) (r : KA) : KA := fun ρ st => (a ρ st).bind fun x st1 => (r ρ st1).bind fun xs st2 => .ok (x :: xs) st2
def kF (f : List D → Sto → R D) (a : KA) : KE := fun ρ st => (a ρ st).bind f
def tupF (xs : List D) (st : Sto) : R D := if xs.length ≤ 16777216 then .ok (.tup xs) st else .bad
def lstF (xs : List D) (st : Sto) : R D := if xs.length ≤ 16777216 then .ok (.loc st.length) (st ++ [.lst xs]) else .bad
def kM (ty : D → Sto → Bool) (f : D → List D → Sto → R D) (o : KE) (a : KA) : KE := fun ρ st => (o ρ st).bind fun x st1 => if ty x st1 = true then (a ρ st1).bind fun xs st2 => f x xs st2 else .bad
/-- tests -/
def truD (d : D) (st : Sto) : Option Bool := match d with
  | .non => some false
  | .bl b => some b
  | .int i => some (i != 0)
  | .str x => if x.length ≤ 16777216 then some ((x.length : Int) != 0) else none
  | .tup xs => some (!xs.isEmpty)
  | .frz xs => some (!xs.isEmpty)
  | .loc n => match st[n]? with
    | some (.lst xs) => some (!xs.isEmpty)
    | some (.dK xs) => some (!xs.isEmpty)
    | _ => none
def kTr (a : KE) : KT := fun ρ st => (a ρ st).bind fun d st1 => match truD d st1 with
  | some b => .ok b st1
  | none => .bad
def kTb (a : KE) : KT := fun ρ st => (a ρ st).bind fun d st1 => match d with
  | .bl b => .ok b st1
  | _ => .bad
def tAnd3 (a b : KT) : KT := fun ρ st => (a ρ st).bind fun c st1 => if c = true then b ρ st1 else .ok false st1
def tOr3 (a b : KT) : KT := fun ρ st => (a ρ st).bind fun c st1 => if c = true then .ok true st1 else b ρ st1
def tNot3 (a : KT) : KT := fun ρ st => (a ρ st).bind fun c st1 => .ok (!c) st1
def kIf (c : KT) (a b : KE) : KE := fun ρ st => (c ρ st).bind fun k st1 => if k = true then a ρ st1 else b ρ st1
def kAndV (a b : KE) : KE := fun ρ st => (a ρ st).bind fun d st1 => match truD d st1 with
  | some true => b ρ st1
  | some false => .ok d st1
  | none => .bad
def kOrV (a b : KE) : KE := fun ρ st => (a ρ st).bind fun d st1 => match truD d st1 with
  | some true => .ok d st1
  | some false => b ρ st1
  | none => .bad
def kNotV (a : KE) : KE := fun ρ st => (a ρ st).bind fun d st1 => match truD d st1 with
  | some k => .ok (.bl (!k)) st1
  | none => .bad
def kChain (f g : D → D → Sto → R D) (a b c : KE) : KE := fun ρ st => (a ρ st).bind fun x st1 => (b ρ st1).bind fun y st2 => (f x y st2).bind fun z st3 => match z with
  | .bl true => (c ρ st3).bind fun w st4 => g y w st4
  | .bl false => .ok (.bl false) st3
  | _ => .bad

/-! ### soundness of the parts -/
section
variable {X : Cx} {W : WX}

/-- an operation on two values -/
def OpS (X : Cx) (W : WX) (F : Value → Value → Sem Value) (f : D → D → Sto → R D) : Prop :=
  ∀ (pins : List (Addr × Obj)) (s : Shared) (σ : L2.St) (H : Hp) (x y : V) (v u : Value) (Q : VK) (β : List Addr) (st : Sto) (dx dy : D), Inv X pins σ H s → RelV x v → RelV y u → Sim X.K X.mg β st H → VR X.K β H dx x → VR X.K β H dy y →
    PostA X.K X.mg W σ (okE X.K Q) β H (f dx dy st) → wpAny (model X.prog X.w) X.A (F v u) (EP X pins σ Q) X.xe s
theorem OpS.of {F : Value → Value → Sem Value} {r : R2} {f : D → D → Sto → R D} (h : OpR X F r)
    (i : ∀ (σ : L2.St) (H : Hp) (x y : V) (Q : VK) (β : List Addr) (st : Sto) (dx dy : D), Sim X.K X.mg β st H → VR X.K β H dx x → VR X.K β H dy y → PostA X.K X.mg W σ (okE X.K Q) β H (f dx dy st) → r x y H Q) : OpS X W F f :=
  fun pins s σ H x y v u Q β st dx dy I rx ry S vx vy p => h pins s σ H x y v u Q I rx ry (i σ H x y Q β st dx dy S vx vy p)
def UnS (X : Cx) (W : WX) (F : Value → Sem Value) (f : D → Sto → R D) : Prop :=
  ∀ (pins : List (Addr × Obj)) (s : Shared) (σ : L2.St) (H : Hp) (x : V) (v : Value) (Q : VK) (β : List Addr) (st : Sto) (dx : D), Inv X pins σ H s → RelV x v → Sim X.K X.mg β st H → VR X.K β H dx x →
    PostA X.K X.mg W σ (okE X.K Q) β H (f dx st) → wpAny (model X.prog X.w) X.A (F v) (EP X pins σ Q) X.xe s
def CallS (X : Cx) (W : WX) (F : Value) (f : List D → Sto → R D) : Prop :=
  ∀ (pins : List (Addr × Obj)) (s : Shared) (σ : L2.St) (H : Hp) (xs : List V) (us : List Value) (Q : VK) (β : List Addr) (st : Sto) (ds : List D), Inv X pins σ H s → Vals xs us → Sim X.K X.mg β st H → VRs X.K β H ds xs →
    PostA X.K X.mg W σ (okE X.K Q) β H (f ds st) → wpAny (model X.prog X.w) X.A (call F us) (EP X pins σ Q) X.xe s
theorem CallS.of {F : Value} {r : List V → Hp → VK → Prop} {f : List D → Sto → R D} (h : CallR X F r)
    (i : ∀ (σ : L2.St) (H : Hp) (xs : List V) (Q : VK) (β : List Addr) (st : Sto) (ds : List D), Sim X.K X.mg β st H → VRs X.K β H ds xs → PostA X.K X.mg W σ (okE X.K Q) β H (f ds st) → r xs H Q) : CallS X W F f :=
  fun pins s σ H xs us Q β st ds I rx S vx p => h pins s σ H xs us Q I rx (i σ H xs Q β st ds S vx p)
def MtS3 (X : Cx) (W : WX) (id : String) (f : D → List D → Sto → R D) : Prop :=
  ∀ (pins : List (Addr × Obj)) (s : Shared) (σ : L2.St) (H : Hp) (x : V) (xs : List V) (v : Value) (us : List Value) (Q : VK) (β : List Addr) (st : Sto) (d : D) (ds : List D), Inv X pins σ H s → RelV x v → Vals xs us → Sim X.K X.mg β st H → VR X.K β H d x → VRs X.K β H ds xs →
    PostA X.K X.mg W σ (okE X.K Q) β H (f d ds st) → wpAny (model X.prog X.w) X.A (call (.builtin id) (v :: us)) (EP X pins σ Q) X.xe s
theorem MtS3.of {id : String} {r : V → List V → Hp → VK → Prop} {f : D → List D → Sto → R D} (h : MtR X id r)
    (i : ∀ (σ : L2.St) (H : Hp) (x : V) (xs : List V) (Q : VK) (β : List Addr) (st : Sto) (d : D) (ds : List D), Sim X.K X.mg β st H → VR X.K β H d x → VRs X.K β H ds xs → PostA X.K X.mg W σ (okE X.K Q) β H (f d ds st) → r x xs H Q) : MtS3 X W id f :=
  fun pins s σ H x xs v us Q β st d ds I rv rx S vd vx p => h pins s σ H x xs v us Q I rv rx (i σ H x xs Q β st d ds S vd vx p)

variable {e a b c : Expr} {es rest : List Expr} {pos : Pos} {ka kb kcc : KE} {kt kt' : KT} {kas : KA}
theorem q_v {i : Nat} {x : Str} (hN : X.N[i]? = some x := by rfl) (hv : Vis X.env.scope x := by first | exact Or.inl rfl | exact Or.inr (Or.inl rfl) | exact Or.inr (Or.inr rfl)) (hd : (x == ("__debug__" : Str)) = false := by decide)
    (hcd : (x == ("__classdict__" : Str)) = false := by decide) : PE X (.Name x pos) (lift X.K X.mg W (kv i)) :=
  PE.imp (pe_var (i := i) hN hv hd hcd) fun σ H Q ⟨β, ρ, st, S, E, p⟩ => by
    unfold kv at p
    split at p
    · rename_i d hd
      obtain ⟨v, h1, h2⟩ := E.2 i d hd
      exact ⟨v, h1, p β H (Ext.refl β H) S v h2⟩
    · exact p.elim
theorem q_c {t : TE} {d : D} {v : V} (h : PE X e (tC v)) (r : ∀ β H, VR X.K β H d v) : PE X e (lift X.K X.mg W (kc d)) :=
  PE.imp h fun σ H Q ⟨β, ρ, st, S, E, p⟩ => p β H (Ext.refl β H) S v (r β H)
theorem q_int {i j} : PE X (.Constant (.int i) j pos) (lift X.K X.mg W (kc (.int i))) := q_c (t := tC (.int i)) pe_int fun _ _ => VR.int.mpr rfl
theorem q_bl {i j} : PE X (.Constant (.bool i) j pos) (lift X.K X.mg W (kc (.bl i))) := q_c (t := tC (.bl i)) pe_bl fun _ _ => VR.bl.mpr rfl
theorem q_str {i j} : PE X (.Constant (.str i) j pos) (lift X.K X.mg W (kc (.str i))) := q_c (t := tC (.str i)) pe_str fun _ _ => VR.str.mpr rfl
theorem q_non {j} : PE X (.Constant .none j pos) (lift X.K X.mg W (kc .non)) := q_c (t := tC .non) pe_non fun _ _ => VR.non.mpr rfl
/-- a module's constant -/
theorem q_gint {x : Str} {i : Int} {t : Tok} (hg : Gl X x) (hm : X.mg x = some (.int i t)) (hd : (x == ("__debug__" : Str)) = false := by decide) : PE X (.Name x pos) (lift X.K X.mg W (kc (.int i))) := q_c (t := tC (.int i)) (pe_glob (v := .int i) hg hm ⟨t, rfl⟩ hd) fun _ _ => VR.int.mpr rfl
theorem q_gstr {x : Str} {i : Str} {t : Tok} (hg : Gl X x) (hm : X.mg x = some (.str i t)) (hd : (x == ("__debug__" : Str)) = false := by decide) : PE X (.Name x pos) (lift X.K X.mg W (kc (.str i))) := q_c (t := tC (.str i)) (pe_glob (v := .str i) hg hm ⟨t, rfl⟩ hd) fun _ _ => VR.str.mpr rfl

/-- two in a row -/
theorem run2 {α : Type} {pins : List (Addr × Obj)} {s : Shared} {σ : L2.St} {H : Hp} {β : List Addr} {ρ : Env3} {st : Sto} {ok : α → List Addr → Hp → Prop} {f : D → D → Sto → R α} (ha : PE X a (lift X.K X.mg W ka)) (hb : PE X b (lift X.K X.mg W kb)) (I : Inv X pins σ H s)
    (S : Sim X.K X.mg β st H) (E : ER X.K β H ρ σ) (p : PostA X.K X.mg W σ ok β H ((ka ρ st).bind fun x st1 => (kb ρ st1).bind fun y st2 => f x y st2)) {Z : Value → Value → Shared → Prop}
    (hf : ∀ v u s2 x y H2 β2 st2 dx dy, Inv X pins σ H2 s2 → RelV x v → RelV y u → Sim X.K X.mg β2 st2 H2 → ER X.K β2 H2 ρ σ → VR X.K β2 H2 dx x → VR X.K β2 H2 dy y → PostA X.K X.mg W σ ok β2 H2 (f dx dy st2) → Z v u s2) :
    wpAny (model X.prog X.w) X.A (eval a X.env) (fun v s₁ => wpAny (model X.prog X.w) X.A (eval b X.env) (fun u s₂ => Z v u s₂) X.xe s₁) X.xe s := by
  refine thn (ha.run pins s σ H (fun x H1 => ∃ β1 st1 dx, Sim X.K X.mg β1 st1 H1 ∧ ER X.K β1 H1 ρ σ ∧ VR X.K β1 H1 dx x ∧ PostA X.K X.mg W σ ok β1 H1 ((kb ρ st1).bind fun y st2 => f dx y st2)) I
    (lift.bind S E p fun d v β' H' st' e' S' E' r' p' => ⟨β', st', d, S', E', r', p'⟩)) fun v s1 ⟨x, H1, I1, r1, β1, st1, dx, S1, E1, v1, p1⟩ => ?_
  refine thn (hb.run pins s1 σ H1 (fun y H2 => ∃ β2 st2 dy, Ext β1 H1 β2 H2 ∧ Sim X.K X.mg β2 st2 H2 ∧ ER X.K β2 H2 ρ σ ∧ VR X.K β2 H2 dy y ∧ PostA X.K X.mg W σ ok β2 H2 (f dx dy st2)) I1
    (lift.bind S1 E1 p1 fun d v β' H' st' e' S' E' r' p' => ⟨β', st', d, e', S', E', r', p'⟩)) fun u s2 ⟨y, H2, I2, r2, β2, st2, dy, e2, S2, E2, v2, p2⟩ => ?_
  exact hf v u s2 x y H2 β2 st2 dx dy I2 r1 r2 S2 E2 (VR.mono e2 _ _ v1) v2 p2

theorem q_op {op : Operator} {f : D → D → Sto → R D} (ho : OpS X W (binaryOp op) f) (ha : PE X a (lift X.K X.mg W ka)) (hb : PE X b (lift X.K X.mg W kb)) : PE X (.BinOp a op b pos) (lift X.K X.mg W (k2 f ka kb)) := by
  refine ⟨fun pins s σ H Q I ⟨β, ρ, st, S, E, p⟩ => ?_⟩
  exact wpAny_BinOp (run2 ha hb I S E p fun v u s2 x y H2 β2 st2 dx dy I2 r1 r2 S2 E2 v1 v2 p2 => ho pins s2 σ H2 x y v u Q β2 st2 dx dy I2 r1 r2 S2 v1 v2 p2)
theorem q_cmp {op : CmpOp} {f : D → D → Sto → R D} (ho : OpS X W (compareOp op) f) (ha : PE X a (lift X.K X.mg W ka)) (hb : PE X b (lift X.K X.mg W kb)) (hm : behindInMarks op b = false) : PE X (.Compare a [op] [b] pos) (lift X.K X.mg W (k2 f ka kb)) := by
  refine ⟨fun pins s σ H Q I ⟨β, ρ, st, S, E, p⟩ => ?_⟩
  exact wpAny_Compare1 (run2 ha hb I S E p fun v u s2 x y H2 β2 st2 dx dy I2 r1 r2 S2 E2 v1 v2 p2 => ho pins s2 σ H2 x y v u Q β2 st2 dx dy I2 r1 r2 S2 v1 v2 p2) hm
theorem q_un {op : UnaryOp} {f : D → Sto → R D} (ho : UnS X W (unaryOp op) f) (ha : PE X a (lift X.K X.mg W ka)) : PE X (.UnaryOp op a pos) (lift X.K X.mg W (k1 f ka)) := by
  refine ⟨fun pins s σ H Q I ⟨β, ρ, st, S, E, p⟩ => ?_⟩
  refine UnaryOp_ (thn (ha.run pins s σ H (fun x H1 => ∃ β1 st1 dx, Sim X.K X.mg β1 st1 H1 ∧ VR X.K β1 H1 dx x ∧ PostA X.K X.mg W σ (okE X.K Q) β1 H1 (f dx st1)) I
    (lift.bind S E p fun d v β' H' st' e' S' E' r' p' => ⟨β', st', d, S', r', p'⟩)) fun v s1 ⟨x, H1, I1, r1, β1, st1, dx, S1, v1, p1⟩ => ?_)
  exact ho pins s1 σ H1 x v Q β1 st1 dx I1 r1 S1 v1 p1
/-- a subscript by values -/
def IxS (X : Cx) (W : WX) (f : D → D → Sto → R D) : Prop :=
  ∀ (value slice : Expr) (pins : List (Addr × Obj)) (s : Shared) (σ : L2.St) (H : Hp) (x y : V) (v u : Value) (Q : VK) (β : List Addr) (st : Sto) (dx dy : D), Inv X pins σ H s → RelV x v → RelV y u → Sim X.K X.mg β st H → VR X.K β H dx x → VR X.K β H dy y →
    PostA X.K X.mg W σ (okE X.K Q) β H (f dx dy st) → subscripted slice false v u = operate [v, u] (getItem v u) → wpAny (model X.prog X.w) X.A (subscriptTail value slice v u) (EP X pins σ Q) X.xe s
theorem q_ix {f : D → D → Sto → R D} (ho : IxS X W f) (ha : PE X a (lift X.K X.mg W ka)) (hb : PE X b (lift X.K X.mg W kb)) (hs : PlainIx b) : PE X (.Subscript a b pos) (lift X.K X.mg W (k2 f ka kb)) := by
  refine ⟨fun pins s σ H Q I ⟨β, ρ, st, S, E, p⟩ => ?_⟩
  exact Subscript_ (run2 ha hb I S E p fun v u s2 x y H2 β2 st2 dx dy I2 r1 r2 S2 E2 v1 v2 p2 => ho a b pins s2 σ H2 x y v u Q β2 st2 dx dy I2 r1 r2 S2 v1 v2 p2 (hs _ _))

/-! ### arguments and displays -/
theorem q_nil : PA X [] (liftA X.K X.mg W kA0) := PA.imp pa_nil fun σ H Q ⟨β, ρ, st, S, E, p⟩ => p β H (Ext.refl β H) S [] (VRs.nil.mpr rfl)
theorem q_cons (ha : PE X a (lift X.K X.mg W ka)) (hr : PA X es (liftA X.K X.mg W kas)) (hs : starEach (a :: es) X.env = (false, eval a X.env) :: starEach es X.env := by rfl) : PA X (a :: es) (liftA X.K X.mg W (kA1 ka kas)) :=
  PA.imp (pa_cons ha hr hs) fun σ H Q ⟨β, ρ, st, S, E, p⟩ => lift.bind S E p fun d v β1 H1 st1 e1 S1 E1 r1 p1 =>
    liftA.bind S1 E1 p1 fun ds vs β2 H2 st2 e2 S2 E2 r2 p2 => p2 β2 H2 (Ext.refl _ _) S2 (v :: vs) (VRs.cons.mpr ⟨v, vs, rfl, VR.mono e2 _ _ r1, r2⟩)
theorem szl {n : Nat} (h : n ≤ 16777216) : n ≤ sizeLine := by rw [sizeLine_eq]; exact h
theorem q_tup {x1} (h : PA X es (liftA X.K X.mg W kas)) : PE X (.Tuple es x1 pos) (lift X.K X.mg W (kF tupF kas)) :=
  PE.imp (pe_tup h) fun σ H Q ⟨β, ρ, st, S, E, p⟩ => liftA.bind S E p fun ds vs β1 H1 st1 e1 S1 E1 r1 p1 => by
    unfold tupF at p1
    split at p1
    · rename_i hz
      refine ⟨by rw [r1.length]; exact szl hz, fun q hq => p1 β1 _ (ext_new0 hq) (S1.new0 hq) _ (VR.tup.mpr ⟨q, vs, rfl, SqT.of upd_same, VRs.mono (ext_new0 hq) _ _ r1⟩)⟩
    · exact p1.elim
theorem newLst {K : PySem.W.Frag} {mg : Str → Option Value} {β : List Addr} {st : Sto} {H : Hp} {ds : List D} {vs : List V} {q : Addr} (S : Sim K mg β st H) (r : VRs K β H ds vs) (hq : H q = none) :
    Ext β H (β ++ [q]) (upd H q (.lst vs)) ∧ Sim K mg (β ++ [q]) (st ++ [.lst ds]) (upd H q (.lst vs)) ∧ VR K (β ++ [q]) (upd H q (.lst vs)) (.loc st.length) (.ref q) :=
  ⟨ext_new hq, S.push hq ⟨vs, upd_same, VRs.mono (ext_new hq) _ _ r⟩, VR.loc.mpr ⟨q, by rw [← S.len]; simp, rfl⟩⟩
theorem q_lst (h : PA X es (liftA X.K X.mg W kas)) : PE X (.List es pos) (lift X.K X.mg W (kF lstF kas)) :=
  PE.imp (pe_lst h) fun σ H Q ⟨β, ρ, st, S, E, p⟩ => liftA.bind S E p fun ds vs β1 H1 st1 e1 S1 E1 r1 p1 => by
    unfold lstF at p1
    split at p1
    · rename_i hz
      refine ⟨by rw [r1.length]; exact szl hz, fun q hq => ?_⟩
      obtain ⟨x1, x2, x3⟩ := newLst S1 r1 hq
      exact p1 _ _ x1 x2 _ x3
    · exact p1.elim

/-! ### calls of built-ins -/
theorem q_callB {x : Str} {p : Pos} {id : String} {f : List D → Sto → R D} (hc : CallS X W (.builtin id) f) (hg : Gl X x) (hm : X.mg x = none) (hv : bootBuiltins x = some (.builtin id)) (ha : PA X (a :: es) (liftA X.K X.mg W kas)) (hn : x ≠ "__name__" := by decide) (hdb : (x == ("__debug__" : Str)) = false := by decide)
    (he : starEach (a :: es) X.env = (false, eval a X.env) :: starEach es X.env := by rfl) (hpl : (backTo pos (starEach es X.env)).any (·.1) = false := by rfl) : PE X (.Call (.Name x p) (a :: es) [] pos) (lift X.K X.mg W (kF f kas)) := by
  refine ⟨fun pins s σ H Q I ⟨β, ρ, st, S, E, q⟩ => ?_⟩
  refine wpAny_Call_Name_kw (ld_blt I hg hm hv ?_ hn hdb)
  refine PyProof.Rows.callWith_builtin1 (thn (ha.run pos pins s σ H (fun xs H1 => ∃ β1 st1 ds, Sim X.K X.mg β1 st1 H1 ∧ VRs X.K β1 H1 ds xs ∧ PostA X.K X.mg W σ (okE X.K Q) β1 H1 (f ds st1)) I
    (liftA.bind S E q fun d v β' H' st' e' S' E' r' p' => ⟨β', st', d, S', r', p'⟩)) fun us s1 ⟨vs, H1, I1, r1, β1, st1, ds, S1, v1, p1⟩ => ?_) he hpl
  exact hc pins s1 σ H1 vs us Q β1 st1 ds I1 r1 S1 v1 p1
theorem q_callTy {x : Str} {p : Pos} {T : String} {f : List D → Sto → R D} (hc : CallS X W (.type T) f) (hg : Gl X x) (hm : X.mg x = none) (hv : bootBuiltins x = some (.type T)) (ha : PA X (a :: es) (liftA X.K X.mg W kas)) (hn : x ≠ "__name__" := by decide) (hdb : (x == ("__debug__" : Str)) = false := by decide)
    (he : starEach (a :: es) X.env = (false, eval a X.env) :: starEach es X.env := by rfl) (hpl : (backTo pos (starEach es X.env)).any (·.1) = false := by rfl) : PE X (.Call (.Name x p) (a :: es) [] pos) (lift X.K X.mg W (kF f kas)) := by
  refine ⟨fun pins s σ H Q I ⟨β, ρ, st, S, E, q⟩ => ?_⟩
  refine wpAny_Call_Name_kw (ld_blt I hg hm hv ?_ hn hdb)
  refine PyProof.Rows.callWith_type1 (thn (ha.run pos pins s σ H (fun xs H1 => ∃ β1 st1 ds, Sim X.K X.mg β1 st1 H1 ∧ VRs X.K β1 H1 ds xs ∧ PostA X.K X.mg W σ (okE X.K Q) β1 H1 (f ds st1)) I
    (liftA.bind S E q fun d v β' H' st' e' S' E' r' p' => ⟨β', st', d, S', r', p'⟩)) fun us s1 ⟨vs, H1, I1, r1, β1, st1, ds, S1, v1, p1⟩ => ?_) he hpl
  exact hc pins s1 σ H1 vs us Q β1 st1 ds I1 r1 S1 v1 p1

/-! ### tests -/
theorem lineI {n : Nat} (h : n ≤ 16777216) : n ≤ sizeLine := szl h
theorem tru_rel {K : PySem.W.Frag} {mg : Str → Option Value} {β : List Addr} {st : Sto} {H : Hp} {d : D} {v : V} {k : Bool} (S : Sim K mg β st H) (r : VR K β H d v) (h : truD d st = some k) : TruV K v H k := by
  cases d with
  | non => cases VR.non.mp r; cases h; rfl
  | bl b => cases VR.bl.mp r; cases h; rfl
  | int i => cases VR.int.mp r; cases h; rfl
  | str x =>
    cases VR.str.mp r
    simp only [truD] at h
    split at h
    · rename_i hz; cases h; exact ⟨szl hz, rfl⟩
    · cases h
  | tup xs =>
    obtain ⟨a, vs, rfl, h1, h2⟩ := VR.tup.mp r
    cases h
    refine .inr (.inl ⟨vs, h1, ?_⟩)
    have hl := h2.length
    cases xs <;> cases vs <;> simp_all
  | frz xs =>
    obtain ⟨a, vs, rfl, h1, h2⟩ := VR.frz.mp r
    cases h
    refine .inl ⟨vs, h1.sq, ?_⟩
    have hl := h2.length
    cases xs <;> cases vs <;> simp_all
  | loc n =>
    obtain ⟨a, h1, rfl⟩ := VR.loc.mp r
    obtain ⟨o, h2, h3⟩ := S.at h1
    simp only [truD, h2] at h
    cases o with
    | lst xs =>
      cases h
      obtain ⟨vs, h4, h5⟩ := h3
      refine .inl ⟨vs, SqL.of h4, ?_⟩
      have hl := h5.length
      cases xs <;> cases vs <;> simp_all
    | dK xs =>
      cases h
      obtain ⟨vs, h4, h5⟩ := h3
      refine .inr (.inr ⟨vs, h4, ?_⟩)
      cases h5 <;> rfl
    | dT _ => cases h
    | ins _ _ => cases h
/-- a test of any value, by its truth -/
theorem q_tr (ha : PE X a (lift X.K X.mg W ka)) (he : ∀ whole, isTrue a X.env whole = (do let v ← whole; standAt a.pos; holding [v] (truthy v)) := by intro _; rfl) : PT X a (liftT X.K X.mg W (kTr ka)) :=
  PT.imp (pt_truth ha he) fun σ H Q ⟨β, ρ, st, S, E, p⟩ => lift.bind S E p fun d v β1 H1 st1 e1 S1 E1 r1 p1 => by
    split at p1
    · rename_i k hk
      exact ⟨k, tru_rel S1 r1 hk, p1 β1 H1 (Ext.refl _ _) S1⟩
    · exact p1.elim
/-- a comparison as a test -/
theorem q_tcmp {op : CmpOp} {f : D → D → Sto → R D} (ho : OpS X W (compareOp op) f) (ha : PE X a (lift X.K X.mg W ka)) (hb : PE X b (lift X.K X.mg W kb)) (hm : behindInMarks op b = false) : PT X (.Compare a [op] [b] pos) (liftT X.K X.mg W (kTb (k2 f ka kb))) := by
  refine ⟨fun pins s σ H Q I ⟨β, ρ, st, S, E, p⟩ => ?_⟩
  have p' : PostA X.K X.mg W σ (okT Q) β H ((ka ρ st).bind fun x st1 => (kb ρ st1).bind fun y st2 => (f x y st2).bind fun d st3 => match d with | .bl b => R.ok b st3 | _ => R.bad) := by
    unfold kTb k2 at p
    cases h1 : ka ρ st with
    | ok x st1 =>
      rw [h1] at p
      simp only [R.bind_ok] at p ⊢
      cases h2 : kb ρ st1 with
      | ok y st2 => rw [h2] at p; simpa only [R.bind_ok] using p
      | exn z st2 => rw [h2] at p; exact p
      | bad => rw [h2] at p; exact p
    | exn z st2 => rw [h1] at p; exact p
    | bad => rw [h1] at p; exact p
  refine wpAny_isTrue_Compare1 (run2 ha hb I S E p' fun v u s2 x y H2 β2 st2 dx dy I2 r1 r2 S2 E2 v1 v2 p2 => ?_) hm
  refine thn (ho pins s2 σ H2 x y v u (fun z H3 => ∃ k, z = .bl k ∧ Q k H3) β2 st2 dx dy I2 r1 r2 S2 v1 v2 ?_) fun c s3 ⟨z, H3, I3, r3, k, e, q3⟩ => ?_
  · exact PostA.imp (fun d β3 H3 ⟨st3, S3, p3⟩ v3 r3 => by
      cases d with
      | bl k => exact ⟨k, VR.bl.mp r3, p3 β3 H3 (Ext.refl _ _) S3⟩
      | _ => exact p3.elim) (PostA.bind p2)
  · subst e
    cases r3
    exact wpAny_truthy_bool ⟨H3, I3, q3⟩
end
end L3

namespace L3
open PySem PySem.Spec PyProof.Rows L2
section
variable {X : Cx} {W : WX} {e a b c : Expr} {es rest : List Expr} {pos : Pos} {ka kb kcc : KE} {kt kt' : KT} {kas : KA}

/-! ### chains, and, or, not, if -/
theorem q_chain {op op' : CmpOp} {f g : D → D → Sto → R D} (ho : OpS X W (compareOp op) f) (ho' : OpS X W (compareOp op') g) (ha : PE X a (lift X.K X.mg W ka)) (hb : PE X b (lift X.K X.mg W kb)) (hc : PE X c (lift X.K X.mg W kcc))
    (hm : lastMarks [op, op'] [b, c] = false := by with_unfolding_all rfl) : PE X (.Compare a [op, op'] [b, c] pos) (lift X.K X.mg W (kChain f g ka kb kcc)) := by
  refine ⟨fun pins s σ H Q I ⟨β, ρ, st, S, E, p⟩ => ?_⟩
  refine Compare_chain ?_ hm
  refine thn (ha.run pins s σ H (fun x H1 => ∃ β1 st1 dx, Sim X.K X.mg β1 st1 H1 ∧ ER X.K β1 H1 ρ σ ∧ VR X.K β1 H1 dx x ∧ PostA X.K X.mg W σ (okE X.K Q) β1 H1 ((kb ρ st1).bind fun y st2 => (f dx y st2).bind fun z st3 => match z with | .bl true => (kcc ρ st3).bind fun w st4 => g y w st4 | .bl false => .ok (.bl false) st3 | _ => .bad)) I
    (lift.bind S E p fun d v β' H' st' e' S' E' r' p' => ⟨β', st', d, S', E', r', p'⟩)) fun v s1 ⟨x, H1, I1, r1, β1, st1, dx, S1, E1, v1, p1⟩ => ?_
  refine chain_link (thn (hb.run pins s1 σ H1 (fun y H2 => ∃ β2 st2 dy, Ext β1 H1 β2 H2 ∧ Sim X.K X.mg β2 st2 H2 ∧ ER X.K β2 H2 ρ σ ∧ VR X.K β2 H2 dy y ∧ PostA X.K X.mg W σ (okE X.K Q) β2 H2 ((f dx dy st2).bind fun z st3 => match z with | .bl true => (kcc ρ st3).bind fun w st4 => g dy w st4 | .bl false => .ok (.bl false) st3 | _ => .bad)) I1
    (lift.bind S1 E1 p1 fun d v β' H' st' e' S' E' r' p' => ⟨β', st', d, e', S', E', r', p'⟩)) fun u s2 ⟨y, H2, I2, r2, β2, st2, dy, e2, S2, E2, v2, p2⟩ => ?_)
  refine thn (ho pins s2 σ H2 x y v u (fun z H3 => ∃ k β3 st3, z = .bl k ∧ Ext β2 H2 β3 H3 ∧ Sim X.K X.mg β3 st3 H3 ∧ PostA X.K X.mg W σ (okE X.K Q) β3 H3 (if k = true then (kcc ρ st3).bind fun w st4 => g dy w st4 else .ok (.bl false) st3)) β2 st2 dx dy I2 r1 r2 S2 (VR.mono e2 _ _ v1) v2 ?_) fun d s3 ⟨z, H3, I3, r3, k, β3, st3, e, e3, S3, p3⟩ => ?_
  · cases hf : f dx dy st2 with
    | ok z st3 =>
      rw [hf] at p2
      intro β3 H3 e3 S3 v3 r3
      cases z with
      | bl k =>
        refine ⟨k, β3, st3, VR.bl.mp r3, e3, S3, ?_⟩
        have p2' := PostA.mono e3 p2
        cases k <;> exact p2'
      | _ => exact p2.elim
    | exn z st3 => rw [hf] at p2; exact p2
    | bad => rw [hf] at p2; exact p2
  · subst e
    cases r3
    refine wpAny_truthy_bool ?_
    cases k with
    | false => exact ite_ff ⟨.bl false, H3, I3, rfl, p3 β3 H3 (Ext.refl _ _) S3 _ (VR.bl.mpr rfl)⟩
    | true =>
      refine ite_tt (chain_last (thn (hc.run pins s3 σ H3 (fun w H4 => ∃ β4 st4 dw, Ext β3 H3 β4 H4 ∧ Sim X.K X.mg β4 st4 H4 ∧ VR X.K β4 H4 dw w ∧ PostA X.K X.mg W σ (okE X.K Q) β4 H4 (g dy dw st4)) I3
        (lift.bind S3 (E2.mono e3) p3 fun d v β' H' st' e' S' E' r' p' => ⟨β', st', d, e', S', r', p'⟩)) fun w' s4 ⟨z', H4, I4, r4, β4, st4, dw, e4, S4, v4, p4⟩ => ?_))
      exact ho' pins s4 σ H4 y z' u w' Q β4 st4 dy dw I4 r2 r4 S4 (VR.mono (e3.trans e4) _ _ v2) v4 p4
/-- such a comparison as a test -/
theorem q_tchain {op op' : CmpOp} {f g : D → D → Sto → R D} (ho : OpS X W (compareOp op) f) (ho' : OpS X W (compareOp op') g) (ha : PE X a (lift X.K X.mg W ka)) (hb : PE X b (lift X.K X.mg W kb)) (hc : PE X c (lift X.K X.mg W kcc))
    (hm : lastMarks [op, op'] [b, c] = false := by with_unfolding_all rfl) : PT X (.Compare a [op, op'] [b, c] pos) (liftT X.K X.mg W (kTb (kChain f g ka kb kcc))) := by
  refine ⟨fun pins s σ H Q I ⟨β, ρ, st, S, E, p⟩ => ?_⟩
  have p0 : PostA X.K X.mg W σ (okT Q) β H ((ka ρ st).bind fun x st1 => (kb ρ st1).bind fun y st2 => (f x y st2).bind fun z st3 => match z with
    | .bl true => (kcc ρ st3).bind fun w st4 => (g y w st4).bind fun q st5 => match q with | .bl b => R.ok b st5 | _ => .bad
    | .bl false => .ok false st3
    | _ => .bad) := by
    unfold kTb kChain at p
    cases h1 : ka ρ st with
    | ok x st1 =>
      rw [h1] at p; simp only [R.bind_ok] at p ⊢
      cases h2 : kb ρ st1 with
      | ok y st2 =>
        rw [h2] at p; simp only [R.bind_ok] at p ⊢
        cases h3 : f x y st2 with
        | ok z st3 =>
          rw [h3] at p; simp only [R.bind_ok] at p ⊢
          cases z with
          | bl k =>
            cases k with
            | true =>
              cases h4 : kcc ρ st3 with
              | ok w st4 => simp only [h4, R.bind_ok] at p ⊢; exact p
              | exn _ _ => simp only [h4, R.bind_exn] at p ⊢; exact p
              | bad => simp only [h4, R.bind_bad] at p ⊢; exact p
            | false => exact p
          | _ => exact p
        | exn _ _ => rw [h3] at p; exact p
        | bad => rw [h3] at p; exact p
      | exn _ _ => rw [h2] at p; exact p
      | bad => rw [h2] at p; exact p
    | exn _ _ => rw [h1] at p; exact p
    | bad => rw [h1] at p; exact p
  refine isTrue_chain ?_ hm
  refine thn (ha.run pins s σ H (fun x H1 => ∃ β1 st1 dx, Sim X.K X.mg β1 st1 H1 ∧ ER X.K β1 H1 ρ σ ∧ VR X.K β1 H1 dx x ∧ PostA X.K X.mg W σ (okT Q) β1 H1 ((kb ρ st1).bind fun y st2 => (f dx y st2).bind fun z st3 => match z with
    | .bl true => (kcc ρ st3).bind fun w st4 => (g y w st4).bind fun q st5 => match q with | .bl b => R.ok b st5 | _ => .bad
    | .bl false => .ok false st3
    | _ => .bad)) I
    (lift.bind S E p0 fun d v β' H' st' e' S' E' r' p' => ⟨β', st', d, S', E', r', p'⟩)) fun v s1 ⟨x, H1, I1, r1, β1, st1, dx, S1, E1, v1, p1⟩ => ?_
  refine test_link (thn (hb.run pins s1 σ H1 (fun y H2 => ∃ β2 st2 dy, Ext β1 H1 β2 H2 ∧ Sim X.K X.mg β2 st2 H2 ∧ ER X.K β2 H2 ρ σ ∧ VR X.K β2 H2 dy y ∧ PostA X.K X.mg W σ (okT Q) β2 H2 ((f dx dy st2).bind fun z st3 => match z with
    | .bl true => (kcc ρ st3).bind fun w st4 => (g dy w st4).bind fun q st5 => match q with | .bl b => R.ok b st5 | _ => .bad
    | .bl false => .ok false st3
    | _ => .bad)) I1
    (lift.bind S1 E1 p1 fun d v β' H' st' e' S' E' r' p' => ⟨β', st', d, e', S', E', r', p'⟩)) fun u s2 ⟨y, H2, I2, r2, β2, st2, dy, e2, S2, E2, v2, p2⟩ => ?_)
  refine thn (ho pins s2 σ H2 x y v u (fun z H3 => ∃ k β3 st3, z = .bl k ∧ Ext β2 H2 β3 H3 ∧ Sim X.K X.mg β3 st3 H3 ∧ PostA X.K X.mg W σ (okT Q) β3 H3 (if k = true then (kcc ρ st3).bind fun w st4 => (g dy w st4).bind fun q st5 => match q with | .bl b => R.ok b st5 | _ => .bad else .ok false st3)) β2 st2 dx dy I2 r1 r2 S2 (VR.mono e2 _ _ v1) v2 ?_) fun d s3 ⟨z, H3, I3, r3, k, β3, st3, e, e3, S3, p3⟩ => ?_
  · cases hf : f dx dy st2 with
    | ok z st3 =>
      rw [hf] at p2
      intro β3 H3 e3 S3 v3 r3
      cases z with
      | bl k =>
        refine ⟨k, β3, st3, VR.bl.mp r3, e3, S3, ?_⟩
        have p2' := PostA.mono e3 p2
        cases k <;> exact p2'
      | _ => exact p2.elim
    | exn z st3 => rw [hf] at p2; exact p2
    | bad => rw [hf] at p2; exact p2
  · subst e
    cases r3
    refine wpAny_truthy_bool ?_
    cases k with
    | false => exact ite_ff ⟨H3, I3, p3 β3 H3 (Ext.refl _ _) S3⟩
    | true =>
      refine ite_tt (test_last (thn (hc.run pins s3 σ H3 (fun w H4 => ∃ β4 st4 dw, Ext β3 H3 β4 H4 ∧ Sim X.K X.mg β4 st4 H4 ∧ VR X.K β4 H4 dw w ∧ PostA X.K X.mg W σ (okT Q) β4 H4 ((g dy dw st4).bind fun q st5 => match q with | .bl b => R.ok b st5 | _ => .bad)) I3
        (lift.bind S3 (E2.mono e3) p3 fun d v β' H' st' e' S' E' r' p' => ⟨β', st', d, e', S', r', p'⟩)) fun w' s4 ⟨z', H4, I4, r4, β4, st4, dw, e4, S4, v4, p4⟩ => ?_))
      refine thn (ho' pins s4 σ H4 y z' u w' (fun z H5 => ∃ k, z = .bl k ∧ Q k H5) β4 st4 dy dw I4 r2 r4 S4 (VR.mono (e3.trans e4) _ _ v2) v4 ?_) fun d' s5 ⟨z2, H5, I5, r5, k2, e5, q5⟩ => ?_
      · exact PostA.imp (fun d β5 H5 ⟨st5, S5, p5⟩ v5 r5 => by
          cases d with
          | bl k => exact ⟨k, VR.bl.mp r5, p5 β5 H5 (Ext.refl _ _) S5⟩
          | _ => exact p5.elim) (PostA.bind p4)
      · subst e5
        cases r5
        exact wpAny_truthy_bool ⟨H5, I5, q5⟩

theorem q_tval (ha : PE X a (lift X.K X.mg W ka)) (he : ∀ whole, isTrue a X.env whole = (do let v ← whole; standAt a.pos; holding [v] (truthy v)) := by intro _; rfl) : PT X a (liftT X.K X.mg W (kTb ka)) :=
  PT.imp (pt_val ha he) fun σ H Q ⟨β, ρ, st, S, E, p⟩ => lift.bind S E p fun d v β1 H1 st1 e1 S1 E1 r1 p1 => by
    cases d with
    | bl k => exact ⟨k, VR.bl.mp r1, p1 β1 H1 (Ext.refl _ _) S1⟩
    | _ => exact p1.elim
theorem w_and1 (ha : PT X a (liftT X.K X.mg W kt)) : PW X (.BoolOp .And [a] pos) (liftT X.K X.mg W kt) := pw_and1 ha
theorem w_or1 (ha : PT X a (liftT X.K X.mg W kt)) : PW X (.BoolOp .Or [a] pos) (liftT X.K X.mg W kt) := pw_or1 ha
theorem w_and (ha : PT X a (liftT X.K X.mg W kt)) (hb : PW X (.BoolOp .And (b :: rest) pos) (liftT X.K X.mg W kt')) : PW X (.BoolOp .And (a :: b :: rest) pos) (liftT X.K X.mg W (tAnd3 kt kt')) :=
  PW.imp (pw_and ha hb) fun σ H Q ⟨β, ρ, st, S, E, p⟩ => liftT.bind S E p fun k β1 H1 st1 e1 S1 E1 p1 => by
    cases k with
    | true => exact iteT ⟨β1, ρ, st1, S1, E1, p1⟩
    | false => exact iteF (p1 β1 H1 (Ext.refl _ _) S1)
theorem w_or (ha : PT X a (liftT X.K X.mg W kt)) (hb : PW X (.BoolOp .Or (b :: rest) pos) (liftT X.K X.mg W kt')) : PW X (.BoolOp .Or (a :: b :: rest) pos) (liftT X.K X.mg W (tOr3 kt kt')) :=
  PW.imp (pw_or ha hb) fun σ H Q ⟨β, ρ, st, S, E, p⟩ => liftT.bind S E p fun k β1 H1 st1 e1 S1 E1 p1 => by
    cases k with
    | true => exact iteT (p1 β1 H1 (Ext.refl _ _) S1)
    | false => exact iteF ⟨β1, ρ, st1, S1, E1, p1⟩
theorem q_tnot (ha : PT X a (liftT X.K X.mg W kt)) : PT X (.UnaryOp .Not a pos) (liftT X.K X.mg W (tNot3 kt)) :=
  PT.imp (pt_not ha) fun σ H Q ⟨β, ρ, st, S, E, p⟩ => liftT.bind S E p fun k β1 H1 st1 e1 S1 E1 p1 => p1 β1 H1 (Ext.refl _ _) S1
theorem q_if (hc : PT X c (liftT X.K X.mg W kt)) (ha : PE X a (lift X.K X.mg W ka)) (hb : PE X b (lift X.K X.mg W kb)) : PE X (.IfExp c a b pos) (lift X.K X.mg W (kIf kt ka kb)) :=
  PE.imp (pe_ifExp hc ha hb) fun σ H Q ⟨β, ρ, st, S, E, p⟩ => liftT.bind S E p fun k β1 H1 st1 e1 S1 E1 p1 => by
    cases k with
    | true => exact iteT ⟨β1, ρ, st1, S1, E1, p1⟩
    | false => exact iteF ⟨β1, ρ, st1, S1, E1, p1⟩
theorem q_one {op} (h : PE X a (lift X.K X.mg W ka)) : PE X (.BoolOp op [a] pos) (lift X.K X.mg W ka) := pe_one h
theorem q_andV (ha : PE X a (lift X.K X.mg W ka)) (hb : PE X (.BoolOp .And (b :: rest) pos) (lift X.K X.mg W kb)) : PE X (.BoolOp .And (a :: b :: rest) pos) (lift X.K X.mg W (kAndV ka kb)) :=
  PE.imp (pe_andT ha hb) fun σ H Q ⟨β, ρ, st, S, E, p⟩ => lift.bind S E p fun d v β1 H1 st1 e1 S1 E1 r1 p1 => by
    split at p1
    · rename_i hk; exact ⟨true, tru_rel S1 r1 hk, iteT ⟨β1, ρ, st1, S1, E1, p1⟩⟩
    · rename_i hk; exact ⟨false, tru_rel S1 r1 hk, iteF (p1 β1 H1 (Ext.refl _ _) S1 v r1)⟩
    · exact p1.elim
theorem q_orV (ha : PE X a (lift X.K X.mg W ka)) (hb : PE X (.BoolOp .Or (b :: rest) pos) (lift X.K X.mg W kb)) : PE X (.BoolOp .Or (a :: b :: rest) pos) (lift X.K X.mg W (kOrV ka kb)) :=
  PE.imp (pe_orT ha hb) fun σ H Q ⟨β, ρ, st, S, E, p⟩ => lift.bind S E p fun d v β1 H1 st1 e1 S1 E1 r1 p1 => by
    split at p1
    · rename_i hk; exact ⟨true, tru_rel S1 r1 hk, iteT (p1 β1 H1 (Ext.refl _ _) S1 v r1)⟩
    · rename_i hk; exact ⟨false, tru_rel S1 r1 hk, iteF ⟨β1, ρ, st1, S1, E1, p1⟩⟩
    · exact p1.elim
theorem q_notV (ha : PE X a (lift X.K X.mg W ka)) : PE X (.UnaryOp .Not a pos) (lift X.K X.mg W (kNotV ka)) :=
  PE.imp (pe_notT ha) fun σ H Q ⟨β, ρ, st, S, E, p⟩ => lift.bind S E p fun d v β1 H1 st1 e1 S1 E1 r1 p1 => by
    split at p1
    · rename_i k hk; exact ⟨k, tru_rel S1 r1 hk, p1 β1 H1 (Ext.refl _ _) S1 _ (VR.bl.mpr rfl)⟩
    · exact p1.elim

/-! ### methods of built-in types -/
def tyD (T : String) (d : D) (st : Sto) : Bool := match d with
  | .str _ => T == "str"
  | .int _ => T == "int"
  | .frz _ => T == "list"
  | .loc n => match st[n]? with
    | some (.lst _) => T == "list"
    | some (.dK _) => T == "dict"
    | some (.dT _) => T == "dict"
    | _ => false
  | _ => false
theorem ty_rel {K : PySem.W.Frag} {mg : Str → Option Value} {β : List Addr} {st : Sto} {H : Hp} {d : D} {v : V} {T : String} (S : Sim K mg β st H) (r : VR K β H d v) (h : tyD T d st = true) : tyV K T v H := by
  cases d with
  | str x => cases VR.str.mp r; exact beq_iff_eq.mp h
  | int x => cases VR.int.mp r; exact beq_iff_eq.mp h
  | frz xs =>
    obtain ⟨a, vs, rfl, h1, h2⟩ := VR.frz.mp r
    exact .inl ⟨beq_iff_eq.mp h, vs, h1.sq⟩
  | loc n =>
    obtain ⟨a, h1, rfl⟩ := VR.loc.mp r
    obtain ⟨o, h2, h3⟩ := S.at h1
    simp only [tyD, h2] at h
    cases o with
    | lst xs => obtain ⟨vs, h4, _⟩ := h3; exact .inl ⟨beq_iff_eq.mp h, vs, SqL.of h4⟩
    | dK xs => obtain ⟨vs, h4, _⟩ := h3; exact .inr (.inr (.inl ⟨beq_iff_eq.mp h, .inl ⟨vs, h4⟩⟩))
    | dT xs => obtain ⟨vs, h4, _⟩ := h3; exact .inr (.inr (.inl ⟨beq_iff_eq.mp h, .inr ⟨vs, h4⟩⟩))
    | ins _ _ => cases h
  | _ => cases h
theorem q_bm {o : Expr} {T id : String} {name : Str} {apos cpos : Pos} {f : D → List D → Sto → R D} (pa : PlainAttrs T) (slot : Slot T name id) (hty : typeOf (.builtin id) = pure (.type "method_descriptor")) (hm : MtS3 X W id f) (ho : PE X o (lift X.K X.mg W ka)) (ha : PA X (a :: es) (liftA X.K X.mg W kas))
    (hbase : attributeBase o name X.env (eval o X.env) = eval o X.env := by rfl)
    (hfew : ((backTo cpos (starEach (a :: es) X.env)).all (fun x => !x.1) && (backToKw cpos (keywordEach [] X.env)).all (fun x => x.1.isSome)
      && decide ((a :: es).length + ([] : List Keyword).length + (if ([] : List Keyword).isEmpty then 0 else 1) < 30)) = true := by rfl)
    (hline : (apos.endLine == cpos.line) = true := by rfl) (hs : starEach (a :: es) X.env = (false, eval a X.env) :: starEach es X.env := by rfl) (hplain : (backTo cpos (starEach es X.env)).any (·.1) = false := by rfl) :
    PE X (.Call (.Attribute o name apos) (a :: es) [] cpos) (lift X.K X.mg W (kM (tyD T) f ka kas)) := by
  refine ⟨fun pins s σ H Q I ⟨β, ρ, st, S, E, p⟩ => ?_⟩
  refine wpAny_Call_method_late hbase hfew hline rfl (thn (ho.run pins s σ H (fun x H1 => ∃ β1 st1 dx, Sim X.K X.mg β1 st1 H1 ∧ ER X.K β1 H1 ρ σ ∧ VR X.K β1 H1 dx x ∧ tyD T dx st1 = true ∧ PostA X.K X.mg W σ (okE X.K Q) β1 H1 ((kas ρ st1).bind fun xs st2 => f dx xs st2)) I
    (lift.bind S E p fun d v β' H' st' e' S' E' r' p' => by
      split at p'
      · rename_i ht; exact ⟨β', st', d, S', E', r', ht, p'⟩
      · exact p'.elim)) fun v s1 ⟨x, H1, I1, r1, β1, st1, dx, S1, E1, v1, ht, p1⟩ => ?_)
  obtain ⟨h1, h2⟩ := tyV_is I1 r1 (ty_rel S1 v1 ht)
  refine ⟨T, id, pa, slot, hty, h1, h2, ?_⟩
  have hA := ha.run cpos pins s1 σ H1 (fun xs H2 => ∃ β2 st2 ds, Ext β1 H1 β2 H2 ∧ Sim X.K X.mg β2 st2 H2 ∧ VRs X.K β2 H2 ds xs ∧ PostA X.K X.mg W σ (okE X.K Q) β2 H2 (f dx ds st2)) I1
    (liftA.bind S1 E1 p1 fun d v β' H' st' e' S' E' r' p' => ⟨β', st', d, e', S', r', p'⟩)
  rw [hs] at hA ⊢
  refine Calls.callWith_builtin (by show (false || (backTo cpos (starEach es X.env)).any (·.1)) = false; rw [hplain] <;> rfl) (Calls.evalArgs_plain ?_)
  exact thn hA fun us s2 ⟨vs, H2, I2, r2, β2, st2, ds, e2, S2, v2, p2⟩ => hm pins s2 σ H2 x vs v us Q β2 st2 dx ds I2 r1 r2 S2 (VR.mono e2 _ _ v1) v2 p2
theorem q_bm0 {o : Expr} {T id : String} {name : Str} {apos cpos : Pos} {f : D → List D → Sto → R D} (pa : PlainAttrs T) (slot : Slot T name id) (hty : typeOf (.builtin id) = pure (.type "method_descriptor")) (hm : MtS3 X W id f) (ho : PE X o (lift X.K X.mg W ka))
    (hbase : attributeBase o name X.env (eval o X.env) = eval o X.env := by rfl) (hline : (apos.endLine == cpos.line) = true := by rfl) :
    PE X (.Call (.Attribute o name apos) [] [] cpos) (lift X.K X.mg W (kM (tyD T) f ka kA0)) := by
  refine ⟨fun pins s σ H Q I ⟨β, ρ, st, S, E, p⟩ => ?_⟩
  refine wpAny_Call_method0_late hbase hline (thn (ho.run pins s σ H (fun x H1 => ∃ β1 st1 dx, Sim X.K X.mg β1 st1 H1 ∧ ER X.K β1 H1 ρ σ ∧ VR X.K β1 H1 dx x ∧ tyD T dx st1 = true ∧ PostA X.K X.mg W σ (okE X.K Q) β1 H1 ((kA0 ρ st1).bind fun xs st2 => f dx xs st2)) I
    (lift.bind S E p fun d v β' H' st' e' S' E' r' p' => by
      split at p'
      · rename_i ht; exact ⟨β', st', d, S', E', r', ht, p'⟩
      · exact p'.elim)) fun v s1 ⟨x, H1, I1, r1, β1, st1, dx, S1, E1, v1, ht, p1⟩ => ?_)
  obtain ⟨h1, h2⟩ := tyV_is I1 r1 (ty_rel S1 v1 ht)
  exact ⟨T, id, pa, slot, hty, h1, h2, Calls.callWith_builtin rfl (PySem.evalArgs_none (hm pins s1 σ H1 x [] v [] Q β1 st1 dx [] I1 r1 .nil S1 v1 (VRs.nil.mpr rfl) p1))⟩

/-! ### slices -/
def kO0 : Env3 → Sto → R (Option Int) := fun _ st => .ok none st
def kO1 (a : KE) : Env3 → Sto → R (Option Int) := fun ρ st => (a ρ st).bind fun d st1 => match d with
  | .int i => .ok (some i) st1
  | _ => .bad
def liftO (K : PySem.W.Frag) (mg : Str → Option Value) (W : WX) (k : Env3 → Sto → R (Option Int)) : TO := fun σ H Q => ∃ β ρ st, Sim K mg β st H ∧ ER K β H ρ σ ∧ PostA K mg W σ (fun o _ H' => Q o H') β H (k ρ st)
theorem o_none : PO X none (liftO X.K X.mg W kO0) := ⟨fun pins s σ H Q I ⟨β, ρ, st, S, E, p⟩ => po_none.run pins s σ H Q I (p β H (Ext.refl _ _) S)⟩
theorem o_some (h : PE X a (lift X.K X.mg W ka)) : PO X (some a) (liftO X.K X.mg W (kO1 ka)) := ⟨fun pins s σ H Q I ⟨β, ρ, st, S, E, p⟩ => (po_some h).run pins s σ H Q I (lift.bind S E p fun d v β1 H1 st1 e1 S1 E1 r1 p1 => by
    cases d with
    | int i => exact ⟨i, VR.int.mp r1, p1 β1 H1 (Ext.refl _ _) S1⟩
    | _ => exact p1.elim)⟩
theorem liftO.bind {α : Type} {σ : L2.St} {ok : α → List Addr → Hp → Prop} {β : List Addr} {H : Hp} {ρ : Env3} {st : Sto} {k : Env3 → Sto → R (Option Int)} {f : Option Int → Sto → R α} {Q : Option Int → Hp → Prop} (S : Sim X.K X.mg β st H) (E : ER X.K β H ρ σ)
    (h : PostA X.K X.mg W σ ok β H ((k ρ st).bind f))
    (hq : ∀ b β' H' st', Ext β H β' H' → Sim X.K X.mg β' st' H' → ER X.K β' H' ρ σ → PostA X.K X.mg W σ ok β' H' (f b st') → Q b H') : liftO X.K X.mg W k σ H Q := by
  refine ⟨β, ρ, st, S, E, ?_⟩
  cases hm : k ρ st with
  | ok a st' =>
    rw [hm] at h
    exact fun β' H' e S' => hq a β' H' st' e S' (E.mono e) (PostA.mono e h)
  | exn x st' => rw [hm] at h; exact h
  | bad => rw [hm] at h; exact h
def cutD (xs : List D) (lo hi : Option Int) : List D := (xs.drop (HT.sIx xs.length 0 lo)).take (HT.sIx xs.length xs.length hi - HT.sIx xs.length 0 lo)
theorem cutD_rel {K : PySem.W.Frag} {β : List Addr} {H : Hp} {ds : List D} {vs : List V} (r : VRs K β H ds vs) (lo hi : Option Int) : VRs K β H (cutD ds lo hi) (cutV vs lo hi) := by
  unfold cutD cutV
  rw [r.length]
  exact (r.drop _).take _
def slD (d : D) (lo hi : Option Int) (st : Sto) : R D := match d with
  | .tup xs => .ok (.tup (cutD xs lo hi)) st
  | .str x => if x.length ≤ 16777216 then .ok (.str (cutS x lo hi)) st else .bad
  | .frz xs => .ok (.loc st.length) (st ++ [.lst (cutD xs lo hi)])
  | .loc n => match st[n]? with
    | some (.lst xs) => .ok (.loc st.length) (st ++ [.lst (cutD xs lo hi)])
    | _ => .bad
  | _ => .bad
def kSl (a : KE) (lo hi : Env3 → Sto → R (Option Int)) : KE := fun ρ st => (a ρ st).bind fun d st1 => (lo ρ st1).bind fun l st2 => (hi ρ st2).bind fun u st3 => slD d l u st3
theorem q_slice {lo hi : Option Expr} {p2 : Pos} {kl kh : Env3 → Sto → R (Option Int)} (he : PE X a (lift X.K X.mg W ka)) (hl : PO X lo (liftO X.K X.mg W kl)) (hu : PO X hi (liftO X.K X.mg W kh)) : PE X (.Subscript a (.Slice lo hi none p2) pos) (lift X.K X.mg W (kSl ka kl kh)) :=
  PE.imp (pe_slice (sl_tupA.or (sl_list.or sl_str)) he hl hu) fun σ H Q ⟨β, ρ, st, S, E, p⟩ => lift.bind S E p fun d v β1 H1 st1 e1 S1 E1 r1 p1 =>
    liftO.bind S1 E1 p1 fun l β2 H2 st2 e2 S2 E2 p2 => liftO.bind S2 E2 p2 fun u β3 H3 st3 e3 S3 E3 p3 => by
      have r3 := VR.mono e3 _ _ (VR.mono e2 _ _ r1)
      cases d with
      | tup xs =>
        obtain ⟨q, vs, rfl, h1, h2⟩ := VR.tup.mp r3
        refine .inl ⟨q, vs, rfl, h1, fun hw => ?_, fun _ z hz => ?_⟩
        · refine p3 β3 H3 (Ext.refl _ _) S3 _ (VR.tup.mpr ⟨q, vs, rfl, h1, ?_⟩)
          have hc : cutD xs l u = xs := by
            unfold cutD
            rw [← h2.length, hw.1, hw.2, List.drop_zero, Nat.sub_zero, h2.length]
            exact List.take_length
          rw [hc]; exact h2
        · exact p3 β3 _ (ext_new0 hz) (S3.new0 hz) _ (VR.tup.mpr ⟨z, _, rfl, SqT.of upd_same, VRs.mono (ext_new0 hz) _ _ (cutD_rel h2 l u)⟩)
      | str x =>
        unfold slD at p3
        simp only at p3
        split at p3
        · rename_i hz
          exact .inr (.inr ⟨x, VR.str.mp r3, szl hz, p3 β3 H3 (Ext.refl _ _) S3 _ (VR.str.mpr rfl)⟩)
        · exact p3.elim
      | frz xs =>
        obtain ⟨q, vs, rfl, h1, h2⟩ := VR.frz.mp r3
        refine .inr (.inl ⟨q, vs, rfl, h1.sq, fun z hz => ?_⟩)
        obtain ⟨x1, x2, x3⟩ := newLst S3 (cutD_rel h2 l u) hz
        exact p3 _ _ x1 x2 _ x3
      | loc n =>
        obtain ⟨q, h1, rfl⟩ := VR.loc.mp r3
        obtain ⟨o, h2, h3⟩ := S3.at h1
        unfold slD at p3
        simp only [h2] at p3
        cases o with
        | lst xs =>
          obtain ⟨vs, h4, h5⟩ := h3
          refine .inr (.inl ⟨q, vs, rfl, SqL.of h4, fun z hz => ?_⟩)
          obtain ⟨x1, x2, x3⟩ := newLst S3 (cutD_rel h5 l u) hz
          exact p3 _ _ x1 x2 _ x3
        | _ => exact p3.elim
      | _ => exact p3.elim
end
end L3

namespace L3
open PySem PySem.Spec PyProof.Rows L2

/-! ### defs of the text -/
/-- what a def's call means -/
abbrev Run := List D → Sto → R D
/-- the promise «as run says» of a def of n parameters -/
def spOf (K : PySem.W.Frag) (mg : Str → Option Value) (n : Nat) (run : Run) : Sp := fun vs H Q E => vs.length = n ∧ ∃ β st ds, Sim K mg β st H ∧ VRs K β H ds vs ∧ PostA K mg (fun c dd _ H' => E c dd H') [] (okE K Q) β H (run ds st)
theorem spOf.len {K : PySem.W.Frag} {mg : Str → Option Value} {n : Nat} {run : Run} : ∀ vs H Q E, spOf K mg n run vs H Q E → vs.length = n := fun _ _ _ _ h => h.1

section
variable {X : Cx} {W : WX} {e a b c : Expr} {es rest : List Expr} {pos : Pos} {ka kb kcc : KE} {kt kt' : KT} {kas : KA}
/-- what a callee lets out comes to this context's wish -/
theorem pass3 (tk : Takes X W) (σ : L2.St) : PassesAt (L2.CX X.prog X.w) X σ (fun c dd H' => W c dd σ H') := passAt tk σ
theorem PostA.toσ {α : Type} {K : PySem.W.Frag} {mg : Str → Option Value} {W : WX} {σ : L2.St} {ok : α → List Addr → Hp → Prop} {β : List Addr} {H : Hp} : ∀ {r : R α}, PostA K mg W σ ok β H r → PostA K mg (fun c dd _ H' => W c dd σ H') [] ok β H r
  | .ok _ _, h => h
  | .exn _ _, h => h
  | .bad, h => h
theorem q_call {x : Str} {p : Pos} {k n : Nat} {f : Addr} {fd : FuncData} {ps : List Str} {run : Run} (tk : Takes X W) (F : FnOk X.prog X.w X.K X.mg X.base (L2.CX X.prog X.w) k f fd ps (spOf X.K X.mg n run)) (hr : Room k X.A) (hg : Gl X x) (hm : X.mg x = some (.ref f)) (hk : PySem.W.keepIn X.K (.ref f) = true) (hb : Binds X.K fd ps [])
    (ha : PA X (a :: es) (liftA X.K X.mg W kas)) (hn : (a :: es).length = n := by rfl) (hl : ∀ ρ st ds st', kas ρ st = .ok ds st' → ds.length = n) (hdb : (x == ("__debug__" : Str)) = false := by decide) (he : starEach (a :: es) X.env = (false, eval a X.env) :: starEach es X.env := by rfl) (hpl : (backTo pos (starEach es X.env)).any (·.1) = false := by rfl) :
    PE X (.Call (.Name x p) (a :: es) [] pos) (lift X.K X.mg W (kF run kas)) :=
  PE.imp (pe_callSD F hr hg hm hk hb .nil (fun σ => pass3 tk σ) ha hdb he hpl) fun σ H Q ⟨β, ρ, st, S, E, q⟩ => by
    refine ⟨β, ρ, st, S, E, ?_⟩
    unfold kF at q
    cases hm : kas ρ st with
    | ok ds st' =>
      rw [hm] at q
      intro β1 H1 e1 S1 vs r1
      rw [List.append_nil]
      exact ⟨by rw [r1.length]; exact hl ρ st ds st' hm, β1, st', ds, S1, r1, PostA.toσ (PostA.mono e1 q)⟩
    | exn x st' => rw [hm] at q; exact q
    | bad => rw [hm] at q; exact q
/-- the number of arguments -/
theorem kA0_len : ∀ (ρ : Env3) st ds st', kA0 ρ st = .ok ds st' → ds.length = 0 := fun ρ st ds st' h => by cases h; rfl
theorem kA1_len {ka : KE} {kr : KA} {n : Nat} (h : ∀ (ρ : Env3) st ds st', kr ρ st = .ok ds st' → ds.length = n) : ∀ (ρ : Env3) st ds st', kA1 ka kr ρ st = .ok ds st' → ds.length = n + 1 := fun ρ st ds st' q => by
  unfold kA1 at q
  cases h1 : ka ρ st with
  | ok x st1 =>
    rw [h1] at q
    simp only [R.bind_ok] at q
    cases h2 : kr ρ st1 with
    | ok xs st2 => rw [h2] at q; cases q; rw [List.length_cons, h ρ st1 xs _ h2]
    | exn _ _ => rw [h2] at q; cases q
    | bad => rw [h2] at q; cases q
  | exn _ _ => rw [h1] at q; cases q
  | bad => rw [h1] at q; cases q

/-! ### statements -/
end
inductive RS where
  | nx (ρ : Env3) (st : Sto) | rt (d : D) (st : Sto) | bk (ρ : Env3) (st : Sto) | ct (ρ : Env3) (st : Sto) | exn (x : XN) (ρ : Env3) (st : Sto) | bad
abbrev KS := Env3 → Sto → RS
def PostS (K : PySem.W.Frag) (mg : Str → Option Value) (W : WX) (Dn : Ends) (β : List Addr) (H : Hp) : RS → Prop
  | .nx ρ st => ∀ β' H' σ', Ext β H β' H' → Sim K mg β' st H' → ER K β' H' ρ σ' → Dn.nx σ' H'
  | .bk ρ st => ∀ β' H' σ', Ext β H β' H' → Sim K mg β' st H' → ER K β' H' ρ σ' → Dn.bk σ' H'
  | .ct ρ st => ∀ β' H' σ', Ext β H β' H' → Sim K mg β' st H' → ER K β' H' ρ σ' → Dn.ct σ' H'
  | .rt d st => ∀ β' H' v, Ext β H β' H' → Sim K mg β' st H' → VR K β' H' d v → Dn.rt v H'
  | .exn x ρ st => ∀ β' H' σ' c dd, Ext β H β' H' → Sim K mg β' st H' → ER K β' H' ρ σ' → XR K mg β' H' x c dd → W c dd σ' H'
  | .bad => False
theorem PostS.mono {K : PySem.W.Frag} {mg : Str → Option Value} {W : WX} {Dn : Ends} {β β1 : List Addr} {H H1 : Hp} (e : Ext β H β1 H1) : ∀ {r : RS}, PostS K mg W Dn β H r → PostS K mg W Dn β1 H1 r
  | .nx _ _, h => fun β' H' σ' e' => h β' H' σ' (e.trans e')
  | .bk _ _, h => fun β' H' σ' e' => h β' H' σ' (e.trans e')
  | .ct _ _, h => fun β' H' σ' e' => h β' H' σ' (e.trans e')
  | .rt _ _, h => fun β' H' v e' => h β' H' v (e.trans e')
  | .exn _ _ _, h => fun β' H' σ' c dd e' => h β' H' σ' c dd (e.trans e')
  | .bad, h => h
def R.toS {α : Type} (m : R α) (ρ : Env3) (f : α → Sto → RS) : RS := match m with
  | .ok a st => f a st
  | .exn x st => .exn x ρ st
  | .bad => .bad
@[simp] theorem R.toS_ok {α : Type} (a : α) (st : Sto) (ρ : Env3) (f : α → Sto → RS) : (R.ok a st).toS ρ f = f a st := rfl
@[simp] theorem R.toS_exn {α : Type} (x : XN) (st : Sto) (ρ : Env3) (f : α → Sto → RS) : (R.exn x st : R α).toS ρ f = .exn x ρ st := rfl
@[simp] theorem R.toS_bad {α : Type} (ρ : Env3) (f : α → Sto → RS) : (R.bad : R α).toS ρ f = .bad := rfl
def RS.andThen (r : RS) (f : KS) : RS := match r with
  | .nx ρ st => f ρ st
  | r => r
@[simp] theorem RS.andThen_nx (ρ : Env3) (st : Sto) (f : KS) : (RS.nx ρ st).andThen f = f ρ st := rfl
@[simp] theorem RS.andThen_rt (d : D) (st : Sto) (f : KS) : (RS.rt d st).andThen f = .rt d st := rfl
@[simp] theorem RS.andThen_bk (ρ : Env3) (st : Sto) (f : KS) : (RS.bk ρ st).andThen f = .bk ρ st := rfl
@[simp] theorem RS.andThen_ct (ρ : Env3) (st : Sto) (f : KS) : (RS.ct ρ st).andThen f = .ct ρ st := rfl
@[simp] theorem RS.andThen_exn (x : XN) (ρ : Env3) (st : Sto) (f : KS) : (RS.exn x ρ st).andThen f = .exn x ρ st := rfl
@[simp] theorem RS.andThen_bad (f : KS) : RS.bad.andThen f = .bad := rfl
def liftS (K : PySem.W.Frag) (mg : Str → Option Value) (W : WX) (k : KS) : TS := fun Dn σ H => ∃ β ρ st, Sim K mg β st H ∧ ER K β H ρ σ ∧ PostS K mg W Dn β H (k ρ st)

def sNil : KS := fun ρ st => .nx ρ st
def sSeq (a b : KS) : KS := fun ρ st => (a ρ st).andThen b
def sExpr (a : KE) : KS := fun ρ st => (a ρ st).toS ρ fun _ st1 => .nx ρ st1
def sSet (i : Nat) (a : KE) : KS := fun ρ st => (a ρ st).toS ρ fun d st1 => .nx (ρ.set i (some d)) st1
def sRet (a : KE) : KS := fun ρ st => (a ρ st).toS ρ fun d st1 => .rt d st1
def sRetN : KS := fun ρ st => .rt .non st
def sIf (c : KT) (a b : KS) : KS := fun ρ st => (c ρ st).toS ρ fun k st1 => if k = true then a ρ st1 else b ρ st1
def sBreak : KS := fun ρ st => .bk ρ st
def sCont : KS := fun ρ st => .ct ρ st
def sNever : KS := fun ρ st => .bad
def sPar2 (i j : Nat) (a b : KE) : KS := fun ρ st => (a ρ st).toS ρ fun x st1 => (b ρ st1).toS ρ fun y st2 => .nx ((ρ.set i (some x)).set j (some y)) st2
/-- targets -/
abbrev KG := D → Env3 → Option Env3
def gN (i : Nat) : KG := fun d ρ => some (ρ.set i (some d))
abbrev KGs := List D → Env3 → Option Env3
def gs0 : KGs := fun ds ρ => match ds with
  | [] => some ρ
  | _ => none
def gs1 (g : KG) (r : KGs) : KGs := fun ds ρ => match ds with
  | d :: ds => (g d ρ).bind (r ds)
  | [] => none
def gT (n : Nat) (g : KGs) : KG := fun d ρ => match d with
  | .tup ds => if ds.length = n then g ds ρ else none
  | _ => none
def sAsg (g : KG) (a : KE) : KS := fun ρ st => (a ρ st).toS ρ fun d st1 => match g d ρ with
  | some ρ' => .nx ρ' st1
  | none => .bad
/-- o[i] = e -/
def sSetIx (f : D → D → D → Sto → Option Sto) (o i a : KE) : KS := fun ρ st => (a ρ st).toS ρ fun v st1 => (o ρ st1).toS ρ fun x st2 => (i ρ st2).toS ρ fun y st3 => match f x y v st3 with
  | some st4 => .nx ρ st4
  | none => .bad

section
variable {X : Cx} {W : WX} {e a b c : Expr} {es rest : List Expr} {pos : Pos} {ka kb kcc : KE} {kt kt' : KT} {kas : KA} {st : Stmt} {sts p q : List Stmt} {ks ks' : KS}
theorem lift.toS {σ : L2.St} {Dn : Ends} {β : List Addr} {H : Hp} {ρ : Env3} {st : Sto} {k : KE} {f : D → Sto → RS} {Q : VK} (S : Sim X.K X.mg β st H) (E : ER X.K β H ρ σ) (h : PostS X.K X.mg W Dn β H ((k ρ st).toS ρ f))
    (hq : ∀ d v β' H' st', Ext β H β' H' → Sim X.K X.mg β' st' H' → ER X.K β' H' ρ σ → VR X.K β' H' d v → PostS X.K X.mg W Dn β' H' (f d st') → Q v H') : lift X.K X.mg W k σ H Q := by
  refine ⟨β, ρ, st, S, E, ?_⟩
  cases hm : k ρ st with
  | ok a st' =>
    rw [hm] at h
    exact fun β' H' e S' v r => hq a v β' H' st' e S' (E.mono e) r (PostS.mono e h)
  | exn x st' => rw [hm] at h; exact fun β' H' c dd e S' xr => h β' H' σ c dd e S' (E.mono e) xr
  | bad => rw [hm] at h; exact h
theorem liftT.toS {σ : L2.St} {Dn : Ends} {β : List Addr} {H : Hp} {ρ : Env3} {st : Sto} {k : KT} {f : Bool → Sto → RS} {Q : Bool → Hp → Prop} (S : Sim X.K X.mg β st H) (E : ER X.K β H ρ σ) (h : PostS X.K X.mg W Dn β H ((k ρ st).toS ρ f))
    (hq : ∀ d β' H' st', Ext β H β' H' → Sim X.K X.mg β' st' H' → ER X.K β' H' ρ σ → PostS X.K X.mg W Dn β' H' (f d st') → Q d H') : liftT X.K X.mg W k σ H Q := by
  refine ⟨β, ρ, st, S, E, ?_⟩
  cases hm : k ρ st with
  | ok a st' =>
    rw [hm] at h
    exact fun β' H' e S' => hq a β' H' st' e S' (E.mono e) (PostS.mono e h)
  | exn x st' => rw [hm] at h; exact fun β' H' c dd e S' xr => h β' H' σ c dd e S' (E.mono e) xr
  | bad => rw [hm] at h; exact h
theorem s_nil : PSs X [] (liftS X.K X.mg W sNil) := PSs.imp pss_nil fun Dn σ H ⟨β, ρ, st, S, E, p⟩ => p β H σ (Ext.refl _ _) S E
theorem s_cons (h1 : PS X st (liftS X.K X.mg W ks)) (h2 : PSs X sts (liftS X.K X.mg W ks')) : PSs X (st :: sts) (liftS X.K X.mg W (sSeq ks ks')) :=
  PSs.imp (pss_cons h1 h2) fun Dn σ H ⟨β, ρ, st, S, E, p⟩ => by
    refine ⟨β, ρ, st, S, E, ?_⟩
    unfold sSeq at p
    cases hm : ks ρ st with
    | nx ρ1 st1 => rw [hm] at p; exact fun β' H' σ' e S' E' => ⟨β', ρ1, st1, S', E', PostS.mono e p⟩
    | rt d st1 => rw [hm] at p; exact p
    | bk _ _ => rw [hm] at p; exact p
    | ct _ _ => rw [hm] at p; exact p
    | exn _ _ _ => rw [hm] at p; exact p
    | bad => rw [hm] at p; exact p
theorem s_one (h1 : PS X st (liftS X.K X.mg W ks)) : PSs X [st] (liftS X.K X.mg W ks) := pss_one h1
theorem s_expr (he : PE X e (lift X.K X.mg W ka)) (hs : swapsWith e none pos.line X.env = pure false := by rfl) : PS X (.Expr e pos) (liftS X.K X.mg W (sExpr ka)) :=
  PS.imp (ps_expr he hs) fun Dn σ H ⟨β, ρ, st, S, E, p⟩ => lift.toS S E p fun d v β1 H1 st1 e1 S1 E1 r1 p1 => p1 β1 H1 σ (Ext.refl _ _) S1 E1
theorem s_set {i : Nat} {x : Str} {pos' : Pos} (hN : X.N.Nodup) (hi : X.N[i]? = some x) (hx : Loc X.env.scope x) (he : PE X e (lift X.K X.mg W ka)) (hs : swapsWith e (some (.Name x pos')) pos.line X.env = pure false := by rfl) (hf : X.fn x = true ∨ X.env.scope.names.lookup x = some .local := by first | exact .inl rfl | exact .inr rfl | assumption) :
    PS X (.Assign [.Name x pos'] e pos) (liftS X.K X.mg W (sSet i ka)) :=
  PS.imp (ps_set hN hi hx he hs hf) fun Dn σ H ⟨β, ρ, st, S, E, p⟩ => lift.toS S E p fun d v β1 H1 st1 e1 S1 E1 r1 p1 => p1 β1 H1 _ (Ext.refl _ _) S1 (E1.set i r1)
theorem s_ret (he : PE X e (lift X.K X.mg W ka)) : PS X (.Return (some e) pos) (liftS X.K X.mg W (sRet ka)) :=
  PS.imp (ps_ret he) fun Dn σ H ⟨β, ρ, st, S, E, p⟩ => lift.toS S E p fun d v β1 H1 st1 e1 S1 E1 r1 p1 => p1 β1 H1 _ (Ext.refl _ _) S1 r1
theorem s_retN : PS X (.Return none pos) (liftS X.K X.mg W sRetN) :=
  PS.imp ps_retN fun Dn σ H ⟨β, ρ, st, S, E, p⟩ => p β H _ (Ext.refl _ _) S (VR.non.mpr rfl)
theorem s_if (hc : PT X c (liftT X.K X.mg W kt)) (ha : PSs X p (liftS X.K X.mg W ks)) (hb : PSs X q (liftS X.K X.mg W ks')) : PS X (.If c p q pos) (liftS X.K X.mg W (sIf kt ks ks')) :=
  PS.imp (ps_if hc ha hb) fun Dn σ H ⟨β, ρ, st, S, E, p⟩ => liftT.toS S E p fun d β1 H1 st1 e1 S1 E1 p1 => by
    cases d with
    | true => exact iteT ⟨β1, ρ, st1, S1, E1, p1⟩
    | false => exact iteF ⟨β1, ρ, st1, S1, E1, p1⟩
theorem s_pass : PS X (.Pass pos) (liftS X.K X.mg W sNil) := PS.imp ps_pass fun Dn σ H ⟨β, ρ, st, S, E, p⟩ => p β H σ (Ext.refl _ _) S E
theorem s_break : PS X (.Break pos) (liftS X.K X.mg W sBreak) := PS.imp ps_break fun Dn σ H ⟨β, ρ, st, S, E, p⟩ => p β H σ (Ext.refl _ _) S E
theorem s_cont : PS X (.Continue pos) (liftS X.K X.mg W sCont) := PS.imp ps_continue fun Dn σ H ⟨β, ρ, st, S, E, p⟩ => p β H σ (Ext.refl _ _) S E
theorem s_doc {x j pos'} : PS X (.Expr (.Constant (.str x) j pos') pos) (liftS X.K X.mg W sNil) := PS.imp ps_doc fun Dn σ H ⟨β, ρ, st, S, E, p⟩ => p β H σ (Ext.refl _ _) S E
theorem s_never : PS X st (liftS X.K X.mg W sNever) := PS.imp ps_never fun Dn σ H ⟨β, ρ, st, S, E, p⟩ => p.elim
theorem s_par2 {i j : Nat} {x y : Str} {px py pt : Pos} {kt k2 pt2} (hc : X.calm = true) (hN : X.N.Nodup) (hi : X.N[i]? = some x) (hj : X.N[j]? = some y) (hij : i ≠ j)
    (hx : X.env.scope.names.lookup x = some .local) (hy : X.env.scope.names.lookup y = some .local) (ha : PE X a (lift X.K X.mg W ka)) (hb : PE X b (lift X.K X.mg W kb)) (hst : starEach [a, b] X.env = (false, eval a X.env) :: starEach [b] X.env := by rfl) (hst2 : starEach [b] X.env = (false, eval b X.env) :: starEach [] X.env := by rfl)
    (hw : swappedStores [.Tuple [.Name x px, .Name y py] kt pt] (.Tuple [a, b] k2 pt2) X.env = pure (some [x, y]) := by rfl)
    (hs : swapsWithSole [.Tuple [.Name x px, .Name y py] kt pt] (.Tuple [a, b] k2 pt2) pos.line X.env = pure false := by rfl) :
    PS X (.Assign [.Tuple [.Name x px, .Name y py] kt pt] (.Tuple [a, b] k2 pt2) pos) (liftS X.K X.mg W (sPar2 i j ka kb)) :=
  PS.imp (ps_par hc hN hi hj hij hx hy (pa_cons ha (pa_cons hb pa_nil hst2) hst) hw hs) fun Dn σ H ⟨β, ρ, st, S, E, p⟩ => lift.toS S E p fun d v β1 H1 st1 e1 S1 E1 r1 p1 => lift.toS S1 E1 p1 fun d2 v2 β2 H2 st2 e2 S2 E2 r2 p2 =>
    ⟨v, v2, rfl, p2 β2 H2 _ (Ext.refl _ _) S2 ((E2.set i (VR.mono e2 _ _ r1)).set j r2)⟩

/-! ### targets -/
theorem wipe_set {σ : L2.St} {i : Nat} {o : Option V} : ∀ {us : List Nat}, i ∈ us → wipe (σ.set i o) us = wipe σ us
  | u :: us, h => by
    unfold wipe
    by_cases hi : i ∈ us
    · rw [wipe_set hi]
    · have e : i = u := by
        rcases List.mem_cons.mp h with h | h
        · exact h
        · exact absurd h hi
      subst e
      have : wipe (σ.set i o) us = (wipe σ us).set i o := by
        clear h
        induction us with
        | nil => rfl
        | cons v vs ih =>
          have hv : i ≠ v := fun z => hi (by rw [z]; exact List.mem_cons_self)
          have hvs : i ∉ vs := fun z => hi (List.mem_cons_of_mem _ z)
          show (wipe (σ.set i o) vs).set v none = ((wipe σ vs).set v none).set i o
          rw [ih hvs, List.set_comm _ _ hv]
      rw [this, List.set_set]
def Wip (vs : List Nat) (σ σ' : L2.St) : Prop := ∀ us, (∀ i ∈ vs, i ∈ us) → wipe σ' us = wipe σ us
def PGK (X : Cx) (vs : List Nat) (g : KG) (t : TG) : Prop := ∀ d v σ H ρ β Q ρ', VR X.K β H d v → ER X.K β H ρ σ → g d ρ = some ρ' → (∀ σ', ER X.K β H ρ' σ' → Wip vs σ σ' → Q σ' H) → t v σ H Q
def PGKs (X : Cx) (is : List Nat) (g : KGs) (t : TGs) : Prop := ∀ ds vs σ H ρ β Q ρ', VRs X.K β H ds vs → ER X.K β H ρ σ → g ds ρ = some ρ' → (∀ σ', ER X.K β H ρ' σ' → Wip is σ σ' → Q σ' H) → t vs σ H Q
structure TGt (X : Cx) (tg : Expr) (vs : List Nat) (g : KG) : Prop where
  ex : ∃ t, PG X tg t ∧ PGK X vs g t
structure TGts (X : Cx) (tgs : List Expr) (vs : List Nat) (g : KGs) : Prop where
  ex : ∃ t, PGs X tgs t ∧ PGKs X vs g t
theorem t_name {i : Nat} {x : Str} (hN : X.N.Nodup) (hi : X.N[i]? = some x) (hx : Loc X.env.scope x) (hf : X.fn x = true ∨ X.env.scope.names.lookup x = some .local := by first | exact .inl rfl | exact .inr rfl | assumption) : TGt X (.Name x pos) [i] (gN i) :=
  ⟨_, pg_name hN hi hx hf, fun d v σ H ρ β Q ρ' r E h k => by cases h; exact k _ (E.set i r) fun us hu => wipe_set (hu i List.mem_cons_self)⟩
theorem ts_nil : TGts X [] [] gs0 := ⟨_, pgs_nil, fun ds vs σ H ρ β Q ρ' r E h k => by
  cases ds with
  | nil => cases h; exact ⟨VRs.nil.mp r, k _ E fun _ _ => rfl⟩
  | cons _ _ => cases h⟩
theorem ts_cons {e : Expr} {es : List Expr} {is js : List Nat} {g : KG} {gs : KGs} (h1 : TGt X e is g) (h2 : TGts X es js gs) (hs : (assignEach (e :: es) X.env).map (·.2) = assign e X.env :: (assignEach es X.env).map (·.2) := by rfl) : TGts X (e :: es) (is ++ js) (gs1 g gs) := by
  obtain ⟨t, p, k⟩ := h1.ex
  obtain ⟨ts, ps, kks⟩ := h2.ex
  refine ⟨_, pgs_cons p ps hs, fun ds vs σ H ρ β Q ρ' r E h kq => ?_⟩
  cases ds with
  | nil => cases h
  | cons d ds =>
    obtain ⟨v, vr, rfl, r1, r2⟩ := VRs.cons.mp r
    obtain ⟨ρ1, h1, h2⟩ := Option.bind_eq_some_iff.mp (show (g d ρ).bind (gs ds) = some ρ' from h)
    exact ⟨v, vr, rfl, k d v σ H ρ β _ ρ1 r1 E h1 fun σ1 E1 w1 => kks ds vr σ1 H ρ1 β Q ρ' r2 E1 h2 fun σ2 E2 w2 => kq σ2 E2 fun us hu =>
      (w2 us fun i hi => hu i (List.mem_append_right _ hi)).trans (w1 us fun i hi => hu i (List.mem_append_left _ hi))⟩
theorem t_tup {es : List Expr} {is : List Nat} {k n : Nat} {gs : KGs} (hc : X.calm = true) (h : TGts X es is gs) (hn : (assignEach es X.env).length = n := by rfl) (hst : (assignEach es X.env).findIdx? (·.1) = none := by rfl) : TGt X (.Tuple es k pos) is (gT n gs) := by
  obtain ⟨ts, ps, kks⟩ := h.ex
  refine ⟨_, pg_tup hc ps hn hst, fun d v σ H ρ β Q ρ' r E h kq => ?_⟩
  cases d with
  | tup ds =>
    obtain ⟨q, vs, rfl, h1, h2⟩ := VR.tup.mp r
    unfold gT at h
    simp only at h
    split at h
    · rename_i hl
      exact ⟨q, vs, rfl, h1, by rw [h2.length]; exact hl, kks ds vs σ H ρ β Q ρ' h2 E h kq⟩
    · cases h
  | _ => cases h
theorem s_asg {tg : Expr} {is : List Nat} {g : KG} (hg : TGt X tg is g) (he : PE X e (lift X.K X.mg W ka)) (hs : swapsWithSole [tg] e pos.line X.env = pure false := by rfl) (hw : swappedStores [tg] e X.env = pure none := by rfl)
    (h1 : (assignEach [tg] X.env).map (·.2) = [assign tg X.env] := by rfl) : PS X (.Assign [tg] e pos) (liftS X.K X.mg W (sAsg g ka)) := by
  obtain ⟨t, p, k⟩ := hg.ex
  exact PS.imp (ps_asg he p hs hw h1) fun Dn σ H ⟨β, ρ, st, S, E, p⟩ => lift.toS S E p fun d v β1 H1 st1 e1 S1 E1 r1 p1 => by
    split at p1
    · rename_i ρ' hg
      exact k d v σ H1 ρ β1 _ ρ' r1 E1 hg fun σ' E' _ => p1 β1 H1 σ' (Ext.refl _ _) S1 E'
    · exact p1.elim

/-! ### o[i] = e -/
def SetS (X : Cx) (t : TSet) (f : D → D → D → Sto → Option Sto) : Prop :=
  ∀ H o i v β st dx di dv st' (Q : Hp → Prop), Sim X.K X.mg β st H → VR X.K β H dx o → VR X.K β H di i → VR X.K β H dv v → f dx di dv st = some st' → (∀ H', Ext β H β H' → Sim X.K X.mg β st' H' → Q H') → t o i v H Q
theorem s_setix {o i : Expr} {ko ki : KE} {t : TSet} {f : D → D → D → Sto → Option Sto} {tpos : Pos} (hs : PSet X t) (hf : SetS X t f) (ho : PE X o (lift X.K X.mg W ko)) (hi : PE X i (lift X.K X.mg W ki)) (he : PE X e (lift X.K X.mg W ka))
    (ha : ∀ v, assign (.Subscript o i tpos) X.env v = (do
      let ov ← holding [v] (eval o X.env)
      let iv ← holding [v, ov] (eval i X.env)
      standAt tpos
      holding [v, ov, iv] (setItem ov iv v)
      release [v, ov, iv] []) := by intro _; rfl) (hsw : swapsWithSole [.Subscript o i tpos] e pos.line X.env = pure false := by rfl) (hw : swappedStores [.Subscript o i tpos] e X.env = pure none := by rfl)
    (h1 : (assignEach [.Subscript o i tpos] X.env).map (·.2) = [assign (.Subscript o i tpos) X.env] := by rfl) : PS X (.Assign [.Subscript o i tpos] e pos) (liftS X.K X.mg W (sSetIx f ko ki ka)) :=
  PS.imp (ps_asg he (pg_sub ho hi hs ha) hsw hw h1) fun Dn σ H ⟨β, ρ, st, S, E, p⟩ => lift.toS S E p fun d v β1 H1 st1 e1 S1 E1 r1 p1 => lift.toS S1 E1 p1 fun dx x β2 H2 st2 e2 S2 E2 r2 p2 => lift.toS S2 E2 p2 fun dy y β3 H3 st3 e3 S3 E3 r3 p3 => by
    split at p3
    · rename_i st4 hg
      exact hf H3 x y v β3 st3 dx dy d st4 _ S3 (VR.mono e3 _ _ r2) r3 (VR.mono e3 _ _ (VR.mono e2 _ _ r1)) hg fun H' e' S' => p3 β3 H' σ e' S' (E3.mono e')
    · exact p3.elim
def setL (o i v : D) (st : Sto) : Option Sto := match o, i with
  | .loc n, .int k => match st[n]? with
    | some (.lst xs) => match ixN xs.length k with
      | some j => some (st.set n (.lst (xs.set j v)))
      | none => none
    | _ => none
  | _, _ => none
theorem setL_ok : SetS X rSetL setL := by
  intro H o i v β st dx di dv st' Q S r1 r2 r3 h k
  cases dx with
  | loc n =>
    cases di with
    | int j =>
      obtain ⟨a, h1, rfl⟩ := VR.loc.mp r1
      cases VR.int.mp r2
      obtain ⟨ob, h2, h3⟩ := S.at h1
      simp only [setL, h2] at h
      cases ob with
      | lst xs =>
        simp only at h
        split at h
        · rename_i m hm
          cases h
          obtain ⟨vs, h4, h5⟩ := h3
          refine ⟨a, vs, j, m, rfl, rfl, h4, by rw [h5.length]; exact hm, k _ (S.ext h1) (S.set h1 ⟨_, upd_same, VRs.mono (S.ext h1) _ _ (h5.set m r3)⟩)⟩
        · cases h
      | _ => cases h
    | _ => cases h
  | _ => cases h
end
end L3

namespace L3
open PySem PySem.Spec PyProof.Rows L2
/-! ### what is walked -/
inductive Src where
  | its (xs : List D) | lv (n : Nat)
def Src.at (s : Src) (st : Sto) (i : Nat) : Option (Option D) := match s with
  | .its xs => some xs[i]?
  | .lv n => match st[n]? with
    | some (.lst xs) => some xs[i]?
    | _ => none
def Src.fuel (s : Src) (st : Sto) : Nat := match s with
  | .its xs => xs.length + 1
  | .lv n => match st[n]? with
    | some (.lst xs) => xs.length + 1
    | _ => 0
abbrev KI := Env3 → Sto → R Src
def ItOk (K : PySem.W.Frag) (mg : Str → Option Value) (β₀ : List Addr) (H₀ : Hp) (src : Src) (J : It) : Prop :=
  ∀ i β H st, Ext β₀ H₀ β H → Sim K mg β st H →
    (∀ d, src.at st i = some (some d) → J.go i H ∧ ∀ x H', J.yld i H x H' → ∃ β', Ext β H β' H' ∧ Sim K mg β' st H' ∧ VR K β' H' d x) ∧ (src.at st i = some none → J.stop i H)
def liftI (K : PySem.W.Frag) (mg : Str → Option Value) (W : WX) (k : KI) : TI := fun σ H R => ∃ β ρ st, Sim K mg β st H ∧ ER K β H ρ σ ∧ PostA K mg W σ (fun src β' H' => ∀ J, ItOk K mg β' H' src J → R J H') β H (k ρ st)
theorem PI.imp {X : Cx} {tg e : Expr} {t t' : TI} (h : PI X tg e t) (i : ∀ σ H R, t' σ H R → t σ H R) : PI X tg e t' := ⟨fun pins s σ H R I q => h.run pins s σ H R I (i σ H R q)⟩

def iL (a : KE) : KI := fun ρ st => (a ρ st).bind fun d st1 => match d with
  | .frz xs => .ok (.its xs) st1
  | .loc n => match st1[n]? with
    | some (.lst _) => .ok (.lv n) st1
    | _ => .bad
  | _ => .bad
def iT (a : KE) : KI := fun ρ st => (a ρ st).bind fun d st1 => match d with
  | .tup xs => .ok (.its xs) st1
  | _ => .bad
def strIts (x : Str) : List D := x.cps.toList.map fun c => .str ⟨#[c]⟩
def iS (a : KE) : KI := fun ρ st => (a ρ st).bind fun d st1 => match d with
  | .str x => if x.length ≤ 16777216 then .ok (.its (strIts x)) st1 else .bad
  | _ => .bad
def rngIts (lo : Int) (n : Nat) : List D := (List.range n).map fun (i : Nat) => .int (lo + (i : Int))
def rngF1 (ds : List D) (st : Sto) : R Src := match ds with
  | [.int j] => if -(2 ^ 62) ≤ j ∧ j < 2 ^ 62 then .ok (.its (rngIts 0 j.toNat)) st else .bad
  | _ => .bad
def rngF2 (ds : List D) (st : Sto) : R Src := match ds with
  | [.int i, .int j] => if -(2 ^ 62) ≤ i ∧ i < 2 ^ 62 ∧ -(2 ^ 62) ≤ j ∧ j < 2 ^ 62 then .ok (.its (rngIts i (j - i).toNat)) st else .bad
  | _ => .bad
def iR1 (a : KA) : KI := fun ρ st => (a ρ st).bind rngF1
def iR2 (a : KA) : KI := fun ρ st => (a ρ st).bind rngF2

section
variable {X : Cx} {W : WX} {tg e a b c : Expr} {es rest : List Expr} {pos p : Pos} {ka kb kcc : KE} {kt kt' : KT} {kas : KA}
theorem i_list (h : PE X a (lift X.K X.mg W ka)) : PI X tg a (liftI X.K X.mg W (iL ka)) :=
  PI.imp (pi_list h) fun σ H R ⟨β, ρ, st, S, E, p⟩ => lift.bind S E p fun d v β1 H1 st1 e1 S1 E1 r1 p1 => by
    cases d with
    | frz xs =>
      obtain ⟨q, vs, rfl, h1, h2⟩ := VR.frz.mp r1
      refine ⟨q, rfl, ⟨vs, h1.sq⟩, p1 β1 H1 (Ext.refl _ _) S1 _ fun i β2 H2 st2 e2 S2 => ⟨fun d hd => ?_, fun hd => ?_⟩⟩
      · have h3 := e2.fzL h1
        have h4 := VRs.mono e2 _ _ h2
        obtain ⟨v, hv, rv⟩ := h4.getD (Option.some.inj hd)
        exact ⟨⟨vs, v, h3.sq, hv⟩, fun x H' ⟨eH, hx⟩ => by subst eH; exact ⟨β2, Ext.refl _ _, S2, by have := hx vs h3.sq; rw [hv] at this; cases this; exact rv⟩⟩
      · exact ⟨vs, (e2.fzL h1).sq, by rw [h2.length]; exact List.getElem?_eq_none_iff.mp (Option.some.inj hd)⟩
    | loc n =>
      obtain ⟨q, h1, rfl⟩ := VR.loc.mp r1
      obtain ⟨o, h2, h3⟩ := S1.at h1
      simp only [h2] at p1
      cases o with
      | lst xs =>
        obtain ⟨vs, h4, h5⟩ := h3
        refine ⟨q, rfl, ⟨vs, SqL.of h4⟩, p1 β1 H1 (Ext.refl _ _) S1 _ fun i β2 H2 st2 e2 S2 => ?_⟩
        have g1 := e2.get h1
        obtain ⟨o2, g2, g3⟩ := S2.at g1
        cases o2 with
        | lst ys =>
          obtain ⟨us, g4, g5⟩ := g3
          refine ⟨fun d hd => ?_, fun hd => ?_⟩
          · simp only [Src.at, g2] at hd
            obtain ⟨v, hv, rv⟩ := g5.getD (Option.some.inj hd)
            exact ⟨⟨us, v, SqL.of g4, hv⟩, fun x H' ⟨eH, hx⟩ => by subst eH; exact ⟨β2, Ext.refl _ _, S2, by have := hx us (SqL.of g4); rw [hv] at this; cases this; exact rv⟩⟩
          · simp only [Src.at, g2] at hd
            exact ⟨us, SqL.of g4, by rw [g5.length]; exact List.getElem?_eq_none_iff.mp (Option.some.inj hd)⟩
        | _ => exact ⟨fun d hd => (by simp only [Src.at, g2] at hd; cases hd), fun hd => (by simp only [Src.at, g2] at hd; cases hd)⟩
      | _ => exact p1.elim
    | _ => exact p1.elim
theorem i_tup (h : PE X a (lift X.K X.mg W ka)) : PI X tg a (liftI X.K X.mg W (iT ka)) :=
  PI.imp (pi_tup h) fun σ H R ⟨β, ρ, st, S, E, p⟩ => lift.bind S E p fun d v β1 H1 st1 e1 S1 E1 r1 p1 => by
    cases d with
    | tup xs =>
      obtain ⟨q, vs, rfl, h1, h2⟩ := VR.tup.mp r1
      refine ⟨q, rfl, ⟨vs, h1⟩, p1 β1 H1 (Ext.refl _ _) S1 _ fun i β2 H2 st2 e2 S2 => ⟨fun d hd => ?_, fun hd => ?_⟩⟩
      · have h3 := e2.sqT h1
        have h4 := VRs.mono e2 _ _ h2
        obtain ⟨v, hv, rv⟩ := h4.getD (Option.some.inj hd)
        exact ⟨⟨vs, v, h3, hv⟩, fun x H' ⟨eH, hx⟩ => by subst eH; exact ⟨β2, Ext.refl _ _, S2, by have := hx vs h3; rw [hv] at this; cases this; exact rv⟩⟩
      · exact ⟨vs, e2.sqT h1, by rw [h2.length]; exact List.getElem?_eq_none_iff.mp (Option.some.inj hd)⟩
    | _ => exact p1.elim
theorem str_ok {K : PySem.W.Frag} {mg : Str → Option Value} {β : List Addr} {H : Hp} (x : Str) : ItOk K mg β H (.its (strIts x)) (Its x) := fun i β2 H2 st2 e2 S2 => by
  refine ⟨fun d hd => ?_, fun hd => ?_⟩
  · have hd' := Option.some.inj hd
    unfold strIts at hd'
    rw [List.getElem?_map] at hd'
    cases hc : x.cps.toList[i]? with
    | none => rw [hc] at hd'; cases hd'
    | some c =>
      rw [hc] at hd'
      cases hd'
      have hl : i < x.cps.size := by have := (List.getElem?_eq_some_iff.mp hc).1; simpa using this
      refine ⟨hl, fun y H' ⟨eH, c', hc', hy⟩ => ?_⟩
      subst eH hy
      have : c' = c := by rw [← Array.getElem?_toList, hc] at hc'; exact (Option.some.inj hc').symm
      subst this
      exact ⟨β2, Ext.refl _ _, S2, VR.str.mpr rfl⟩
  · have hd' := Option.some.inj hd
    unfold strIts at hd'
    rw [List.getElem?_map] at hd'
    cases hc : x.cps.toList[i]? with
    | none => show x.cps.size ≤ i; have := List.getElem?_eq_none_iff.mp hc; simpa using this
    | some c => rw [hc] at hd'; cases hd'
theorem i_str (h : PE X a (lift X.K X.mg W ka)) : PI X tg a (liftI X.K X.mg W (iS ka)) :=
  PI.imp (pi_str h) fun σ H R ⟨β, ρ, st, S, E, p⟩ => lift.bind S E p fun d v β1 H1 st1 e1 S1 E1 r1 p1 => by
    cases d with
    | str x =>
      simp only at p1
      split at p1
      · exact ⟨x, VR.str.mp r1, p1 β1 H1 (Ext.refl _ _) S1 _ (str_ok x)⟩
      · exact p1.elim
    | _ => exact p1.elim
theorem rng_ok {K : PySem.W.Frag} {mg : Str → Option Value} {β : List Addr} {H : Hp} (lo : Int) (n : Nat) : ItOk K mg β H (.its (rngIts lo n)) (Itr lo n) := fun i β2 H2 st2 e2 S2 => by
  have key : ∀ j : Nat, (rngIts lo n)[j]? = if j < n then some (.int (lo + (j : Int))) else none := fun j => by
    unfold rngIts
    rw [List.getElem?_map]
    by_cases h : j < n
    · rw [List.getElem?_range h, if_pos h]; rfl
    · rw [if_neg h, List.getElem?_eq_none (by simpa using h)]; rfl
  refine ⟨fun d hd => ?_, fun hd => ?_⟩
  · have hd' := Option.some.inj hd
    rw [key] at hd'
    by_cases h : i < n
    · rw [if_pos h] at hd'
      cases hd'
      exact ⟨h, fun x H' ⟨eH, hx⟩ => by subst eH hx; exact ⟨β2, Ext.refl _ _, S2, VR.int.mpr rfl⟩⟩
    · rw [if_neg h] at hd'; cases hd'
  · have hd' := Option.some.inj hd
    rw [key] at hd'
    by_cases h : i < n
    · rw [if_pos h] at hd'; cases hd'
    · exact Nat.le_of_not_lt h
theorem i_rng1 {p : Pos} (hg : Gl X "range") (hm : X.mg "range" = none) (ha : PA X [a] (liftA X.K X.mg W kas)) (hs : starEach [a] X.env = [(false, eval a X.env)] := by rfl) : PI X tg (.Call (.Name "range" p) [a] [] pos) (liftI X.K X.mg W (iR1 kas)) :=
  PI.imp (pi_range1 hg hm ha hs) fun σ H R ⟨β, ρ, st, S, E, p⟩ => liftA.bind S E p fun ds vs β1 H1 st1 e1 S1 E1 r1 p1 => by
    unfold rngF1 at p1
    split at p1
    · rename_i j
      split at p1
      · rename_i hb
        obtain ⟨v, r, rfl, h1, h2⟩ := VRs.cons.mp r1
        cases VRs.nil.mp h2
        cases VR.int.mp h1
        exact ⟨j, rfl, hb.1, hb.2, p1 β1 H1 (Ext.refl _ _) S1 _ (rng_ok 0 _)⟩
      · exact p1.elim
    · exact p1.elim
theorem i_rng2 {p : Pos} (hg : Gl X "range") (hm : X.mg "range" = none) (ha : PA X [a, b] (liftA X.K X.mg W kas)) (hs : starEach [a, b] X.env = [(false, eval a X.env), (false, eval b X.env)] := by rfl) (hs2 : starEach [b] X.env = [(false, eval b X.env)] := by rfl) : PI X tg (.Call (.Name "range" p) [a, b] [] pos) (liftI X.K X.mg W (iR2 kas)) :=
  PI.imp (pi_range2 hg hm ha hs hs2) fun σ H R ⟨β, ρ, st, S, E, p⟩ => liftA.bind S E p fun ds vs β1 H1 st1 e1 S1 E1 r1 p1 => by
    unfold rngF2 at p1
    split at p1
    · rename_i i j
      split at p1
      · rename_i hb
        obtain ⟨v, r, rfl, h1, h2⟩ := VRs.cons.mp r1
        obtain ⟨v', r', rfl, h1', h2'⟩ := VRs.cons.mp h2
        cases VRs.nil.mp h2'
        cases VR.int.mp h1
        cases VR.int.mp h1'
        exact ⟨i, j, rfl, hb, p1 β1 H1 (Ext.refl _ _) S1 _ (rng_ok i _)⟩
      · exact p1.elim
    · exact p1.elim

/-! ### for -/
end
def forGo (g : KG) (body : KS) (src : Src) : Nat → Nat → Env3 → Sto → RS
  | 0, _, _, _ => .bad
  | f + 1, i, ρ, st => match src.at st i with
    | none => .bad
    | some none => .nx ρ st
    | some (some d) => match g d ρ with
      | none => .bad
      | some ρ1 => match body ρ1 st with
        | .nx ρ2 st2 => forGo g body src f (i + 1) ρ2 st2
        | .ct ρ2 st2 => forGo g body src f (i + 1) ρ2 st2
        | .bk ρ2 st2 => .nx ρ2 st2
        | .rt d st2 => .rt d st2
        | .exn x ρ2 st2 => .exn x ρ2 st2
        | .bad => .bad
def sFor (g : KG) (it : KI) (body : KS) : KS := fun ρ st => (it ρ st).toS ρ fun src st1 => forGo g body src (src.fuel st1) 0 ρ st1
def whileGo (c : KT) (body : KS) : Nat → Env3 → Sto → RS
  | 0, _, _ => .bad
  | f + 1, ρ, st => (c ρ st).toS ρ fun k st1 => if k = true then match body ρ st1 with
        | .nx ρ2 st2 => whileGo c body f ρ2 st2
        | .ct ρ2 st2 => whileGo c body f ρ2 st2
        | .bk ρ2 st2 => .nx ρ2 st2
        | .rt d st2 => .rt d st2
        | .exn x ρ2 st2 => .exn x ρ2 st2
        | .bad => .bad
      else .nx ρ st1
def sWhile (n : Nat) (c : KT) (body : KS) : KS := whileGo c body n
section
variable {X : Cx} {W : WX} {tg e a b c iter : Expr} {es rest : List Expr} {body : List Stmt} {pos p : Pos} {ka kb kcc : KE} {kt kt' : KT} {kas : KA} {ks : KS} {ki : KI}
theorem liftI.toS {σ : L2.St} {Dn : Ends} {β : List Addr} {H : Hp} {ρ : Env3} {st : Sto} {k : KI} {f : Src → Sto → RS} {R : It → Hp → Prop} (S : Sim X.K X.mg β st H) (E : ER X.K β H ρ σ) (h : PostS X.K X.mg W Dn β H ((k ρ st).toS ρ f))
    (hq : ∀ d β' H' st' J, Ext β H β' H' → Sim X.K X.mg β' st' H' → ER X.K β' H' ρ σ → ItOk X.K X.mg β' H' d J → PostS X.K X.mg W Dn β' H' (f d st') → R J H') : liftI X.K X.mg W k σ H R := by
  refine ⟨β, ρ, st, S, E, ?_⟩
  cases hm : k ρ st with
  | ok a st' =>
    rw [hm] at h
    exact fun β' H' e S' J hJ => hq a β' H' st' J e S' (E.mono e) hJ (PostS.mono e h)
  | exn x st' => rw [hm] at h; exact fun β' H' c dd e S' xr => h β' H' σ c dd e S' (E.mono e) xr
  | bad => rw [hm] at h; exact h
theorem s_for {is : List Nat} {g : KG} (hp : PassesOwn (model X.prog X.w) X.A X.env X.xe) (hc : X.calm = true) (hi : PI X tg iter (liftI X.K X.mg W ki)) (hg : TGt X tg is g) (hb : PSs X body (liftS X.K X.mg W ks))
    (hs : ∀ x, foldedSetIterable iter X.env x = pure x := by intro _; rfl) : PS X (.For tg iter body [] pos) (liftS X.K X.mg W (sFor g ki ks)) := by
  obtain ⟨t, pg, kg⟩ := hg.ex
  refine PS.imp (ps_for hp hc hi pg hb hs) fun Dn σ H ⟨β, ρ, st, S, E, p⟩ => liftI.toS S E p fun src β1 H1 st1 J e1 S1 E1 hJ p1 => ?_
  refine ⟨fun i m σ H => ∃ β ρ st, Ext β1 H1 β H ∧ Sim X.K X.mg β st H ∧ ER X.K β H ρ σ ∧ PostS X.K X.mg W Dn β H (forGo g ks src m i ρ st), ⟨_, β1, ρ, st1, Ext.refl _ _, S1, E1, p1⟩, ?_⟩
  rintro i m σ H ⟨β, ρ, st, ex, S, E, p⟩
  cases m with
  | zero => exact p.elim
  | succ m =>
    unfold forGo at p
    obtain ⟨j1, j2⟩ := hJ i β H st ex S
    cases hat : src.at st i with
    | none => simp only [hat] at p; exact p.elim
    | some o =>
      cases o with
      | none =>
        simp only [hat] at p
        exact .inl ⟨j2 hat, p β H σ (Ext.refl _ _) S E⟩
      | some d =>
        simp only [hat] at p
        obtain ⟨go, yl⟩ := j1 d hat
        refine .inr ⟨go, fun σ' H' => ∃ β' ρ' st', Ext β1 H1 β' H' ∧ Sim X.K X.mg β' st' H' ∧ ER X.K β' H' ρ' σ' ∧ PostS X.K X.mg W Dn β' H' (forGo g ks src m (i + 1) ρ' st'), fun σ' H' ⟨β', ρ', st', q1, q2, q3, q4⟩ => ⟨m, Nat.lt_succ_self _, β', ρ', st', q1, q2, q3, q4⟩, fun x H' y => ?_⟩
        obtain ⟨β2, e2, S2, r2⟩ := yl x H' y
        cases hgd : g d ρ with
        | none => simp only [hgd] at p; exact p.elim
        | some ρ1 =>
          simp only [hgd] at p
          refine kg d x σ H' ρ β2 _ ρ1 r2 (E.mono e2) hgd fun σ2 E2 _ => ⟨β2, ρ1, st, S2, E2, ?_⟩
          have p2 := PostS.mono e2 p
          have ex2 := ex.trans e2
          cases hbd : ks ρ1 st with
          | nx ρ3 st3 => simp only [hbd] at p2; exact fun β3 H3 σ3 e3 S3 E3 => ⟨β3, ρ3, st3, ex2.trans e3, S3, E3, PostS.mono e3 p2⟩
          | ct ρ3 st3 => simp only [hbd] at p2; exact fun β3 H3 σ3 e3 S3 E3 => ⟨β3, ρ3, st3, ex2.trans e3, S3, E3, PostS.mono e3 p2⟩
          | bk ρ3 st3 => simp only [hbd] at p2; exact p2
          | rt d3 st3 => simp only [hbd] at p2; exact p2
          | exn x3 ρ3 st3 => simp only [hbd] at p2; exact p2
          | bad => simp only [hbd] at p2; exact p2
theorem s_while {n : Nat} (hp : PassesOwn (model X.prog X.w) X.A X.env X.xe) (hc : PT X c (liftT X.K X.mg W kt)) (hb : PSs X body (liftS X.K X.mg W ks)) : PS X (.While c body [] pos) (liftS X.K X.mg W (sWhile n kt ks)) := by
  refine PS.imp (ps_while hp hc hb) fun Dn σ H ⟨β, ρ, st, S, E, p⟩ => ?_
  refine ⟨fun m σ H => ∃ β ρ st, Sim X.K X.mg β st H ∧ ER X.K β H ρ σ ∧ PostS X.K X.mg W Dn β H (whileGo kt ks m ρ st), ⟨n, β, ρ, st, S, E, p⟩, ?_⟩
  rintro m σ H ⟨β, ρ, st, S, E, p⟩
  cases m with
  | zero => exact p.elim
  | succ m =>
    refine liftT.toS S E p fun k β1 H1 st1 e1 S1 E1 p1 => ?_
    cases k with
    | false => exact iteF (p1 β1 H1 σ (Ext.refl _ _) S1 E1)
    | true =>
      refine iteT ⟨fun σ' H' => ∃ β' ρ' st', Sim X.K X.mg β' st' H' ∧ ER X.K β' H' ρ' σ' ∧ PostS X.K X.mg W Dn β' H' (whileGo kt ks m ρ' st'), fun σ' H' ⟨β', ρ', st', q2, q3, q4⟩ => ⟨m, Nat.lt_succ_self _, β', ρ', st', q2, q3, q4⟩, ⟨β1, ρ, st1, S1, E1, ?_⟩⟩
      simp only [if_true] at p1
      cases hbd : ks ρ st1 with
      | nx ρ3 st3 => simp only [hbd] at p1; exact fun β3 H3 σ3 e3 S3 E3 => ⟨β3, ρ3, st3, S3, E3, PostS.mono e3 p1⟩
      | ct ρ3 st3 => simp only [hbd] at p1; exact fun β3 H3 σ3 e3 S3 E3 => ⟨β3, ρ3, st3, S3, E3, PostS.mono e3 p1⟩
      | bk ρ3 st3 => simp only [hbd] at p1; exact p1
      | rt d3 st3 => simp only [hbd] at p1; exact p1
      | exn x3 ρ3 st3 => simp only [hbd] at p1; exact p1
      | bad => simp only [hbd] at p1; exact p1
end

/-! ### list comprehensions -/
theorem wipe_wipe {σ : L2.St} {us : List Nat} : ∀ ws : List Nat, (∀ w ∈ ws, w ∈ us) → L2.wipe (L2.wipe σ ws) us = L2.wipe σ us
  | [], _ => rfl
  | w :: ws, h => by
    show L2.wipe ((L2.wipe σ ws).set w none) us = _
    rw [wipe_set (h w List.mem_cons_self), wipe_wipe ws fun x hx => h x (List.mem_cons_of_mem _ hx)]
theorem kg_name {X : Cx} {i : Nat} : PGK X [i] (gN i) (gName i) := fun d v σ H ρ β Q ρ' r E h k => by cases h; exact k _ (E.set i r) fun us hu => wipe_set (hu i List.mem_cons_self)
theorem kgs_nil {X : Cx} : PGKs X [] gs0 gNil := fun ds vs σ H ρ β Q ρ' r E h k => by
  cases ds with
  | nil => cases h; exact ⟨VRs.nil.mp r, k _ E fun _ _ => rfl⟩
  | cons _ _ => cases h
theorem kgs_cons {X : Cx} {is js : List Nat} {g : KG} {gs : KGs} {t : TG} {ts : TGs} (k : PGK X is g t) (kks : PGKs X js gs ts) : PGKs X (is ++ js) (gs1 g gs) (gCons t ts) := fun ds vs σ H ρ β Q ρ' r E h kq => by
  cases ds with
  | nil => cases h
  | cons d ds =>
    obtain ⟨v, vr, rfl, r1, r2⟩ := VRs.cons.mp r
    obtain ⟨ρ1, h1, h2⟩ := Option.bind_eq_some_iff.mp (show (g d ρ).bind (gs ds) = some ρ' from h)
    exact ⟨v, vr, rfl, k d v σ H ρ β _ ρ1 r1 E h1 fun σ1 E1 w1 => kks ds vr σ1 H ρ1 β Q ρ' r2 E1 h2 fun σ2 E2 w2 => kq σ2 E2 fun us hu =>
      (w2 us fun i hi => hu i (List.mem_append_right _ hi)).trans (w1 us fun i hi => hu i (List.mem_append_left _ hi))⟩
theorem kg_tup {X : Cx} {is : List Nat} {gs : KGs} {ts : TGs} {n : Nat} (kks : PGKs X is gs ts) : PGK X is (gT n gs) (gTup X.K n ts) := fun d v σ H ρ β Q ρ' r E h kq => by
  cases d with
  | tup ds =>
    obtain ⟨q, vs, rfl, h1, h2⟩ := VR.tup.mp r
    unfold gT at h
    simp only at h
    split at h
    · rename_i hl
      exact ⟨q, vs, rfl, h1, by rw [h2.length]; exact hl, kks ds vs σ H ρ β Q ρ' h2 E h kq⟩
    · cases h
  | _ => cases h
def wipeD (ρ : Env3) : List Nat → Env3
  | [] => ρ
  | v :: vs => (wipeD ρ vs).set v none
theorem ER.wipe {K : PySem.W.Frag} {β : List Addr} {H : Hp} {ρ : Env3} {σ : L2.St} (E : ER K β H ρ σ) : ∀ vs, ER K β H (wipeD ρ vs) (L2.wipe σ vs)
  | [] => E
  | v :: vs => (ER.wipe E vs).clear v none
def kTrue : KT := fun _ st => .ok true st
def lcGo (g : KG) (cnd : KT) (elt : KE) (src : Src) (ρ : Env3) : Nat → Nat → Sto → List D → R (List D)
  | 0, _, _, _ => .bad
  | f + 1, i, st, acc => match src.at st i with
    | none => .bad
    | some none => .ok acc st
    | some (some d) => match g d ρ with
      | none => .bad
      | some ρ1 => match cnd ρ1 st with
        | .ok k st1 => if k = true then match elt ρ1 st1 with
            | .ok y st2 => if acc.length < 16777215 then lcGo g cnd elt src ρ f (i + 1) st2 (acc ++ [y]) else .bad
            | _ => .bad
          else lcGo g cnd elt src ρ f (i + 1) st1 acc
        | _ => .bad
def kLc (vs : List Nat) (g : KG) (it : KI) (cnd : KT) (elt : KE) : KE := fun ρ st => (it ρ st).bind fun src st1 => (lcGo g cnd elt src (wipeD ρ vs) (src.fuel st1) 0 st1 []).bind fun acc st2 => .ok (.loc st2.length) (st2 ++ [.lst acc])
abbrev W0 : WX := fun _ _ _ _ => False
section
variable {X : Cx} {W : WX} {tg e a b c iter elt : Expr} {es ifs : List Expr} {body : List Stmt} {pos p : Pos} {ka kb kcc ke : KE} {kt kt' : KT} {kas : KA} {ks : KS} {ki : KI}
theorem c_nil : PTs X [] (liftT X.K X.mg W kTrue) := ⟨fun pins s σ H Q I ⟨β, ρ, st, S, E, p⟩ => pts_nil.run pins s σ H Q I (p β H (Ext.refl _ _) S)⟩
theorem c_one (h : PT X c (liftT X.K X.mg W kt)) : PTs X [c] (liftT X.K X.mg W kt) := pts_one h
theorem liftI.bind {α : Type} {σ : L2.St} {ok : α → List Addr → Hp → Prop} {β : List Addr} {H : Hp} {ρ : Env3} {st : Sto} {k : KI} {f : Src → Sto → R α} {R : It → Hp → Prop} (S : Sim X.K X.mg β st H) (E : ER X.K β H ρ σ) (h : PostA X.K X.mg W σ ok β H ((k ρ st).bind f))
    (hq : ∀ d β' H' st' J, Ext β H β' H' → Sim X.K X.mg β' st' H' → ER X.K β' H' ρ σ → ItOk X.K X.mg β' H' d J → PostA X.K X.mg W σ ok β' H' (f d st') → R J H') : liftI X.K X.mg W k σ H R := by
  refine ⟨β, ρ, st, S, E, ?_⟩
  cases hm : k ρ st with
  | ok a st' =>
    rw [hm] at h
    exact fun β' H' e S' J hJ => hq a β' H' st' J e S' (E.mono e) hJ (PostA.mono e h)
  | exn x st' => rw [hm] at h; exact h
  | bad => rw [hm] at h; exact h
theorem Ext.updNew {β1 β : List Addr} {H1 H : Hp} {D : Addr} {o : HO} (e : Ext β1 H1 β H) (h1 : H1 D = none) : Ext β1 H1 β (upd H D o) :=
  ⟨⟨e.pre, fun a xs h => by rw [upd_ne (ne_of_none h h1)]; exact e.tups a xs h, fun a o u h => by rw [upd_ne (ne_of_none h h1)]; exact e.frzs a o u h⟩, fun a u h hn => by rw [upd_ne (ne_of_none h h1)]; exact e.keep a u h hn, e.new⟩
theorem Sim.updOut {K : PySem.W.Frag} {mg : Str → Option Value} {β : List Addr} {st : Sto} {H : Hp} {D : Addr} {xs : List V} {o : HO} (S : Sim K mg β st H) (h : H D = some (.lst xs)) (hn : D ∉ β) : Sim K mg β st (upd H D o) ∧ Ext0 β H β (upd H D o) := by
  have e : Ext0 β H β (upd H D o) := ⟨⟨[], by simp⟩, fun a xs q => by rw [upd_ne (fun z => by subst z; rw [h] at q; cases q)]; exact q, fun a o u q => by rw [upd_ne (fun z => by subst z; rw [h] at q; cases q)]; exact q⟩
  exact ⟨⟨S.len, S.inj, fun n ob a h1 h2 => (S.ob n ob a h1 h2).mono0 e (upd_ne fun z => by subst z; exact hn (List.mem_of_getElem? h2))⟩, e⟩
theorem lc_main {is vs : List Nat} {t : TG} {g : KG} (kg : PGK X is g t) (hv : ∀ i ∈ is, i ∈ vs) {σ : L2.St} {H : Hp} {Q : VK} (h : lift X.K X.mg W (kLc vs g ki kt ke) σ H Q) : tLc (liftI X.K X.mg W ki) t (liftT X.K X.mg W0 kt) (lift X.K X.mg W0 ke) vs σ H Q := by
  obtain ⟨β, ρ, st, S, E, p⟩ := h
  refine liftI.bind S E p fun src β1 H1 st1 J e1 S1 E1 hJ p1 => ?_
  intro D hD
  refine ⟨fun i m H => ∃ β st acc us, Ext β1 H1 β H ∧ Sim X.K X.mg β st H ∧ H D = some (.lst us) ∧ D ∉ β ∧ VRs X.K β H acc us ∧ PostA X.K X.mg W σ (okE X.K Q) β1 H1 ((lcGo g kt ke src (wipeD ρ vs) m i st acc).bind fun acc st2 => .ok (.loc st2.length) (st2 ++ [.lst acc])),
    ⟨_, β1, st1, [], [], ext_new0 hD, S1.new0 hD, upd_same, fun hm => ?_, VRs.nil.mpr rfl, p1⟩, ?_⟩
  · obtain ⟨n, hn, e⟩ := List.mem_iff_getElem.mp hm
    exact S1.fresh hD (n := n) (by rw [List.getElem?_eq_getElem hn, e])
  rintro i m H ⟨β, st, acc, us, ex, S, hl, hn, ra, p⟩
  cases m with
  | zero => exact p.elim
  | succ m =>
    unfold lcGo at p
    obtain ⟨j1, j2⟩ := hJ i β H st ex S
    cases hat : src.at st i with
    | none => simp only [hat] at p; exact p.elim
    | some o =>
      cases o with
      | none =>
        simp only [hat] at p
        refine .inl ⟨j2 hat, p (β ++ [D]) H ⟨⟨?_, ex.tups, ex.frzs⟩, ex.keep, fun a ha => ?_⟩ ?_ _ (VR.loc.mpr ⟨D, by rw [← S.len]; simp, rfl⟩)⟩
        · obtain ⟨q, e⟩ := ex.pre
          exact ⟨q ++ [D], by rw [e]; simp⟩
        · rcases List.mem_append.mp ha with ha | ha
          · exact ex.new a ha
          · have e : a = D := by simpa using ha
            subst e
            exact .inr hD
        · have eD : Ext0 β H (β ++ [D]) H := ⟨⟨[D], rfl⟩, fun _ _ h => h, fun _ _ _ h => h⟩
          refine ⟨by simp [S.len], fun a b c h1 h2 => ?_, fun n ob a h1 h2 => ?_⟩
          · have la : a < β.length + 1 := by simpa using (List.getElem?_eq_some_iff.mp h1).1
            have lb : b < β.length + 1 := by simpa using (List.getElem?_eq_some_iff.mp h2).1
            by_cases ha : a < β.length
            · rw [List.getElem?_append_left ha] at h1
              by_cases hb : b < β.length
              · rw [List.getElem?_append_left hb] at h2
                exact S.inj a b c h1 h2
              · have e : b = β.length := by omega
                subst e
                simp at h2
                subst h2
                exact absurd (List.mem_of_getElem? h1) hn
            · have e : a = β.length := by omega
              subst e
              simp at h1
              subst h1
              by_cases hb : b < β.length
              · rw [List.getElem?_append_left hb] at h2
                exact absurd (List.mem_of_getElem? h2) hn
              · omega
          · have ln : n < β.length + 1 := by simpa using (List.getElem?_eq_some_iff.mp h2).1
            by_cases hnn : n < β.length
            · rw [List.getElem?_append_left hnn] at h2
              rw [List.getElem?_append_left (by rw [← S.len]; exact hnn)] at h1
              exact (S.ob n ob a h1 h2).mono0 eD rfl
            · have e : n = β.length := by omega
              subst e
              simp at h2
              subst h2
              rw [S.len] at h1
              simp at h1
              subst h1
              exact ⟨us, hl, VRs.mono0 eD _ _ ra⟩
      | some d =>
        simp only [hat] at p
        obtain ⟨go, yl⟩ := j1 d hat
        refine .inr ⟨go, fun H' => ∃ β' st' acc' us', Ext β1 H1 β' H' ∧ Sim X.K X.mg β' st' H' ∧ H' D = some (.lst us') ∧ D ∉ β' ∧ VRs X.K β' H' acc' us' ∧ PostA X.K X.mg W σ (okE X.K Q) β1 H1 ((lcGo g kt ke src (wipeD ρ vs) m (i + 1) st' acc').bind fun acc st2 => .ok (.loc st2.length) (st2 ++ [.lst acc])),
          fun H' ⟨β', st', acc', us', q⟩ => ⟨m, Nat.lt_succ_self _, β', st', acc', us', q⟩, fun x H' y => ?_⟩
        obtain ⟨β2, e2, S2, r2⟩ := yl x H' y
        have stay : ∀ {βa βb : List Addr} {Ha Hb : Hp}, Ext βa Ha βb Hb → Ha D = some (.lst us) → D ∉ βa → Hb D = some (.lst us) ∧ D ∉ βb := fun ee hh hnn => ⟨ee.keep D _ hh hnn, fun z => by
          rcases ee.new D z with z | z
          · exact hnn z
          · rw [hh] at z; cases z⟩
        obtain ⟨hl2, hn2⟩ := stay e2 hl hn
        cases hgd : g d (wipeD ρ vs) with
        | none => simp only [hgd] at p; exact p.elim
        | some ρ1 =>
          simp only [hgd] at p
          refine kg d x (L2.wipe σ vs) H' (wipeD ρ vs) β2 _ ρ1 r2 ((E1.mono (ex.trans e2)).wipe vs) hgd fun σ2 E2 wp => ⟨?_, ?_⟩
          · exact (wp vs hv).trans (wipe_wipe vs fun _ h => h)
          refine ⟨β2, ρ1, st, S2, E2, ?_⟩
          cases hk : kt ρ1 st with
          | exn _ _ => simp only [hk] at p; exact p.elim
          | bad => simp only [hk] at p; exact p.elim
          | ok k st3 =>
            simp only [hk] at p
            intro β3 H3 e3 S3
            obtain ⟨hl3, hn3⟩ := stay e3 hl2 hn2
            cases k with
            | false =>
              exact iteF ⟨β3, st3, acc, us, (ex.trans e2).trans e3, S3, hl3, hn3, VRs.mono e3 _ _ (VRs.mono e2 _ _ ra), p⟩
            | true =>
              simp only [if_true] at p
              refine iteT ⟨β3, ρ1, st3, S3, E2.mono e3, ?_⟩
              cases hy : ke ρ1 st3 with
              | exn _ _ => simp only [hy] at p; exact p.elim
              | bad => simp only [hy] at p; exact p.elim
              | ok y st4 =>
                simp only [hy] at p
                split at p
                · rename_i hz
                  intro β4 H4 e4 S4 v4 r4
                  obtain ⟨hl4, hn4⟩ := stay e4 hl3 hn3
                  have ra4 := VRs.mono e4 _ _ (VRs.mono e3 _ _ (VRs.mono e2 _ _ ra))
                  obtain ⟨S5, e5⟩ := S4.updOut (o := .lst (us ++ [v4])) hl4 hn4
                  refine ⟨us, hl4, ?_, β4, st4, acc ++ [y], us ++ [v4], (((ex.trans e2).trans e3).trans e4).updNew hD, S5, upd_same, hn4, VRs.mono0 e5 _ _ (ra4.append (VRs.cons.mpr ⟨v4, [], rfl, r4, VRs.nil.mpr rfl⟩)), p⟩
                  have : us.length < 16777215 := by rw [ra4.length]; exact hz
                  rw [sizeLine_eq]; omega
                · exact p.elim
theorem q_lc {scope : Scope} {own : List (Str × Nat)} {is : List Nat} {g : KG} {t : TG} (hc : X.calm = true) (hN : X.N.Nodup) (hi : PI X tg iter (liftI X.K X.mg W ki)) (ok : BlkOk X.N X.env.scope scope own)
    (hg : ∀ (s : Shared) (H : Hp) (C : Addr) (cl : List (Str × Addr)) (fp : List Addr), PG (X.blk s H scope (compEnvC scope cl C X.env) fp) tg t) (kg : PGK X is g t) (hv : ∀ i ∈ is, i ∈ own.map (·.2))
    (ht : ∀ (s : Shared) (H : Hp) (C : Addr) (cl : List (Str × Addr)) (fp : List Addr), PTs (X.blk s H scope (compEnvC scope cl C X.env) fp) ifs (liftT X.K X.mg W0 kt))
    (he : ∀ (s : Shared) (H : Hp) (C : Addr) (cl : List (Str × Addr)) (fp : List Addr), PE (X.blk s H scope (compEnvC scope cl C X.env) fp) elt (lift X.K X.mg W0 ke)) (hs : ∀ x, foldedSetIterable iter X.env x = pure x := by intro _; rfl) :
    PE X (.ListComp elt [⟨tg, iter, ifs, 0⟩] scope pos) (lift X.K X.mg W (kLc (own.map (·.2)) g ki kt ke)) :=
  PE.imp (pe_lc hc hN hi ok hg ht he hs) fun σ H Q h => lc_main kg hv h
theorem s_setLc {i : Nat} {y : Str} {py spos : Pos} {scope : Scope} {own : List (Str × Nat)} {is : List Nat} {g : KG} {t : TG} (hc : X.calm = true) (hN : X.N.Nodup) (hy : X.N[i]? = some y) (hyl : X.env.scope.names.lookup y = some .local)
    (hsw : swapsWith (.ListComp elt [⟨tg, iter, ifs, 0⟩] scope pos) (some (.Name y py)) spos.line X.env = pure true) (hi : PI X tg iter (liftI X.K X.mg W ki)) (ok : BlkOk X.N X.env.scope scope own)
    (hg : ∀ (s : Shared) (H : Hp) (C : Addr) (cl : List (Str × Addr)) (fp : List Addr), PG (X.blk s H scope (compEnvC scope cl C X.env) fp) tg t) (kg : PGK X is g t) (hv : ∀ i ∈ is, i ∈ own.map (·.2))
    (ht : ∀ (s : Shared) (H : Hp) (C : Addr) (cl : List (Str × Addr)) (fp : List Addr), PTs (X.blk s H scope (compEnvC scope cl C X.env) fp) ifs (liftT X.K X.mg W0 kt))
    (he : ∀ (s : Shared) (H : Hp) (C : Addr) (cl : List (Str × Addr)) (fp : List Addr), PE (X.blk s H scope (compEnvC scope cl C X.env) fp) elt (lift X.K X.mg W0 ke)) (hs : ∀ x, foldedSetIterable iter X.env x = pure x := by intro _; rfl) :
    PS X (.Assign [.Name y py] (.ListComp elt [⟨tg, iter, ifs, 0⟩] scope pos) spos) (liftS X.K X.mg W (sSet i (kLc (own.map (·.2)) g ki kt ke))) :=
  PS.imp (ps_setLc hc hN hy hyl hsw hi ok hg ht he hs) fun Dn σ H ⟨β, ρ, st, S, E, p⟩ => by
    show tLc _ _ _ _ _ σ H _
    refine lc_main kg hv (lift.toS S E p fun d v β1 H1 st1 e1 S1 E1 r1 p1 => ?_)
    exact p1 β1 H1 _ (Ext.refl _ _) S1 (E1.set i r1)
end
end L3

namespace L3
open PySem PySem.Spec PyProof.Rows L2

/-! ### what the operators mean -/
def addD (x y : D) (st : Sto) : R D := match x, y with
  | .int i, .int j => .ok (.int (i + j)) st
  | .str i, .str j => if i.length + j.length ≤ 16777216 then .ok (.str (i ++ j)) st else .bad
  | .tup xs, .tup ys => if xs.length + ys.length ≤ 16777216 then .ok (.tup (xs ++ ys)) st else .bad
  | .loc m, .loc n => match st[m]?, st[n]? with
    | some (.lst xs), some (.lst ys) => if xs.length + ys.length ≤ 16777216 then .ok (.loc st.length) (st ++ [.lst (xs ++ ys)]) else .bad
    | _, _ => .bad
  | _, _ => .bad
def subD (x y : D) (st : Sto) : R D := match x, y with
  | .int i, .int j => .ok (.int (i - j)) st
  | _, _ => .bad
/-- a product is made where its bits are surely few -/
def mulOk (i j : Int) : Prop := ((-(2 ^ 64) < i ∧ i < 2 ^ 64) ∨ (-(2 ^ 64) < j ∧ j < 2 ^ 64)) ∨ i.natAbs.log2 + j.natAbs.log2 < 1000000
instance (i j : Int) : Decidable (mulOk i j) := by unfold mulOk; infer_instance
def mulD (x y : D) (st : Sto) : R D := match x, y with
  | .int i, .int j => if mulOk i j then .ok (.int (i * j)) st else .bad
  | .loc m, .int k => match st[m]? with
    | some (.lst xs) => if -(2 ^ 63) ≤ k ∧ k < 2 ^ 63 ∧ xs.length * k.toNat ≤ 16777216 then .ok (.loc st.length) (st ++ [.lst (List.replicate k.toNat xs).flatten]) else .bad
    | _ => .bad
  | _, _ => .bad
def divOk (j : Int) : Prop := 0 < j ∧ (j < 1073741824 ∨ j.natAbs.log2 < 9000)
instance (j : Int) : Decidable (divOk j) := by unfold divOk; infer_instance
def fdivD (x y : D) (st : Sto) : R D := match x, y with
  | .int i, .int j => if divOk j then .ok (.int (i / j)) st else .bad
  | _, _ => .bad
def modD (x y : D) (st : Sto) : R D := match x, y with
  | .int i, .int j => if 0 < j then .ok (.int (i % j)) st else .bad
  | _, _ => .bad
def powD (x y : D) (st : Sto) : R D := match x, y with
  | .int i, .int j => if 0 ≤ j ∧ (Builtin.Int.intBits i : Int) * j ≤ 2 ^ 27 then .ok (.int (i ^ j.toNat)) st else .bad
  | _, _ => .bad
def cmpD (f : Int → Int → Bool) (g : Str → Str → Bool) (x y : D) (st : Sto) : R D := match x, y with
  | .int i, .int j => .ok (.bl (f i j)) st
  | .str i, .str j => .ok (.bl (g i j)) st
  | _, _ => .bad
abbrev ltD := cmpD (fun i j => decide (i < j)) fun i j => decide (i.cps.toList < j.cps.toList)
abbrev leD := cmpD (fun i j => decide (i ≤ j)) fun i j => !decide (j.cps.toList < i.cps.toList)
abbrev gtD := cmpD (fun i j => decide (j < i)) fun i j => decide (j.cps.toList < i.cps.toList)
abbrev geD := cmpD (fun i j => decide (j ≤ i)) fun i j => !decide (i.cps.toList < j.cps.toList)
def negD (x : D) (st : Sto) : R D := match x with
  | .int i => .ok (.int (-i)) st
  | _ => .bad

/-! ### data, read whole -/
def allO {α : Type} : List (Option α) → Option (List α)
  | [] => some []
  | o :: r => o.bind fun a => (allO r).bind fun l => some (a :: l)
def pd (st : Sto) : Nat → D → Option PyData
  | _, .non => some .none
  | _, .bl b => some (.bool b)
  | _, .int i => some (.int i)
  | _, .str x => some (.str x)
  | n + 1, .tup xs => (allO (xs.map (pd st n))).bind fun l => some (.tuple l)
  | n + 1, .frz xs => (allO (xs.map (pd st n))).bind fun l => some (.list l)
  | n + 1, .loc m => match st[m]? with
    | some (.lst xs) => (allO (xs.map (pd st n))).bind fun l => some (.list l)
    | _ => none
  | 0, .tup _ => none
  | 0, .frz _ => none
  | 0, .loc _ => none
def eqD (x y : D) (st : Sto) : R D := match pd st 40 x, pd st 40 y with
  | some d, some e => if SeqAt.shaped d = true ∧ SeqAt.shaped e = true then .ok (.bl (PyData.eqv d e)) st else .bad
  | _, _ => .bad
def neD (x y : D) (st : Sto) : R D := match pd st 40 x, pd st 40 y with
  | some d, some e => if SeqAt.shaped d = true ∧ SeqAt.shaped e = true then .ok (.bl (!PyData.eqv d e)) st else .bad
  | _, _ => .bad
def isNon : D → Bool
  | .non => true
  | _ => false
def isN (x : D) (st : Sto) : R D := .ok (.bl (isNon x)) st
def notN (x : D) (st : Sto) : R D := .ok (.bl (!isNon x)) st
def flatD : D → Bool
  | .non | .bl _ | .int _ | .str _ => true
  | _ => false
/-- in: a text in a text; data in a list -/
def inD (neg : Bool) (x y : D) (st : Sto) : R D := match y with
  | .str j => match x with
    | .str i => .ok (.bl (neg != (!(Builtin.Str.occurrences j i 0 j.length 1).isEmpty))) st
    | _ => .bad
  | .tup xs => match x with
    | .str _ | .int _ | .bl _ | .non => if xs.all flatD = true then match pd st 1 x, allO (xs.map (pd st 1)) with
        | some d, some ds => .ok (.bl (neg != ds.any fun z => PyData.eqv z d)) st
        | _, _ => .bad
      else .bad
    | _ => .bad
  | y => match pd st 40 x, pd st 40 y with
    | some d, some (.list ds) => if SeqAt.shaped d = true ∧ SeqAt.shaped (.list ds) = true then .ok (.bl (neg != ds.any fun z => PyData.eqv z d)) st else .bad
    | _, _ => .bad
/-- x[i] -/
def ixD (x y : D) (st : Sto) : R D := match y with
  | .int i => match x with
    | .tup xs => match atI xs i with | some d => .ok d st | none => .bad
    | .frz xs => match atI xs i with | some d => .ok d st | none => .bad
    | .str z => if z.length ≤ 16777216 then match atI z.cps.toList i with | some c => .ok (.str ⟨#[c]⟩) st | none => .bad else .bad
    | .loc n => match st[n]? with
      | some (.lst xs) => match atI xs i with | some d => .ok d st | none => .bad
      | _ => .bad
    | _ => .bad
  | _ => .bad

section
variable {X : Cx} {W : WX}
theorem fin {K : PySem.W.Frag} {mg : Str → Option Value} {σ : L2.St} {β : List Addr} {H : Hp} {st : Sto} {Q : VK} {d : D} {v : V} (p : PostA K mg W σ (okE K Q) β H (.ok d st)) (S : Sim K mg β st H) (r : VR K β H d v) : Q v H := p β H (Ext.refl _ _) S v r
theorem o_add : OpS X W (binaryOp .Add) addD := OpS.of (op_add.or (op_add_str.or (op_catA.or op_cat))) fun σ H x y Q β st dx dy S rx ry p => by
  unfold addD at p
  split at p
  · cases VR.int.mp rx; cases VR.int.mp ry
    exact .inl ⟨_, _, rfl, rfl, fin p S (VR.int.mpr rfl)⟩
  · cases VR.str.mp rx; cases VR.str.mp ry
    split at p
    · rename_i hz; exact .inr (.inl ⟨_, _, rfl, rfl, szl hz, fin p S (VR.str.mpr rfl)⟩)
    · exact p.elim
  · rename_i xs ys
    obtain ⟨a, vs, rfl, h1, h2⟩ := VR.tup.mp rx
    obtain ⟨b, us, rfl, g1, g2⟩ := VR.tup.mp ry
    split at p
    · rename_i hz
      refine .inr (.inr (.inl ⟨a, b, vs, us, rfl, rfl, h1, g1, by rw [h2.length, g2.length]; exact szl hz, fun e => ?_, fun e1 e2 => ?_, fun _ _ q hq => ?_⟩))
      · subst e
        have : xs = [] := by have := h2.length; cases xs with | nil => rfl | cons _ _ => simp at this
        subst this
        exact fin p S ry
      · subst e2
        have : ys = [] := by have := g2.length; cases ys with | nil => rfl | cons _ _ => simp at this
        subst this
        rw [List.append_nil] at p
        exact fin p S rx
      · exact p β _ (ext_new0 hq) (S.new0 hq) _ (VR.tup.mpr ⟨q, _, rfl, SqT.of upd_same, VRs.mono (ext_new0 hq) _ _ (h2.append g2)⟩)
    · exact p.elim
  · rename_i m n
    obtain ⟨a, h1, rfl⟩ := VR.loc.mp rx
    obtain ⟨b, g1, rfl⟩ := VR.loc.mp ry
    obtain ⟨o, h2, h3⟩ := S.at h1
    obtain ⟨o', g2, g3⟩ := S.at g1
    simp only [h2, g2] at p
    cases o with
    | lst xs =>
      cases o' with
      | lst ys =>
        simp only at p
        split at p
        · rename_i hz
          obtain ⟨vs, h4, h5⟩ := h3
          obtain ⟨us, g4, g5⟩ := g3
          refine .inr (.inr (.inr ⟨a, b, vs, us, rfl, rfl, h4, g4, by rw [h5.length, g5.length]; exact szl hz, fun q hq => ?_⟩))
          obtain ⟨x1, x2, x3⟩ := newLst S (h5.append g5) hq
          exact p _ _ x1 x2 _ x3
        · exact p.elim
      | _ => exact p.elim
    | _ => cases o' <;> exact p.elim
  · exact p.elim
theorem o_sub : OpS X W (binaryOp .Sub) subD := OpS.of op_sub fun σ H x y Q β st dx dy S rx ry p => by
  unfold subD at p
  split at p
  · cases VR.int.mp rx; cases VR.int.mp ry
    exact ⟨_, _, rfl, rfl, fin p S (VR.int.mpr rfl)⟩
  · exact p.elim
theorem o_mul : OpS X W (binaryOp .Mult) mulD := OpS.of ((op_mul.or op_mulW).or op_rep) fun σ H x y Q β st dx dy S rx ry p => by
  unfold mulD at p
  split at p
  · cases VR.int.mp rx; cases VR.int.mp ry
    split at p
    · rename_i hm
      rcases hm with hm | hm
      · exact .inl (.inl ⟨_, _, rfl, rfl, hm, fin p S (VR.int.mpr rfl)⟩)
      · exact .inl (.inr ⟨_, _, rfl, rfl, hm, fin p S (VR.int.mpr rfl)⟩)
    · exact p.elim
  · rename_i m k
    obtain ⟨a, h1, rfl⟩ := VR.loc.mp rx
    cases VR.int.mp ry
    obtain ⟨o, h2, h3⟩ := S.at h1
    simp only [h2] at p
    cases o with
    | lst xs =>
      simp only at p
      split at p
      · rename_i hz
        obtain ⟨vs, h4, h5⟩ := h3
        refine .inr ⟨a, k, vs, rfl, rfl, h4, hz.1, hz.2.1, by rw [h5.length]; exact szl hz.2.2, fun q hq => ?_⟩
        have hr : ∀ n : Nat, VRs X.K β H (List.replicate n xs).flatten (List.replicate n vs).flatten := fun n => by
          induction n with
          | zero => exact VRs.nil.mpr rfl
          | succ n ih => rw [List.replicate_succ, List.replicate_succ, List.flatten_cons, List.flatten_cons]; exact h5.append ih
        obtain ⟨x1, x2, x3⟩ := newLst S (hr k.toNat) hq
        exact p _ _ x1 x2 _ x3
      · exact p.elim
    | _ => exact p.elim
  · exact p.elim
theorem o_fdiv : OpS X W (binaryOp .FloorDiv) fdivD := OpS.of (op_fdiv.or op_fdivW) fun σ H x y Q β st dx dy S rx ry p => by
  unfold fdivD at p
  split at p
  · cases VR.int.mp rx; cases VR.int.mp ry
    split at p
    · rename_i hm
      obtain ⟨h0, hm | hm⟩ := hm
      · exact .inl ⟨_, _, rfl, rfl, ⟨h0, hm⟩, fin p S (VR.int.mpr rfl)⟩
      · exact .inr ⟨_, _, rfl, rfl, ⟨h0, hm⟩, fin p S (VR.int.mpr rfl)⟩
    · exact p.elim
  · exact p.elim
theorem o_mod : OpS X W (binaryOp .Mod) modD := OpS.of op_mod fun σ H x y Q β st dx dy S rx ry p => by
  unfold modD at p
  split at p
  · cases VR.int.mp rx; cases VR.int.mp ry
    split at p
    · rename_i hm; exact ⟨_, _, rfl, rfl, hm, fin p S (VR.int.mpr rfl)⟩
    · exact p.elim
  · exact p.elim
theorem op_powL : OpR X (binaryOp .Pow) (rI (fun i j => 0 ≤ j ∧ (Builtin.Int.intBits i : Int) * j ≤ 2 ^ 27) fun i j => .int (i ^ j.toNat)) := opI fun _ _ _ _ _ _ _ hc q => PyProof.Rows.pow_int hc.1 hc.2 q
theorem o_pow : OpS X W (binaryOp .Pow) powD := OpS.of op_powL fun σ H x y Q β st dx dy S rx ry p => by
  unfold powD at p
  split at p
  · cases VR.int.mp rx; cases VR.int.mp ry
    split at p
    · rename_i hm; exact ⟨_, _, rfl, rfl, hm, fin p S (VR.int.mpr rfl)⟩
    · exact p.elim
  · exact p.elim
theorem o_cmp {op : CmpOp} {f : Int → Int → Bool} {g : Str → Str → Bool} (h1 : OpR X (compareOp op) (rI0 fun i j => .bl (f i j))) (h2 : OpR X (compareOp op) (fun x y H Q => ∃ i j, x = .str i ∧ y = .str j ∧ Q (.bl (g i j)) H)) : OpS X W (compareOp op) (cmpD f g) := OpS.of (h1.or h2) fun σ H x y Q β st dx dy S rx ry p => by
  unfold cmpD at p
  split at p
  · cases VR.int.mp rx; cases VR.int.mp ry
    exact .inl ⟨_, _, rfl, rfl, fin p S (VR.bl.mpr rfl)⟩
  · cases VR.str.mp rx; cases VR.str.mp ry
    exact .inr ⟨_, _, rfl, rfl, fin p S (VR.bl.mpr rfl)⟩
  · exact p.elim
theorem o_lt : OpS X W (compareOp .Lt) ltD := o_cmp op_lt op_lt_str
theorem o_le : OpS X W (compareOp .LtE) leD := o_cmp op_le op_le_str
theorem o_gt : OpS X W (compareOp .Gt) gtD := o_cmp op_gt op_gt_str
theorem o_ge : OpS X W (compareOp .GtE) geD := o_cmp op_ge op_ge_str
theorem o_neg : UnS X W (unaryOp .USub) negD := fun pins s σ H x v Q β st dx I rx S vx p => by
  unfold negD at p
  split at p
  · cases VR.int.mp vx
    exact un_neg pins s σ H _ v Q I rx ⟨_, rfl, fin p S (VR.int.mpr rfl)⟩
  · exact p.elim

theorem allO_map {K : PySem.W.Frag} {β : List Addr} {H : Hp} {f : D → Option PyData} (h : ∀ d v p, f d = some p → VR K β H d v → Dp K H v p) : ∀ {ds : List D} {vs : List V} {ps : List PyData}, allO (ds.map f) = some ps → VRs K β H ds vs → DpAll K H vs ps
  | [], vs, ps, e, r => by cases e; rw [VRs.nil.mp r]; exact .nil
  | d :: ds, vs, ps, e, r => by
    obtain ⟨v, us, rfl, r1, r2⟩ := VRs.cons.mp r
    obtain ⟨p, h1, e⟩ := Option.bind_eq_some_iff.mp (show (f d).bind (fun a => (allO (ds.map f)).bind fun l => some (a :: l)) = some ps from e)
    obtain ⟨l, h2, e⟩ := Option.bind_eq_some_iff.mp e
    cases e
    exact .cons (h d v p h1 r1) (allO_map h h2 r2)
theorem pd_ok {K : PySem.W.Frag} {mg : Str → Option Value} {β : List Addr} {st : Sto} {H : Hp} (S : Sim K mg β st H) : ∀ (n : Nat) (d : D) (v : V) (p : PyData), pd st n d = some p → VR K β H d v → Dp K H v p := by
  intro n
  induction n with
  | zero =>
    intro d v p e r
    cases d with
    | non => cases e; cases VR.non.mp r; exact .non
    | bl b => cases e; cases VR.bl.mp r; exact .bl b
    | int b => cases e; cases VR.int.mp r; exact .int b
    | str b => cases e; cases VR.str.mp r; exact .str b
    | _ => cases e
  | succ n ih =>
    intro d v p e r
    cases d with
    | non => cases e; cases VR.non.mp r; exact .non
    | bl b => cases e; cases VR.bl.mp r; exact .bl b
    | int b => cases e; cases VR.int.mp r; exact .int b
    | str b => cases e; cases VR.str.mp r; exact .str b
    | tup xs =>
      obtain ⟨a, vs, rfl, h1, h2⟩ := VR.tup.mp r
      obtain ⟨l, hl, e⟩ := Option.bind_eq_some_iff.mp (show (allO (xs.map (pd st n))).bind _ = some p from e)
      cases e
      exact .tup h1 (allO_map ih hl h2)
    | frz xs =>
      obtain ⟨a, vs, rfl, h1, h2⟩ := VR.frz.mp r
      obtain ⟨l, hl, e⟩ := Option.bind_eq_some_iff.mp (show (allO (xs.map (pd st n))).bind _ = some p from e)
      cases e
      exact .lst h1.sq (allO_map ih hl h2)
    | loc m =>
      obtain ⟨a, h1, rfl⟩ := VR.loc.mp r
      obtain ⟨o, h2, h3⟩ := S.at h1
      unfold pd at e
      simp only [h2] at e
      cases o with
      | lst xs =>
        obtain ⟨vs, h4, h5⟩ := h3
        obtain ⟨l, hl, e⟩ := Option.bind_eq_some_iff.mp e
        cases e
        exact .lst (SqL.of h4) (allO_map ih hl h5)
      | _ => cases e
theorem o_eq (hu : X.A.units + 64 < cLine) : OpS X W (compareOp .Eq) eqD := OpS.of (op_eqD hu) fun σ H x y Q β st dx dy S rx ry p => by
  unfold eqD at p
  split at p
  · rename_i d e h1 h2
    split at p
    · rename_i hs
      exact ⟨d, e, pd_ok S 40 dx x d h1 rx, pd_ok S 40 dy y e h2 ry, hs.1, hs.2, fin p S (VR.bl.mpr rfl)⟩
    · exact p.elim
  · exact p.elim
theorem o_ne (hu : X.A.units + 64 < cLine) : OpS X W (compareOp .NotEq) neD := OpS.of (op_neD hu) fun σ H x y Q β st dx dy S rx ry p => by
  unfold neD at p
  split at p
  · rename_i d e h1 h2
    split at p
    · rename_i hs
      exact ⟨d, e, pd_ok S 40 dx x d h1 rx, pd_ok S 40 dy y e h2 ry, hs.1, hs.2, fin p S (VR.bl.mpr rfl)⟩
    · exact p.elim
  · exact p.elim
theorem non_rel {K : PySem.W.Frag} {β : List Addr} {H : Hp} {d : D} {v : V} (r : VR K β H d v) : decide (v = .non) = isNon d := by
  cases d with
  | non => cases VR.non.mp r; rfl
  | bl b => cases VR.bl.mp r; rfl
  | int b => cases VR.int.mp r; rfl
  | str b => cases VR.str.mp r; rfl
  | tup xs => obtain ⟨a, vs, rfl, h1, h2⟩ := VR.tup.mp r; rfl
  | frz xs => obtain ⟨a, vs, rfl, h1, h2⟩ := VR.frz.mp r; rfl
  | loc m => obtain ⟨a, h1, rfl⟩ := VR.loc.mp r; rfl
/-- e is None; e is not None -/
theorem q_isN {a : Expr} {ka : KE} {pos pos' : Pos} {j} (ha : PE X a (lift X.K X.mg W ka)) : PE X (.Compare a [.Is] [.Constant .none j pos'] pos) (lift X.K X.mg W (k1 isN ka)) :=
  PE.imp (pe_cmp (pc_isN ha) rfl) fun σ H Q ⟨β, ρ, st, S, E, p⟩ => lift.bind S E p fun d v β1 H1 st1 e1 S1 E1 r1 p1 => by
    rw [non_rel r1]
    exact fin p1 S1 (VR.bl.mpr rfl)
theorem q_notN {a : Expr} {ka : KE} {pos pos' : Pos} {j} (ha : PE X a (lift X.K X.mg W ka)) : PE X (.Compare a [.IsNot] [.Constant .none j pos'] pos) (lift X.K X.mg W (k1 notN ka)) :=
  PE.imp (pe_cmp (pc_notN ha) rfl) fun σ H Q ⟨β, ρ, st, S, E, p⟩ => lift.bind S E p fun d v β1 H1 st1 e1 S1 E1 r1 p1 => by
    rw [non_rel r1]
    exact fin p1 S1 (VR.bl.mpr rfl)
theorem kTb_k1 {α : Type} {f : D → Sto → R D} {ka : KE} {ρ : Env3} {st : Sto} : kTb (k1 f ka) ρ st = (ka ρ st).bind fun d st1 => (f d st1).bind fun d st1 => match d with | .bl b => .ok b st1 | _ => .bad := by
  unfold kTb k1
  cases ka ρ st <;> rfl
theorem q_tisN {a : Expr} {ka : KE} {pos pos' : Pos} {j} (ha : PE X a (lift X.K X.mg W ka)) : PT X (.Compare a [.Is] [.Constant .none j pos'] pos) (liftT X.K X.mg W (kTb (k1 isN ka))) :=
  PT.imp (pt_cmp (pc_isN ha) rfl) fun σ H Q ⟨β, ρ, st, S, E, p⟩ => by
    rw [kTb_k1 (α := Unit)] at p
    exact lift.bind (ok := okT Q) S E p fun d v β1 H1 st1 e1 S1 E1 r1 p1 => by
      rw [non_rel r1]
      exact ⟨_, rfl, p1 β1 H1 (Ext.refl _ _) S1⟩
theorem q_tnotN {a : Expr} {ka : KE} {pos pos' : Pos} {j} (ha : PE X a (lift X.K X.mg W ka)) : PT X (.Compare a [.IsNot] [.Constant .none j pos'] pos) (liftT X.K X.mg W (kTb (k1 notN ka))) :=
  PT.imp (pt_cmp (pc_notN ha) rfl) fun σ H Q ⟨β, ρ, st, S, E, p⟩ => by
    rw [kTb_k1 (α := Unit)] at p
    exact lift.bind (ok := okT Q) S E p fun d v β1 H1 st1 e1 S1 E1 r1 p1 => by
      rw [non_rel r1]
      exact ⟨_, rfl, p1 β1 H1 (Ext.refl _ _) S1⟩

/-! ### in -/
theorem flat_rel {K : PySem.W.Frag} {β : List Addr} {H : Hp} {st : Sto} {d d' : D} {v v' : V} {p p' : PyData} (r : VR K β H d v) (h : flatD d = true) (hp : pd st 1 d = some p) (r' : VR K β H d' v') (h' : flatD d' = true) (hp' : pd st 1 d' = some p') : flatV v = true ∧ eqV v v' = PyData.eqv p p' := by
  cases d with
  | non => cases VR.non.mp r; cases hp; cases d' with
      | non => cases VR.non.mp r'; cases hp'; simp [PyData.eqv, eqV, flatV]
      | bl b => cases VR.bl.mp r'; cases hp'; simp [PyData.eqv, eqV, flatV]
      | int b => cases VR.int.mp r'; cases hp'; simp [PyData.eqv, eqV, flatV]
      | str b => cases VR.str.mp r'; cases hp'; simp [PyData.eqv, eqV, flatV]
      | _ => cases h'
  | bl b => cases VR.bl.mp r; cases hp; cases d' with
      | non => cases VR.non.mp r'; cases hp'; simp [PyData.eqv, eqV, flatV]
      | bl b => cases VR.bl.mp r'; cases hp'; simp [PyData.eqv, eqV, flatV]
      | int b => cases VR.int.mp r'; cases hp'; simp [PyData.eqv, eqV, flatV]
      | str b => cases VR.str.mp r'; cases hp'; simp [PyData.eqv, eqV, flatV]
      | _ => cases h'
  | int b => cases VR.int.mp r; cases hp; cases d' with
      | non => cases VR.non.mp r'; cases hp'; simp [PyData.eqv, eqV, flatV]
      | bl b => cases VR.bl.mp r'; cases hp'; simp [PyData.eqv, eqV, flatV]
      | int b => cases VR.int.mp r'; cases hp'; simp [PyData.eqv, eqV, flatV]
      | str b => cases VR.str.mp r'; cases hp'; simp [PyData.eqv, eqV, flatV]
      | _ => cases h'
  | str b => cases VR.str.mp r; cases hp; cases d' with
      | non => cases VR.non.mp r'; cases hp'; simp [PyData.eqv, eqV, flatV]
      | bl b => cases VR.bl.mp r'; cases hp'; simp [PyData.eqv, eqV, flatV]
      | int b => cases VR.int.mp r'; cases hp'; simp [PyData.eqv, eqV, flatV]
      | str b => cases VR.str.mp r'; cases hp'; simp [PyData.eqv, eqV, flatV]
      | _ => cases h'
  | _ => cases h
theorem inV_rel {K : PySem.W.Frag} {β : List Addr} {H : Hp} {st : Sto} {d : D} {v : V} {p : PyData} (r : VR K β H d v) (h : flatD d = true) (hp : pd st 1 d = some p) : ∀ {ds : List D} {vs : List V} {ps : List PyData}, VRs K β H ds vs → ds.all flatD = true → allO (ds.map (pd st 1)) = some ps → vs.all flatV = true ∧ inV v vs = ps.any fun z => PyData.eqv z p
  | [], vs, ps, rs, hs, e => by cases e; rw [VRs.nil.mp rs]; exact ⟨rfl, rfl⟩
  | c :: ds, vs, ps, rs, hs, e => by
    obtain ⟨w, us, rfl, r1, r2⟩ := VRs.cons.mp rs
    obtain ⟨q, h1, e⟩ := Option.bind_eq_some_iff.mp (show (pd st 1 c).bind (fun a => (allO (ds.map (pd st 1))).bind fun l => some (a :: l)) = some ps from e)
    obtain ⟨l, h2, e⟩ := Option.bind_eq_some_iff.mp e
    cases e
    rw [List.all_cons, Bool.and_eq_true] at hs
    obtain ⟨f1, f2⟩ := inV_rel r h hp r2 hs.2 h2
    obtain ⟨g1, g2⟩ := flat_rel r1 hs.1 h1 r h hp
    refine ⟨by rw [List.all_cons, g1, f1]; rfl, ?_⟩
    show (eqV w v || inV v us) = (PyData.eqv q p || l.any fun z => PyData.eqv z p)
    rw [g2, f2]
theorem o_in (hu : X.A.units + 65 < cLine) : OpS X W (compareOp .In) (inD false) := OpS.of (op_in_str.or (op_in_seq.or (op_inD hu))) fun σ H x y Q β st dx dy S rx ry p => by
  unfold inD at p
  split at p
  · split at p
    · cases VR.str.mp rx; cases VR.str.mp ry
      exact .inl ⟨_, _, rfl, rfl, fin p S (VR.bl.mpr (by simp))⟩
    · exact p.elim
  · rename_i xs
    obtain ⟨a, vs, rfl, h1, h2⟩ := VR.tup.mp ry
    have key : flatD dx = true → PostA X.K X.mg W σ (okE X.K Q) β H (if xs.all flatD = true then match pd st 1 dx, allO (xs.map (pd st 1)) with
        | some d, some ds => .ok (.bl (false != ds.any fun z => PyData.eqv z d)) st
        | _, _ => .bad
      else .bad) → rIn X.K false x (.ref a) H Q := fun hf p => by
      split at p
      · rename_i hx
        split at p
        · rename_i d ds e1 e2
          obtain ⟨f1, f2⟩ := inV_rel rx hf e1 h2 hx e2
          have hfx : flatV x = true := (flat_rel rx hf e1 rx hf e1).1
          exact ⟨a, vs, rfl, .inr h1, hfx, f1, fin p S (VR.bl.mpr (by rw [← f2]; simp))⟩
        · exact p.elim
      · exact p.elim
    cases dx with
    | non => exact .inr (.inl (key rfl p))
    | bl _ => exact .inr (.inl (key rfl p))
    | int _ => exact .inr (.inl (key rfl p))
    | str _ => exact .inr (.inl (key rfl p))
    | _ => exact p.elim
  · split at p
    · rename_i d ds e1 e2
      split at p
      · rename_i hs
        exact .inr (.inr ⟨d, ds, pd_ok S 40 _ _ _ e1 rx, pd_ok S 40 _ _ _ e2 ry, hs.1, hs.2, fin p S (VR.bl.mpr (by simp))⟩)
      · exact p.elim
    · exact p.elim
theorem o_notIn (hu : X.A.units + 65 < cLine) : OpS X W (compareOp .NotIn) (inD true) := OpS.of (op_notIn_str.or (op_notIn_seq.or (op_notInD hu))) fun σ H x y Q β st dx dy S rx ry p => by
  unfold inD at p
  split at p
  · split at p
    · cases VR.str.mp rx; cases VR.str.mp ry
      exact .inl ⟨_, _, rfl, rfl, fin p S (VR.bl.mpr (by simp))⟩
    · exact p.elim
  · rename_i xs
    obtain ⟨a, vs, rfl, h1, h2⟩ := VR.tup.mp ry
    have key : flatD dx = true → PostA X.K X.mg W σ (okE X.K Q) β H (if xs.all flatD = true then match pd st 1 dx, allO (xs.map (pd st 1)) with
        | some d, some ds => .ok (.bl (true != ds.any fun z => PyData.eqv z d)) st
        | _, _ => .bad
      else .bad) → rIn X.K true x (.ref a) H Q := fun hf p => by
      split at p
      · rename_i hx
        split at p
        · rename_i d ds e1 e2
          obtain ⟨f1, f2⟩ := inV_rel rx hf e1 h2 hx e2
          have hfx : flatV x = true := (flat_rel rx hf e1 rx hf e1).1
          exact ⟨a, vs, rfl, .inr h1, hfx, f1, fin p S (VR.bl.mpr (by rw [← f2]; simp))⟩
        · exact p.elim
      · exact p.elim
    cases dx with
    | non => exact .inr (.inl (key rfl p))
    | bl _ => exact .inr (.inl (key rfl p))
    | int _ => exact .inr (.inl (key rfl p))
    | str _ => exact .inr (.inl (key rfl p))
    | _ => exact p.elim
  · split at p
    · rename_i d ds e1 e2
      split at p
      · rename_i hs
        exact .inr (.inr ⟨d, ds, pd_ok S 40 _ _ _ e1 rx, pd_ok S 40 _ _ _ e2 ry, hs.1, hs.2, fin p S (VR.bl.mpr (by simp))⟩)
      · exact p.elim
    · exact p.elim

/-! ### x[i] -/
theorem atI_rel {K : PySem.W.Frag} {β : List Addr} {H : Hp} {ds : List D} {vs : List V} {i : Int} {d : D} (r : VRs K β H ds vs) (h : atI ds i = some d) : ∃ v, atI vs i = some v ∧ VR K β H d v := by
  unfold atI at h ⊢
  rw [r.length]
  obtain ⟨j, h1, h2⟩ := Option.bind_eq_some_iff.mp h
  obtain ⟨v, h3, h4⟩ := r.getD h2
  exact ⟨v, by rw [h1]; exact h3, h4⟩
theorem x_ix : IxS X W ixD := by
  intro value slice pins s σ H x y v u Q β st dx dy I rx ry S vx vy p hs
  refine ix_seq value slice pins s σ H x y v u Q I rx ry ?_ hs
  unfold ixD at p
  split at p
  · rename_i i
    cases VR.int.mp vy
    split at p
    · obtain ⟨a, vs, rfl, h1, h2⟩ := VR.tup.mp vx
      split at p
      · rename_i d hd
        obtain ⟨w, h3, h4⟩ := atI_rel h2 hd
        exact .inr (.inl ⟨a, vs, i, w, rfl, rfl, h1, h3, fin p S h4⟩)
      · exact p.elim
    · obtain ⟨a, vs, rfl, h1, h2⟩ := VR.frz.mp vx
      split at p
      · rename_i d hd
        obtain ⟨w, h3, h4⟩ := atI_rel h2 hd
        exact .inl ⟨a, vs, i, w, rfl, rfl, h1.sq, h3, fin p S h4⟩
      · exact p.elim
    · cases VR.str.mp vx
      split at p
      · rename_i hz
        split at p
        · rename_i c hc
          exact .inr (.inr ⟨_, i, c, rfl, rfl, szl hz, hc, fin p S (VR.str.mpr rfl)⟩)
        · exact p.elim
      · exact p.elim
    · rename_i n
      obtain ⟨a, h1, rfl⟩ := VR.loc.mp vx
      obtain ⟨o, h2, h3⟩ := S.at h1
      simp only [h2] at p
      cases o with
      | lst xs =>
        obtain ⟨vs, h4, h5⟩ := h3
        simp only at p
        split at p
        · rename_i d hd
          obtain ⟨w, h6, h7⟩ := atI_rel h5 hd
          exact .inl ⟨a, vs, i, w, rfl, rfl, SqL.of h4, h6, fin p S h7⟩
        · exact p.elim
      | _ => exact p.elim
    · exact p.elim
  · exact p.elim
end
end L3

namespace L3
open PySem PySem.Spec PyProof.Rows L2

/-! ### built-in functions -/
def lenF (ds : List D) (st : Sto) : R D := match ds with
  | [.tup xs] => .ok (.int xs.length) st
  | [.frz xs] => .ok (.int xs.length) st
  | [.str x] => if x.length ≤ 16777216 then .ok (.int x.length) st else .bad
  | [.loc n] => match st[n]? with
    | some (.lst xs) => .ok (.int xs.length) st
    | _ => .bad
  | _ => .bad
def absF (ds : List D) (st : Sto) : R D := match ds with
  | [.int i] => .ok (.int (if i < 0 then -i else i)) st
  | _ => .bad
def maxF (ds : List D) (st : Sto) : R D := match ds with
  | [.int i, .int j] => .ok (.int (if j > i then j else i)) st
  | _ => .bad
def minF (ds : List D) (st : Sto) : R D := match ds with
  | [.int i, .int j] => .ok (.int (if j < i then j else i)) st
  | _ => .bad
def intF (ds : List D) (st : Sto) : R D := match ds with
  | [.int i] => .ok (.int i) st
  | [.bl k] => .ok (.int (if k then 1 else 0)) st
  | _ => .bad
def reprF (ds : List D) (st : Sto) : R D := match ds with
  | [.bl b] => .ok (.str (if b then "True" else "False")) st
  | [.int i] => if i.natAbs.log2 < 1920 then .ok (.str (toString i)) st else .bad
  | _ => .bad
def listF (ds : List D) (st : Sto) : R D := match ds with
  | [.tup xs] => .ok (.loc st.length) (st ++ [.lst xs])
  | [.frz xs] => .ok (.loc st.length) (st ++ [.lst xs])
  | [.loc n] => match st[n]? with
    | some (.lst xs) => .ok (.loc st.length) (st ++ [.lst xs])
    | _ => .bad
  | _ => .bad
def tupleF (ds : List D) (st : Sto) : R D := match ds with
  | [.tup xs] => .ok (.tup xs) st
  | [.frz xs] => .ok (.tup xs) st
  | [.loc n] => match st[n]? with
    | some (.lst xs) => .ok (.tup xs) st
    | _ => .bad
  | _ => .bad
def boolsO : List D → Option (List Bool)
  | [] => some []
  | .bl b :: r => (boolsO r).bind fun l => some (b :: l)
  | _ :: _ => none
def intsO : List D → Option (List Int)
  | [] => some []
  | .int b :: r => (intsO r).bind fun l => some (b :: l)
  | _ :: _ => none
def strsO : List D → Option (List Str)
  | [] => some []
  | .str b :: r => (strsO r).bind fun l => some (b :: l)
  | _ :: _ => none
def itemsD (d : D) (st : Sto) : Option (List D) := match d with
  | .frz xs => some xs
  | .loc n => match st[n]? with
    | some (.lst xs) => some xs
    | _ => none
  | _ => none
def allF (ds : List D) (st : Sto) : R D := match ds with
  | [d] => match (itemsD d st).bind boolsO with
    | some bs => .ok (.bl (bs.all id)) st
    | none => .bad
  | _ => .bad
def anyF (ds : List D) (st : Sto) : R D := match ds with
  | [d] => match (itemsD d st).bind boolsO with
    | some bs => .ok (.bl (bs.any id)) st
    | none => .bad
  | _ => .bad
def sumF (ds : List D) (st : Sto) : R D := match ds with
  | [d] => match (itemsD d st).bind intsO with
    | some bs => .ok (.int bs.sum) st
    | none => .bad
  | _ => .bad
/-! ### methods -/
def appendM (d : D) (ds : List D) (st : Sto) : R D := match d, ds with
  | .loc n, [y] => match st[n]? with
    | some (.lst xs) => if xs.length < 16777216 then .ok .non (st.set n (.lst (xs ++ [y]))) else .bad
    | _ => .bad
  | _, _ => .bad
def extendM (d : D) (ds : List D) (st : Sto) : R D := match d, ds with
  | .loc n, [.loc m] => match st[n]?, st[m]? with
    | some (.lst xs), some (.lst ys) => if xs.length + ys.length ≤ 16777216 then .ok .non (st.set n (.lst (xs ++ ys))) else .bad
    | _, _ => .bad
  | _, _ => .bad
def popM (d : D) (ds : List D) (st : Sto) : R D := match d, ds with
  | .loc n, [] => match st[n]? with
    | some (.lst xs) => match xs[xs.length - 1]? with
      | some y => .ok y (st.set n (.lst xs.dropLast))
      | none => .bad
    | _ => .bad
  | _, _ => .bad
def popAtM (d : D) (ds : List D) (st : Sto) : R D := match d, ds with
  | .loc n, [.int i] => match st[n]? with
    | some (.lst xs) => if -(2 ^ 63) ≤ i ∧ i < 2 ^ 63 then match seqIndex? i xs.length with
        | some k => match xs[k]? with
          | some y => .ok y (st.set n (.lst (xs.eraseIdx k)))
          | none => .bad
        | none => .bad
      else .bad
    | _ => .bad
  | _, _ => .bad
def joinM (d : D) (ds : List D) (st : Sto) : R D := match d, ds with
  | .str a, [y] => match (match y with | .tup xs => some xs | y => itemsD y st).bind strsO with
    | some ys => if (ys.map (·.length)).sum + ys.length * a.length ≤ 16777216 then .ok (.str (Txt.join a ys)) st else .bad
    | none => .bad
  | _, _ => .bad
def upperM (d : D) (ds : List D) (st : Sto) : R D := match d, ds with
  | .str a, [] => if a.length ≤ 5592405 then .ok (.str (Txt.upper a)) st else .bad
  | _, _ => .bad

section
variable {X : Cx} {W : WX}
theorem VRs.one {K : PySem.W.Frag} {β : List Addr} {H : Hp} {d : D} {vs : List V} (h : VRs K β H [d] vs) : ∃ v, vs = [v] ∧ VR K β H d v := by
  obtain ⟨v, r, rfl, h1, h2⟩ := VRs.cons.mp h
  cases VRs.nil.mp h2
  exact ⟨v, rfl, h1⟩
theorem VRs.two {K : PySem.W.Frag} {β : List Addr} {H : Hp} {d e : D} {vs : List V} (h : VRs K β H [d, e] vs) : ∃ v w, vs = [v, w] ∧ VR K β H d v ∧ VR K β H e w := by
  obtain ⟨v, r, rfl, h1, h2⟩ := VRs.cons.mp h
  obtain ⟨w, rfl, h3⟩ := h2.one
  exact ⟨v, w, rfl, h1, h3⟩
theorem f_len : CallS X W (.builtin "len") lenF := CallS.of (call_len_seq.or call_len_str) fun σ H xs Q β st ds S r p => by
  unfold lenF at p
  split at p
  · obtain ⟨v, rfl, h⟩ := r.one
    obtain ⟨a, vs, rfl, h1, h2⟩ := VR.tup.mp h
    exact .inl ⟨a, vs, rfl, .inr h1, fin p S (VR.int.mpr (by rw [h2.length]))⟩
  · obtain ⟨v, rfl, h⟩ := r.one
    obtain ⟨a, vs, rfl, h1, h2⟩ := VR.frz.mp h
    exact .inl ⟨a, vs, rfl, .inl h1.sq, fin p S (VR.int.mpr (by rw [h2.length]))⟩
  · obtain ⟨v, rfl, h⟩ := r.one
    cases VR.str.mp h
    split at p
    · rename_i hz; exact .inr ⟨_, rfl, szl hz, fin p S (VR.int.mpr rfl)⟩
    · exact p.elim
  · obtain ⟨v, rfl, h⟩ := r.one
    obtain ⟨a, h1, rfl⟩ := VR.loc.mp h
    obtain ⟨o, h2, h3⟩ := S.at h1
    simp only [h2] at p
    cases o with
    | lst xs =>
      obtain ⟨vs, h4, h5⟩ := h3
      exact .inl ⟨a, vs, rfl, .inl (SqL.of h4), fin p S (VR.int.mpr (by rw [h5.length]))⟩
    | _ => exact p.elim
  · exact p.elim
theorem f_abs : CallS X W (.builtin "abs") absF := CallS.of call_abs fun σ H xs Q β st ds S r p => by
  unfold absF at p
  split at p
  · obtain ⟨v, rfl, h⟩ := r.one
    cases VR.int.mp h
    exact ⟨_, rfl, fin p S (VR.int.mpr rfl)⟩
  · exact p.elim
theorem f_max (hc : X.calm = true) : CallS X W (.builtin "max") maxF := CallS.of (call_max2 hc) fun σ H xs Q β st ds S r p => by
  unfold maxF at p
  split at p
  · obtain ⟨v, w, rfl, h, h'⟩ := r.two
    cases VR.int.mp h; cases VR.int.mp h'
    exact ⟨_, _, rfl, fin p S (VR.int.mpr rfl)⟩
  · exact p.elim
theorem f_min (hc : X.calm = true) : CallS X W (.builtin "min") minF := CallS.of (call_min2 hc) fun σ H xs Q β st ds S r p => by
  unfold minF at p
  split at p
  · obtain ⟨v, w, rfl, h, h'⟩ := r.two
    cases VR.int.mp h; cases VR.int.mp h'
    exact ⟨_, _, rfl, fin p S (VR.int.mpr rfl)⟩
  · exact p.elim
theorem f_int : CallS X W (.type "int") intF := CallS.of call_int1 fun σ H xs Q β st ds S r p => by
  unfold intF at p
  split at p
  · obtain ⟨v, rfl, h⟩ := r.one
    cases VR.int.mp h
    exact .inl ⟨_, rfl, fin p S (VR.int.mpr rfl)⟩
  · obtain ⟨v, rfl, h⟩ := r.one
    cases VR.bl.mp h
    exact .inr ⟨_, rfl, fin p S (VR.int.mpr rfl)⟩
  · exact p.elim
theorem call_repr_bl : CallR X (.builtin "repr") (fun xs H Q => ∃ b, xs = [.bl b] ∧ Q (.str (if b then "True" else "False")) H) := by
  intro pins s σ H xs us Q I r h
  obtain ⟨b, rfl, q⟩ := h
  obtain ⟨u, rfl, r1⟩ := vals1 r
  cases r1
  exact PySem.P.repr_of_bool ⟨.str _, H, I.tok _, ⟨_, rfl⟩, q⟩
theorem call_repr_i : CallR X (.builtin "repr") (fun xs H Q => ∃ i, xs = [.int i] ∧ i.natAbs.log2 < 1920 ∧ Q (.str (toString i)) H) := by
  intro pins s σ H xs us Q I r h
  obtain ⟨i, rfl, hz, q⟩ := h
  obtain ⟨u, rfl, t, rfl⟩ := vals1 r
  exact PySem.P.repr_of_int hz ⟨.str _, H, I.tok _, ⟨_, rfl⟩, q⟩
theorem f_repr : CallS X W (.builtin "repr") reprF := CallS.of (call_repr_bl.or call_repr_i) fun σ H xs Q β st ds S r p => by
  unfold reprF at p
  split at p
  · obtain ⟨v, rfl, h⟩ := r.one
    cases VR.bl.mp h
    exact .inl ⟨_, rfl, fin p S (VR.str.mpr rfl)⟩
  · obtain ⟨v, rfl, h⟩ := r.one
    cases VR.int.mp h
    split at p
    · rename_i hz; exact .inr ⟨_, rfl, hz, fin p S (VR.str.mpr rfl)⟩
    · exact p.elim
  · exact p.elim
theorem f_list : CallS X W (.type "list") listF := CallS.of call_list_of fun σ H xs Q β st ds S r p => by
  unfold listF at p
  split at p
  · obtain ⟨v, rfl, h⟩ := r.one
    obtain ⟨a, vs, rfl, h1, h2⟩ := VR.tup.mp h
    exact ⟨a, vs, rfl, .inr h1, fun q hq => by obtain ⟨x1, x2, x3⟩ := newLst S h2 hq; exact p _ _ x1 x2 _ x3⟩
  · obtain ⟨v, rfl, h⟩ := r.one
    obtain ⟨a, vs, rfl, h1, h2⟩ := VR.frz.mp h
    exact ⟨a, vs, rfl, .inl h1.sq, fun q hq => by obtain ⟨x1, x2, x3⟩ := newLst S h2 hq; exact p _ _ x1 x2 _ x3⟩
  · obtain ⟨v, rfl, h⟩ := r.one
    obtain ⟨a, h1, rfl⟩ := VR.loc.mp h
    obtain ⟨o, h2, h3⟩ := S.at h1
    simp only [h2] at p
    cases o with
    | lst xs =>
      obtain ⟨vs, h4, h5⟩ := h3
      exact ⟨a, vs, rfl, .inl (SqL.of h4), fun q hq => by obtain ⟨x1, x2, x3⟩ := newLst S h5 hq; exact p _ _ x1 x2 _ x3⟩
    | _ => exact p.elim
  · exact p.elim
theorem f_tuple : CallS X W (.type "tuple") tupleF := CallS.of call_tuple_of fun σ H xs Q β st ds S r p => by
  unfold tupleF at p
  split at p
  · obtain ⟨v, rfl, h⟩ := r.one
    obtain ⟨a, vs, rfl, h1, h2⟩ := VR.tup.mp h
    exact ⟨a, vs, rfl, .inr ⟨h1, fin p S h⟩⟩
  · obtain ⟨v, rfl, h⟩ := r.one
    obtain ⟨a, vs, rfl, h1, h2⟩ := VR.frz.mp h
    exact ⟨a, vs, rfl, .inl ⟨h1.sq, fun q hq => p β _ (ext_new0 hq) (S.new0 hq) _ (VR.tup.mpr ⟨q, vs, rfl, SqT.of upd_same, VRs.mono (ext_new0 hq) _ _ h2⟩)⟩⟩
  · obtain ⟨v, rfl, h⟩ := r.one
    obtain ⟨a, h1, rfl⟩ := VR.loc.mp h
    obtain ⟨o, h2, h3⟩ := S.at h1
    simp only [h2] at p
    cases o with
    | lst xs =>
      obtain ⟨vs, h4, h5⟩ := h3
      exact ⟨a, vs, rfl, .inl ⟨SqL.of h4, fun q hq => p β _ (ext_new0 hq) (S.new0 hq) _ (VR.tup.mpr ⟨q, vs, rfl, SqT.of upd_same, VRs.mono (ext_new0 hq) _ _ h5⟩)⟩⟩
    | _ => exact p.elim
  · exact p.elim
theorem items_rel {K : PySem.W.Frag} {mg : Str → Option Value} {β : List Addr} {st : Sto} {H : Hp} {d : D} {v : V} {xs : List D} (S : Sim K mg β st H) (r : VR K β H d v) (h : itemsD d st = some xs) : ∃ a vs, v = .ref a ∧ SqL K H a vs ∧ VRs K β H xs vs := by
  cases d with
  | frz ys =>
    cases h
    obtain ⟨a, vs, rfl, h1, h2⟩ := VR.frz.mp r
    exact ⟨a, vs, rfl, h1.sq, h2⟩
  | loc n =>
    obtain ⟨a, h1, rfl⟩ := VR.loc.mp r
    obtain ⟨o, h2, h3⟩ := S.at h1
    simp only [itemsD, h2] at h
    cases o with
    | lst ys => cases h; obtain ⟨vs, h4, h5⟩ := h3; exact ⟨a, vs, rfl, SqL.of h4, h5⟩
    | _ => cases h
  | _ => cases h
theorem bools_rel {K : PySem.W.Frag} {β : List Addr} {H : Hp} : ∀ {ds : List D} {vs : List V} {bs : List Bool}, boolsO ds = some bs → VRs K β H ds vs → vs = bs.map V.bl
  | [], vs, bs, e, r => by cases e; exact VRs.nil.mp r
  | .bl b :: ds, vs, bs, e, r => by
    obtain ⟨v, us, rfl, r1, r2⟩ := VRs.cons.mp r
    obtain ⟨l, h1, e⟩ := Option.bind_eq_some_iff.mp (show (boolsO ds).bind _ = some bs from e)
    cases e
    rw [VR.bl.mp r1, bools_rel h1 r2]; rfl
  | .non :: _, _, _, e, _ => by cases e
  | .int _ :: _, _, _, e, _ => by cases e
  | .str _ :: _, _, _, e, _ => by cases e
  | .tup _ :: _, _, _, e, _ => by cases e
  | .frz _ :: _, _, _, e, _ => by cases e
  | .loc _ :: _, _, _, e, _ => by cases e
theorem ints_rel {K : PySem.W.Frag} {β : List Addr} {H : Hp} : ∀ {ds : List D} {vs : List V} {bs : List Int}, intsO ds = some bs → VRs K β H ds vs → vs = bs.map V.int
  | [], vs, bs, e, r => by cases e; exact VRs.nil.mp r
  | .int b :: ds, vs, bs, e, r => by
    obtain ⟨v, us, rfl, r1, r2⟩ := VRs.cons.mp r
    obtain ⟨l, h1, e⟩ := Option.bind_eq_some_iff.mp (show (intsO ds).bind _ = some bs from e)
    cases e
    rw [VR.int.mp r1, ints_rel h1 r2]; rfl
  | .non :: _, _, _, e, _ => by cases e
  | .bl _ :: _, _, _, e, _ => by cases e
  | .str _ :: _, _, _, e, _ => by cases e
  | .tup _ :: _, _, _, e, _ => by cases e
  | .frz _ :: _, _, _, e, _ => by cases e
  | .loc _ :: _, _, _, e, _ => by cases e
theorem strs_rel {K : PySem.W.Frag} {β : List Addr} {H : Hp} : ∀ {ds : List D} {vs : List V} {bs : List Str}, strsO ds = some bs → VRs K β H ds vs → vs = bs.map V.str
  | [], vs, bs, e, r => by cases e; exact VRs.nil.mp r
  | .str b :: ds, vs, bs, e, r => by
    obtain ⟨v, us, rfl, r1, r2⟩ := VRs.cons.mp r
    obtain ⟨l, h1, e⟩ := Option.bind_eq_some_iff.mp (show (strsO ds).bind _ = some bs from e)
    cases e
    rw [VR.str.mp r1, strs_rel h1 r2]; rfl
  | .non :: _, _, _, e, _ => by cases e
  | .bl _ :: _, _, _, e, _ => by cases e
  | .int _ :: _, _, _, e, _ => by cases e
  | .tup _ :: _, _, _, e, _ => by cases e
  | .frz _ :: _, _, _, e, _ => by cases e
  | .loc _ :: _, _, _, e, _ => by cases e
theorem f_all (hc : X.calm = true) : CallS X W (.builtin "all") allF := CallS.of (cr_all hc) fun σ H xs Q β st ds S r p => by
  unfold allF at p
  split at p
  · obtain ⟨v, rfl, h⟩ := r.one
    split at p
    · rename_i bs hb
      obtain ⟨ys, h1, h2⟩ := Option.bind_eq_some_iff.mp hb
      obtain ⟨a, vs, rfl, h3, h4⟩ := items_rel S h h1
      rw [bools_rel h2 h4] at h3
      exact ⟨a, bs, rfl, h3, fin p S (VR.bl.mpr rfl)⟩
    · exact p.elim
  · exact p.elim
theorem f_any (hc : X.calm = true) : CallS X W (.builtin "any") anyF := CallS.of (cr_any hc) fun σ H xs Q β st ds S r p => by
  unfold anyF at p
  split at p
  · obtain ⟨v, rfl, h⟩ := r.one
    split at p
    · rename_i bs hb
      obtain ⟨ys, h1, h2⟩ := Option.bind_eq_some_iff.mp hb
      obtain ⟨a, vs, rfl, h3, h4⟩ := items_rel S h h1
      rw [bools_rel h2 h4] at h3
      exact ⟨a, bs, rfl, h3, fin p S (VR.bl.mpr rfl)⟩
    · exact p.elim
  · exact p.elim
theorem f_sum (hc : X.calm = true) : CallS X W (.builtin "sum") sumF := CallS.of (cr_sum hc) fun σ H xs Q β st ds S r p => by
  unfold sumF at p
  split at p
  · obtain ⟨v, rfl, h⟩ := r.one
    split at p
    · rename_i bs hb
      obtain ⟨ys, h1, h2⟩ := Option.bind_eq_some_iff.mp hb
      obtain ⟨a, vs, rfl, h3, h4⟩ := items_rel S h h1
      rw [ints_rel h2 h4] at h3
      exact ⟨a, bs, rfl, h3, fin p S (VR.int.mpr rfl)⟩
    · exact p.elim
  · exact p.elim

/-! ### methods -/
theorem m_append : MtS3 X W "list.append" appendM := MtS3.of mt_append fun σ H x xs Q β st d ds S rd rs p => by
  unfold appendM at p
  split at p
  · rename_i n y
    obtain ⟨a, h1, rfl⟩ := VR.loc.mp rd
    obtain ⟨v, rfl, h⟩ := rs.one
    obtain ⟨o, h2, h3⟩ := S.at h1
    simp only [h2] at p
    cases o with
    | lst xs =>
      simp only at p
      split at p
      · rename_i hz
        obtain ⟨vs, h4, h5⟩ := h3
        refine ⟨a, vs, v, rfl, rfl, h4, by rw [h5.length, sizeLine_eq]; exact hz, p β _ (S.ext h1) (S.set h1 ⟨_, upd_same, VRs.mono (S.ext h1) _ _ (h5.append (VRs.cons.mpr ⟨v, [], rfl, h, VRs.nil.mpr rfl⟩))⟩) _ (VR.non.mpr rfl)⟩
      · exact p.elim
    | _ => exact p.elim
  · exact p.elim
theorem m_extend : MtS3 X W "list.extend" extendM := MtS3.of mt_extend fun σ H x xs Q β st d ds S rd rs p => by
  unfold extendM at p
  split at p
  · rename_i n m
    obtain ⟨a, h1, rfl⟩ := VR.loc.mp rd
    obtain ⟨v, rfl, h⟩ := rs.one
    obtain ⟨b, g1, rfl⟩ := VR.loc.mp h
    obtain ⟨o, h2, h3⟩ := S.at h1
    obtain ⟨o', g2, g3⟩ := S.at g1
    simp only [h2, g2] at p
    cases o with
    | lst xs =>
      cases o' with
      | lst ys =>
        simp only at p
        split at p
        · rename_i hz
          obtain ⟨vs, h4, h5⟩ := h3
          obtain ⟨us, g4, g5⟩ := g3
          refine ⟨a, b, vs, us, rfl, rfl, h4, g4, by rw [h5.length, g5.length]; exact szl hz, p β _ (S.ext h1) (S.set h1 ⟨_, upd_same, VRs.mono (S.ext h1) _ _ (h5.append g5)⟩) _ (VR.non.mpr rfl)⟩
        · exact p.elim
      | _ => exact p.elim
    | _ => cases o' <;> exact p.elim
  · exact p.elim
theorem VRs.dropLast {K : PySem.W.Frag} {β : List Addr} {H : Hp} {ds : List D} {vs : List V} (h : VRs K β H ds vs) : VRs K β H ds.dropLast vs.dropLast := by
  rw [List.dropLast_eq_take, List.dropLast_eq_take, h.length]
  exact h.take _
theorem m_pop : MtS3 X W "list.pop" popM := MtS3.of mt_pop fun σ H x xs Q β st d ds S rd rs p => by
  unfold popM at p
  split at p
  · rename_i n
    obtain ⟨a, h1, rfl⟩ := VR.loc.mp rd
    cases VRs.nil.mp rs
    obtain ⟨o, h2, h3⟩ := S.at h1
    simp only [h2] at p
    cases o with
    | lst xs =>
      simp only at p
      split at p
      · rename_i y hy
        obtain ⟨vs, h4, h5⟩ := h3
        obtain ⟨w, h6, h7⟩ := h5.getD hy
        exact ⟨a, vs, w, rfl, rfl, h4, by rw [h5.length]; exact h6, p β _ (S.ext h1) (S.set h1 ⟨_, upd_same, VRs.mono (S.ext h1) _ _ h5.dropLast⟩) _ (VR.mono (S.ext h1) _ _ h7)⟩
      · exact p.elim
    | _ => exact p.elim
  · exact p.elim
theorem m_popAt : MtS3 X W "list.pop" popAtM := MtS3.of mt_popAt fun σ H x xs Q β st d ds S rd rs p => by
  unfold popAtM at p
  split at p
  · rename_i n i
    obtain ⟨a, h1, rfl⟩ := VR.loc.mp rd
    obtain ⟨v, rfl, h⟩ := rs.one
    cases VR.int.mp h
    obtain ⟨o, h2, h3⟩ := S.at h1
    simp only [h2] at p
    cases o with
    | lst xs =>
      simp only at p
      split at p
      · rename_i hi
        split at p
        · rename_i k hk
          split at p
          · rename_i y hy
            obtain ⟨vs, h4, h5⟩ := h3
            obtain ⟨w, h6, h7⟩ := h5.getD hy
            exact ⟨a, vs, i, k, w, rfl, rfl, h4, hi.1, hi.2, by rw [h5.length]; exact hk, h6, p β _ (S.ext h1) (S.set h1 ⟨_, upd_same, VRs.mono (S.ext h1) _ _ (h5.eraseIdx k)⟩) _ (VR.mono (S.ext h1) _ _ h7)⟩
          · exact p.elim
        · exact p.elim
      · exact p.elim
    | _ => exact p.elim
  · exact p.elim
theorem m_join : MtS3 X W "str.join" joinM := MtS3.of mt_join fun σ H x xs Q β st d ds S rd rs p => by
  unfold joinM at p
  split at p
  · rename_i a y
    cases VR.str.mp rd
    obtain ⟨v, rfl, h⟩ := rs.one
    split at p
    · rename_i ys hy
      split at p
      · rename_i hz
        obtain ⟨zs, h1, h2⟩ := Option.bind_eq_some_iff.mp hy
        have key : ∃ q vs, v = .ref q ∧ (SqL X.K H q vs ∨ SqT X.K H q vs) ∧ VRs X.K β H zs vs := by
          cases y with
          | tup xs => cases h1; obtain ⟨q, vs, rfl, g1, g2⟩ := VR.tup.mp h; exact ⟨q, vs, rfl, .inr g1, g2⟩
          | frz xs => obtain ⟨q, vs, rfl, g1, g2⟩ := items_rel S h h1; exact ⟨q, vs, rfl, .inl g1, g2⟩
          | loc xs => obtain ⟨q, vs, rfl, g1, g2⟩ := items_rel S h h1; exact ⟨q, vs, rfl, .inl g1, g2⟩
          | _ => cases h1
        obtain ⟨q, vs, rfl, g1, g2⟩ := key
        rw [strs_rel h2 g2] at g1
        exact ⟨a, q, ys, rfl, rfl, g1, hz, fin p S (VR.str.mpr rfl)⟩
      · exact p.elim
    · exact p.elim
  · exact p.elim
theorem m_upper : MtS3 X W "str.upper" upperM := MtS3.of mt_upper fun σ H x xs Q β st d ds S rd rs p => by
  unfold upperM at p
  split at p
  · cases VR.str.mp rd
    cases VRs.nil.mp rs
    split at p
    · rename_i hz; exact ⟨_, rfl, rfl, hz, fin p S (VR.str.mpr rfl)⟩
    · exact p.elim
  · exact p.elim

/-! ### isinstance(e, a built-in class) -/
def tyN (d : D) (st : Sto) : Option String := match d with
  | .non => some "NoneType"
  | .bl _ => some "bool"
  | .int _ => some "int"
  | .str _ => some "str"
  | .tup _ => some "tuple"
  | .frz _ => some "list"
  | .loc n => match st[n]? with
    | some (.lst _) => some "list"
    | some (.dK _) => some "dict"
    | some (.dT _) => some "dict"
    | _ => none
def isF (T : String) (d : D) (st : Sto) : R D := match (tyN d st).bind fun a => kitB a T with
  | some b => .ok (.bl b) st
  | none => .bad
theorem ty_of {K : PySem.W.Frag} {mg : Str → Option Value} {β : List Addr} {st : Sto} {H : Hp} {d : D} {v : V} {a : String} (S : Sim K mg β st H) (r : VR K β H d v) (h : tyN d st = some a) : TyX K H v (.type a) := by
  cases d with
  | non => cases VR.non.mp r; cases h; exact .base .non
  | bl b => cases VR.bl.mp r; cases h; exact .base (.bl b)
  | int b => cases VR.int.mp r; cases h; exact .base (.int b)
  | str b => cases VR.str.mp r; cases h; exact .base (.str b)
  | tup xs =>
    cases h
    obtain ⟨q, vs, rfl, h1, h2⟩ := VR.tup.mp r
    rcases h1 with (h1 | ⟨o, h1⟩) | ⟨o, its, n, h1, h3, _⟩
    · exact .base (.tup h1)
    · exact .fTuple h1
    · exact .kTuple h1 h3
  | frz xs =>
    cases h
    obtain ⟨q, vs, rfl, h1, h2⟩ := VR.frz.mp r
    rcases h1 with ⟨o, h1⟩ | ⟨o, its, n, h1, h3, _⟩
    · exact .base (.frz h1)
    · exact .kList h1 h3
  | loc n =>
    obtain ⟨q, h1, rfl⟩ := VR.loc.mp r
    obtain ⟨o, h2, h3⟩ := S.at h1
    simp only [tyN, h2] at h
    cases o with
    | lst _ => cases h; obtain ⟨vs, h4, _⟩ := h3; exact .base (.lst h4)
    | dK _ => cases h; obtain ⟨vs, h4, _⟩ := h3; exact .base (.dK h4)
    | dT _ => cases h; obtain ⟨vs, h4, _⟩ := h3; exact .base (.dT h4)
    | ins _ _ => cases h
theorem boot_isi : bootBuiltins "isinstance" = some (.builtin "isinstance") := by decide +kernel
theorem q_isi {a : Expr} {ka : KE} {x : Str} {T : String} {p p2 pos : Pos} (hg : Gl X "isinstance") (hm : X.mg "isinstance" = none) (hg2 : Gl X x) (hm2 : X.mg x = none) (hv2 : bootBuiltins x = some (.type T)) (ha : PE X a (lift X.K X.mg W ka)) (hn2 : x ≠ "__name__" := by decide) (hdb2 : (x == ("__debug__" : Str)) = false := by decide)
    (hs : starEach [a, .Name x p2] X.env = (false, eval a X.env) :: starEach [.Name x p2] X.env := by rfl) (hs2 : starEach [.Name x p2] X.env = (false, eval (.Name x p2) X.env) :: starEach [] X.env := by rfl) (hpl : (backTo pos (starEach [.Name x p2] X.env)).any (·.1) = false := by rfl) :
    PE X (.Call (.Name "isinstance" p) [a, .Name x p2] [] pos) (lift X.K X.mg W (k1 (isF T) ka)) :=
  PE.imp (pe_callB call_isi hg hm boot_isi (pa_cons ha (pa_cons (pe_bltn (v := .ty T) hg2 hm2 hv2 rfl hn2 hdb2) pa_nil hs2) hs) (by decide) (by decide) hs hpl) fun σ H Q ⟨β, ρ, st, S, E, q⟩ => lift.bind S E q fun d v β1 H1 st1 e1 S1 E1 r1 p1 => by
    unfold isF at p1
    split at p1
    · rename_i b hb
      obtain ⟨t, h1, h2⟩ := Option.bind_eq_some_iff.mp hb
      exact ⟨v, .ty T, _, _, b, rfl, .ty T, ty_of S1 r1 h1, kit_ty h2, fin p1 S1 (VR.bl.mpr rfl)⟩
    · exact p1.elim
end
end L3

namespace L3
open PySem PySem.Spec PyProof.Rows L2
section
open HT
variable {prog : Program} {w : World} {A : Around} {E : Value → Shared → Prop} {s : Shared}
theorem adjust_rev (n : Nat) : Builtin.Slice.sliceAdjust none none (-1) (n : Int) = ((n : Int) - 1, -1) := by
  unfold Builtin.Slice.sliceAdjust
  rfl
theorem places_rev (n : Nat) : Builtin.Slice.slicePlaces ((n : Int) - 1) (-1) (-1) = n := by
  unfold Builtin.Slice.slicePlaces
  have h1 : ¬ ((-1 : Int) > 0) := by omega
  simp only [h1, if_false]
  have h2 : -(-1 : Int) = 1 := rfl
  rw [h2, Int.ediv_one]
  split <;> omega
theorem pick_rev (xs : Array Value) : ((List.range xs.size).filterMap fun (m : Nat) => xs[((xs.size : Int) - 1 + (m : Int) * (-1)).toNat]?).toArray = xs.toList.reverse.toArray := by
  congr 1
  apply List.ext_getElem?
  intro i
  have hm : ((List.range xs.size).filterMap fun (m : Nat) => xs[((xs.size : Int) - 1 + (m : Int) * (-1)).toNat]?) = (List.range xs.size).map fun m => xs.getD (xs.size - 1 - m) .none := by
    have : ∀ l : List Nat, (∀ m ∈ l, m < xs.size) → (l.filterMap fun (m : Nat) => xs[((xs.size : Int) - 1 + (m : Int) * (-1)).toNat]?) = l.map fun m => xs.getD (xs.size - 1 - m) .none := by
      intro l
      induction l with
      | nil => intro _; rfl
      | cons a l ih =>
        intro h
        have ha := h a List.mem_cons_self
        have e : ((xs.size : Int) - 1 + (a : Int) * (-1)).toNat = xs.size - 1 - a := by omega
        have hl : xs.size - 1 - a < xs.size := by omega
        rw [List.filterMap_cons, e, Array.getElem?_eq_getElem hl, ih fun m hm => h m (List.mem_cons_of_mem _ hm), List.map_cons]
        congr 1
        simp [Array.getD, hl]
    exact this _ fun m hm => List.mem_range.mp hm
  rw [hm, List.getElem?_map]
  by_cases hi : i < xs.size
  · rw [List.getElem?_range hi, List.getElem?_reverse (by simpa using hi)]
    have hl : xs.size - 1 - i < xs.size := by omega
    simp [Array.getD, hl]
  · rw [List.getElem?_eq_none (by simpa using hi), List.getElem?_eq_none (by simpa using hi)]
    rfl
theorem sliceApplied_rev {sl : Addr} {vk : Value} {n : Nat} {Q : Int × Int × Nat → Shared → Prop} (hs : s.heap.IsSliceOf sl .none .none vk) (pk : IsPart vk (some (-1)))
    (h : Q ((n : Int) - 1, -1, n) s) : wpAny (model prog w) A (Builtin.Slice.sliceApplied (.ref sl) (pure (n : Int))) Q E s := by
  obtain ⟨os, hos, hcs, hds⟩ := id hs
  unfold Builtin.Slice.sliceApplied Builtin.Slice.sliceFields
  refine wpAny_bind (wpAny_bind (wpAny_field hos hds (x := .none) rfl (wpAny_bind (wpAny_field hos hds (x := .none) rfl (wpAny_bind (wpAny_field hos hds (x := vk) rfl (wpAny_pure ?_)))))))
  refine wpAny_bind (slicePart_ pk ?_)
  show wpAny _ _ (if ((-1 : Int) == 0) = true then _ else _) _ _ s
  rw [if_neg (by decide)]
  refine wpAny_bind (slicePart_none (wpAny_bind (slicePart_none (wpAny_bind (wpAny_pure ?_)))))
  show wpAny _ _ (match Builtin.Slice.sliceAdjust none none (-1) (n : Int) with | (lo, hi) => pure (lo, (-1 : Int), Builtin.Slice.slicePlaces lo hi (-1))) _ _ s
  rw [adjust_rev n]
  show wpAny _ _ (pure ((n : Int) - 1, (-1 : Int), Builtin.Slice.slicePlaces ((n : Int) - 1) (-1) (-1))) _ _ s
  rw [places_rev]
  exact wpAny_pure h
theorem getItem_tuple_rev {t sl : Addr} {items : Array Value} {vk : Value} {Q : Value → Shared → Prop} (ht : IsTup s.heap t items) (hs : s.heap.IsSliceOf sl .none .none vk) (pk : IsPart vk (some (-1)))
    (h : Q (.ref s.heap.objs.size) { s with heap := s.heap.push { cls := .type "tuple", data := .seq items.toList.reverse.toArray } })
    (hsz : items.size ≤ sizeLine) : wpAny (model prog w) A (getItem (.ref t) (.ref sl)) Q E s := by
  have htake : sizeOk (.seq items.toList.reverse.toArray) := by
    show items.toList.reverse.toArray.size ≤ sizeLine
    rw [List.size_toArray, List.length_reverse, Array.length_toList]
    exact hsz
  obtain ⟨os, hos, hcs, hds⟩ := id hs
  have hTs : s.TypeIs (.ref sl) "slice" := ⟨os, hos, hcs⟩
  unfold getItem
  try with_reducible refine wpAny_holding ?_
  first | refine wpAny_bind (wpAny_pure ?_) | skip
  refine wpAny_bind (wpAny_sequenceKey ht.typeIs (by decide) ?_)
  refine wpAny_bind (wpAny_callSpecial?_slot (name := Str.ofString "__getitem__") ht.typeIs PyProof.Rows.slot_tuple_getitem
    (wpAny_call_entry PyProof.Rows.slot_tuple_getitem ht.typeIs entry_tuple_getitem ?_ (args_tuple_getitem _ _)))
  show wpAny _ _ (Builtin.Tuple.tupleItemsOf (.ref t) >>= _) _ _ s
  refine wpAny_bind (tupleItemsOf_ ht ?_)
  refine wpAny_bind (wpAny_typeOf hTs ?_)
  rw [if_pos (by decide)]
  refine wpAny_bind (sliceApplied_rev (n := items.size) hs pk ?_)
  have hno : ¬ ((((items.size : Int) - 1) == 0 && (-1 : Int) == 1 && items.size == items.size) = true) := by
    intro q
    rw [Bool.and_eq_true, Bool.and_eq_true] at q
    exact absurd q.1.2 (by decide)
  show wpAny _ _ (if (((items.size : Int) - 1) == 0 && (-1 : Int) == 1 && items.size == items.size) = true then _ else _) _ _ s
  rw [if_neg hno, pick_rev]
  first
    | exact wpAny_bind (m := Builtin.Tuple.tupleExact _) (wpAny_newObj_type (wpAny_pure ⟨_, rfl, wpAny_pure h⟩) htake)
    | exact wpAny_bind (m := Builtin.Tuple.tupleExact _) (wpAny_newObj_type (wpAny_bind (wpAny_pure (wpAny_pure ⟨_, rfl, wpAny_pure h⟩))) htake)
    | exact wpAny_bind (wpAny_bind (m := Builtin.Tuple.tupleExact _) (wpAny_newObj_type (wpAny_pure (wpAny_pure ⟨_, rfl, wpAny_pure h⟩)) htake))
    | exact wpAny_bind (wpAny_bind (m := Builtin.Tuple.tupleExact _) (wpAny_newObj_type (wpAny_pure ⟨_, rfl, wpAny_pure h⟩) htake))
end
/-! ### e[::-1] -/
def revD (d : D) (st : Sto) : R D := match d with
  | .tup xs => .ok (.tup xs.reverse) st
  | .frz xs => .ok (.loc st.length) (st ++ [.lst xs.reverse])
  | .loc n => match st[n]? with
    | some (.lst xs) => .ok (.loc st.length) (st ++ [.lst xs.reverse])
    | _ => .bad
  | _ => .bad
section
variable {X : Cx} {W : WX} {e : Expr} {ka : KE}
theorem q_rev {k : Nat} {c1 c2 c3 pos : Pos} (he : PE X e (lift X.K X.mg W ka)) : PE X (.Subscript e (.Slice none none (some (.UnaryOp .USub (.Constant (.int 1) k c1) c2)) c3) pos) (lift X.K X.mg W (k1 revD ka)) := by
  refine ⟨fun pins s σ H Q I ⟨β, ρ, st, S, E, p⟩ => ?_⟩
  refine Subscript_ (thn (he.run pins s σ H (fun x H1 => ∃ β1 st1 d, Sim X.K X.mg β1 st1 H1 ∧ VR X.K β1 H1 d x ∧ PostA X.K X.mg W σ (okE X.K Q) β1 H1 (revD d st1)) I (lift.bind S E p fun d v β1 H1 st1 e1 S1 E1 r1 p1 => ⟨β1, st1, d, S1, r1, p1⟩)) fun v s1 ⟨x, H1, I1, r1, β1, st1, d, S1, vr, p1⟩ => ?_)
  have hst : PO X (some (.UnaryOp .USub (.Constant (.int 1) k c1) c2)) (tPart (tUn (rU fun i => .int (-i)) (tC (.int 1)))) := po_some (pe_un un_neg pe_int)
  have go : (∀ vl vu vs s4, vl = Value.none → vu = Value.none → IsPart vs (some (-1)) → Inv X pins σ H1 s4 → wpAny (model X.prog X.w) X.A (subscriptTail e (.Slice none none (some (.UnaryOp .USub (.Constant (.int 1) k c1) c2)) c3) v (.ref s4.heap.objs.size)) (EP X pins σ Q) X.xe { s4 with heap := s4.heap.push { cls := .type "slice", data := .fields #[vl, vu, vs] } }) →
      wpAny (model X.prog X.w) X.A (eval (.Slice none none (some (.UnaryOp .USub (.Constant (.int 1) k c1) c2)) c3) X.env) (fun u s' => wpAny (model X.prog X.w) X.A (subscriptTail e (.Slice none none (some (.UnaryOp .USub (.Constant (.int 1) k c1) c2)) c3) v u) (EP X pins σ Q) X.xe s') X.xe s1 := fun hgo => by
    refine wpAny_Slice (thn (po_none.run pins s1 σ H1 (fun o H2 => o = none ∧ H2 = H1) I1 ⟨rfl, rfl⟩) fun vl s2 ⟨l, H2, I2, pl, el, e2⟩ => ?_)
    subst el e2
    refine thn (po_none.run pins s2 σ H2 (fun o H3 => o = none ∧ H3 = H2) I2 ⟨rfl, rfl⟩) fun vu s3 ⟨u, H3, I3, pu, eu, e3⟩ => ?_
    subst eu e3
    refine thn (hst.run pins s3 σ H3 (fun o H4 => o = some (-1) ∧ H4 = H3) I3 ⟨1, rfl, -1, rfl, rfl, rfl⟩) fun vs s4 ⟨o, H4, I4, ps, eo, e4⟩ => ?_
    subst eo e4
    refine hgo vl vu vs s4 ?_ ?_ ps I4
    · cases pl; rfl
    · cases pu; rfl
  refine go fun vl vu vs s4 el eu ps I4 => ?_
  subst el eu
  have I5 : Inv X pins σ H1 { s4 with heap := s4.heap.push { cls := .type "slice", data := .fields #[.none, .none, vs] } } := I4.kept (t' := s4.toks) fun b ob q => Heap.get?_push_of_some _ q
  have lst : ∀ a us ds, v = .ref a → SqL X.K H1 a us → VRs X.K β1 H1 ds us → PostA X.K X.mg W σ (okE X.K Q) β1 H1 (.ok (.loc st1.length) (st1 ++ [.lst ds.reverse])) →
      wpAny (model X.prog X.w) X.A (subscriptTail e (.Slice none none (some (.UnaryOp .USub (.Constant (.int 1) k c1) c2)) c3) v (.ref s4.heap.objs.size)) (EP X pins σ Q) X.xe { s4 with heap := s4.heap.push { cls := .type "slice", data := .fields #[.none, .none, vs] } } := fun a us ds ev hx rs pp => by
    subst ev
    obtain ⟨its, r, ht, hz⟩ := I5.list hx
    have hlen := r.length
    refine tail_any (ops := [.ref a, .ref s4.heap.objs.size]) ht.isList.typeIs (PySem.slot_list_getitem.lookup) ?_ (by with_unfolding_all rfl)
    refine wpAny_getItem_list_slice ht.isList (Heap.IsSliceOf.new _ .none .none vs) .none .none ps (by decide) ?_ (by rw [List.size_toArray]; omega)
    rw [PySem.W.krv_pick]
    have hf := I5.hok.fresh (Nat.le_refl _)
    obtain ⟨x1, x2, x3⟩ := newLst S1 rs.reverse hf
    refine ⟨.ref _, _, I5.laid (t' := s4.toks) (o := .lst us.reverse) (fun b ob q => Heap.get?_push_of_some _ q) (Nat.le_refl _) ?_, rfl, pp _ _ x1 x2 _ x3⟩
    exact ⟨by rw [List.length_reverse]; exact hz, _, 0, r.reverse, Heap.get?_push_size _ rfl⟩
  cases d with
  | tup ds =>
    obtain ⟨a, us, rfl, hx, rs⟩ := VR.tup.mp vr
    cases r1
    obtain ⟨its, r, ht, hz⟩ := I5.tuple hx
    have hlen := r.length
    refine tail_any (ops := [.ref a, .ref s4.heap.objs.size]) ht.typeIs (PyProof.Rows.slot_tuple_getitem.lookup) ?_ (by with_unfolding_all rfl)
    refine getItem_tuple_rev ht (Heap.IsSliceOf.new _ .none .none vs) ps ?_ (by rw [List.size_toArray]; omega)
    have hf := I5.hok.fresh (Nat.le_refl _)
    refine ⟨.ref _, _, I5.laid (t' := s4.toks) (o := .tup us.reverse) (fun b ob q => Heap.get?_push_of_some _ q) (Nat.le_refl _) ?_, rfl, p1 β1 _ (ext_new0 hf) (S1.new0 hf) _ (VR.tup.mpr ⟨_, _, rfl, SqT.of upd_same, VRs.mono (ext_new0 hf) _ _ rs.reverse⟩)⟩
    exact ⟨by rw [List.length_reverse]; exact hz, _, r.reverse, ⟨_, Heap.get?_push_size _ rfl, rfl, _, rfl⟩⟩
  | frz ds =>
    obtain ⟨a, us, rfl, hx, rs⟩ := VR.frz.mp vr
    cases r1
    exact lst a us ds rfl hx.sq rs p1
  | loc n =>
    obtain ⟨a, h1, rfl⟩ := VR.loc.mp vr
    cases r1
    obtain ⟨o, h2, h3⟩ := S1.at h1
    unfold revD at p1
    simp only [h2] at p1
    cases o with
    | lst xs => obtain ⟨us, h4, h5⟩ := h3; exact lst a us xs rfl (SqL.of h4) h5 p1
    | _ => exact p1.elim
  | _ => exact p1.elim
end

/-! ### a def by its body -/
def finR (r : RS) : R D := match r with
  | .nx _ st => .ok .non st
  | .rt d st => .ok d st
  | .exn x _ st => .exn x st
  | _ => .bad
/-- the values at the entry: the parameters, then nothing -/
def start3 (n : Nat) (ds : List D) : Env3 := ds.map some ++ List.replicate (n - ds.length) none
def runDef (n np : Nat) (body : KS) : Run := fun ds st => if ds.length = np then finR (body (start3 n ds) st) else .bad
def runBad : Run := fun _ _ => .bad
section
variable {P : Program} {w : World} {K : PySem.W.Frag} {mg : Str → Option Value} {base : Heap}
theorem start_rel {β : List Addr} {H : Hp} {N : List Str} {ds : List D} {vs : List V} (r : VRs K β H ds vs) (n : Nat) (hn : N.length = n) : ER K β H (start3 n ds) (L2.start N vs) := by
  subst hn
  unfold start3 L2.start
  have hl := r.length
  refine ⟨by simp [hl], fun i d h => ?_⟩
  by_cases hi : i < ds.length
  · rw [List.getElem?_append_left (by simpa using hi), List.getElem?_map] at h
    cases hd : ds[i]? with
    | none => rw [hd] at h; cases h
    | some e =>
      rw [hd] at h
      have : e = d := Option.some.inj (Option.some.inj h)
      subst this
      obtain ⟨v, h1, h2⟩ := r.getD hd
      refine ⟨v, ?_, h2⟩
      rw [List.getElem?_append_left (by rw [List.length_map, hl]; exact hi), List.getElem?_map, h1]
      rfl
  · rw [List.getElem?_append_right (by simpa using hi)] at h
    rw [List.getElem?_replicate] at h
    split at h <;> cases h
/-- THE RULE for a def -/
theorem Fun.ok3 {x qual : Str} {st : Stmt} {f : Addr} {fd : FuncData} {N ps : List Str} {k n np : Nat} {body : KS} (F : Fun K x qual st f fd) (S : FnScope N ps (defScope st)) (hn : N.length = n) (hp : ps.length = np)
    (hb : ∀ (cdv : Value) (A : Around) (outer : List Env) (s : Shared) (H : Hp) (E : XK), Room k (A.deeper (envOfC qual (defScope st) s.heap.objs.size f cdv)) →
      PSs (cxOf (L2.CX P w) P w K mg base N qual (defScope st) f cdv A outer s H E) (defBody st) (liftS K mg (fun c d _ H => E c d H) body)) :
    FnOk P w K mg base (L2.CX P w) (k + 1) f fd ps (spOf K mg np (runDef n np body)) := by
  refine F.okX S (fun vs H Q E h => by rw [hp]; exact h.1) fun cdv A outer s H vs Q E hr h => ?_
  refine ⟨_, hb cdv A outer s H E hr, ?_⟩
  obtain ⟨hl, β, sto, ds, Si, r, p⟩ := h
  have hdl : ds.length = np := by rw [← r.length]; exact hl
  unfold runDef at p
  rw [if_pos hdl] at p
  refine ⟨β, start3 n ds, sto, Si, start_rel r n hn, ?_⟩
  cases hbd : body (start3 n ds) sto with
  | nx ρ st' => rw [hbd] at p; exact fun β' H' σ' e S' E' => p β' H' e S' _ (VR.non.mpr rfl)
  | rt d st' => rw [hbd] at p; exact fun β' H' v e S' r' => p β' H' e S' v r'
  | bk ρ st' => rw [hbd] at p; exact p.elim
  | ct ρ st' => rw [hbd] at p; exact p.elim
  | exn x ρ st' => rw [hbd] at p; exact fun β' H' σ' c dd e S' E' xr => p β' H' c dd e S' xr
  | bad => rw [hbd] at p; exact p.elim
/-- with no depth left nothing is promised -/
theorem ok_bad {f : Addr} {fd : FuncData} {ps : List Str} {k np : Nat} (hp : ps.length = np) : FnOk P w K mg base (L2.CX P w) k f fd ps (spOf K mg np runBad) :=
  ⟨fun vs H Q E h => by rw [hp]; exact h.1, fun A outer s H args us vs Q E hr he hb hv h => by obtain ⟨_, _, _, _, _, _, p⟩ := h; exact p.elim⟩
end
/-! ### the law's end -/
def spLaw3 (K : PySem.W.Frag) : Sp := fun vs H Q E => ∃ (a : Addr) (ns : List Int), vs = [.ref a] ∧ SqL K H a (ns.map V.int) ∧ ns.length ≤ 63 ∧ Only H ∧ ∀ H', Q (.bl true) H'
theorem fz_only {K : PySem.W.Frag} {H : Hp} {a : Addr} {xs : List V} (h : SqL K H a xs) (o : Only H) : FzL K H a xs := by
  rcases h with (h | h) | h
  · rcases o a with z | ⟨ob, ys, z⟩
    · rw [h] at z; cases z
    · rw [h] at z; cases z
  · exact .inl h
  · exact .inr h
theorem ints_vrs {K : PySem.W.Frag} {β : List Addr} {H : Hp} : ∀ ns : List Int, VRs K β H (ns.map D.int) (ns.map V.int)
  | [] => VRs.nil.mpr rfl
  | n :: ns => VRs.cons.mpr ⟨_, _, rfl, VR.int.mpr rfl, ints_vrs ns⟩
theorem law_of {P : Program} {w : World} {K : PySem.W.Frag} {mg : Str → Option Value} {base : Heap} {k : Nat} {f : Addr} {fd : FuncData} {ps : List Str} {run : Run} (F : FnOk P w K mg base (L2.CX P w) k f fd ps (spOf K mg 1 run)) (hp : ps.length = 1)
    (hrun : ∀ ns : List Int, ns.length ≤ 63 → ∃ st', run [.frz (ns.map D.int)] [] = .ok (.bl true) st') : FnOk P w K mg base (L2.CX P w) k f fd ps (spLaw3 K) :=
  ⟨fun vs H Q E h => by obtain ⟨a, ns, rfl, _⟩ := h; rw [hp]; rfl, fun A outer s H args us vs Q E hr he hb hv h => F.run A outer s H args us vs Q E hr he hb hv (by
    obtain ⟨a, ns, rfl, hs, hl, ho, q⟩ := h
    obtain ⟨st', hst⟩ := hrun ns hl
    refine ⟨rfl, [], [], [.frz (ns.map D.int)], ⟨rfl, fun m n a h => by simp at h, fun n o a h => by simp at h⟩, VRs.cons.mpr ⟨_, _, rfl, VR.frz.mpr ⟨a, _, rfl, fz_only hs ho, ints_vrs ns⟩, VRs.nil.mpr rfl⟩, ?_⟩
    rw [hst]
    intro β' H' _ _ v r
    rw [VR.bl.mp r]
    exact q H')⟩
theorem cx_end {P : Program} {w : World} (H : Hp) (s : Shared) (e : Value) (s' : Shared) (h : L2.CX P w [] H s (fun _ _ _ => False) e s') : False := by
  obtain ⟨_, _, _, _, _, _, _, _, _, _, _, _, z⟩ := h
  exact z
end L3
namespace L3
open PySem PySem.Spec PyProof.Rows L2
def kD0 : KE := fun _ st => .ok (.loc st.length) (st ++ [.dK []])
theorem q_dict0 {X : Cx} {W : WX} {pos : Pos} : PE X (.Dict [] [] pos) (lift X.K X.mg W kD0) :=
  PE.imp pe_dnewK fun σ H Q ⟨β, ρ, st, S, E, p⟩ => fun q hq => p _ _ (ext_new hq) (S.push hq ⟨[], upd_same, .nil⟩) _ (VR.loc.mpr ⟨q, by rw [← S.len]; simp, rfl⟩)
theorem bt_len : bootBuiltins "len" = some (.builtin "len") := by decide +kernel
theorem bt_abs : bootBuiltins "abs" = some (.builtin "abs") := by decide +kernel
theorem bt_max : bootBuiltins "max" = some (.builtin "max") := by decide +kernel
theorem bt_min : bootBuiltins "min" = some (.builtin "min") := by decide +kernel
theorem bt_repr : bootBuiltins "repr" = some (.builtin "repr") := by decide +kernel
theorem bt_all : bootBuiltins "all" = some (.builtin "all") := by decide +kernel
theorem bt_any : bootBuiltins "any" = some (.builtin "any") := by decide +kernel
theorem bt_sum : bootBuiltins "sum" = some (.builtin "sum") := by decide +kernel
theorem bt_int : bootBuiltins "int" = some (.type "int") := by decide +kernel
theorem bt_bool : bootBuiltins "bool" = some (.type "bool") := by decide +kernel
theorem bt_str : bootBuiltins "str" = some (.type "str") := by decide +kernel
theorem bt_tuple : bootBuiltins "tuple" = some (.type "tuple") := by decide +kernel
theorem bt_list : bootBuiltins "list" = some (.type "list") := by decide +kernel
theorem bt_dict : bootBuiltins "dict" = some (.type "dict") := by decide +kernel
end L3

/-! Reckoning with meanings. -/
namespace L3
open PySem L2
@[simp] theorem RS_toS_ok {α : Type} (a : α) (st : Sto) (ρ : Env3) (f : α → Sto → RS) : (R.ok a st).toS ρ f = f a st := rfl
/-- a draws' list stands at n -/
def DieAt (n : Nat) (st : Sto) : Prop := ∃ a b c : Int, st[n]? = some (.lst [.int a, .int b, .int c])
/-- all else stands, the draws' list stays one, the store grows -/
structure Step (n : Nat) (st st' : Sto) : Prop where
  keep : ∀ (m : Nat) (o : O), m ≠ n → st[m]? = some o → st'[m]? = some o
  die : DieAt n st'
  len : st.length ≤ st'.length
theorem Step.refl {n : Nat} {st : Sto} (h : DieAt n st) : Step n st st := ⟨fun _ _ _ h => h, h, Nat.le_refl _⟩
theorem Step.trans {n : Nat} {st st1 st2 : Sto} (a : Step n st st1) (b : Step n st1 st2) : Step n st st2 :=
  ⟨fun m o hm h => b.keep m o hm (a.keep m o hm h), b.die, Nat.le_trans a.len b.len⟩
theorem DieAt.lt {n : Nat} {st : Sto} (h : DieAt n st) : n < st.length := by obtain ⟨a, b, c, h⟩ := h; exact (List.getElem?_eq_some_iff.mp h).1
theorem Step.grow {n : Nat} {st : Sto} (h : DieAt n st) (g : Sto) : Step n st (st ++ g) := by
  have hl := h.lt
  obtain ⟨a, b, c, h⟩ := h
  exact ⟨fun m o hm q => by rw [List.getElem?_append_left (List.getElem?_eq_some_iff.mp q).1]; exact q, ⟨a, b, c, by rw [List.getElem?_append_left hl]; exact h⟩, by simp⟩
theorem Step.draw {n : Nat} {st : Sto} (h : DieAt n st) (a b c : Int) : Step n st (st.set n (.lst [.int a, .int b, .int c])) :=
  ⟨fun m o hm q => by rw [List.getElem?_set_ne (Ne.symm hm)]; exact q, ⟨a, b, c, by rw [List.getElem?_set_self h.lt]⟩, by simp⟩
theorem Step.new {n : Nat} {st st' : Sto} (h : Step n st st') (o : O) : Step n st (st' ++ [o]) := h.trans (Step.grow h.die _)

/-- what a draw must be -/
def CastS (r : L3.Run) : Prop := ∀ (st : Sto) (n : Nat) (tot : Int), DieAt n st → 0 < tot → tot < 1073741824 → ∃ (k : Int) (st' : Sto), 0 ≤ k ∧ k < tot ∧ r [.loc n, .int tot] st = .ok (.int k) st' ∧ st'.length = st.length ∧ Step n st st'
end L3
namespace L3
open PySem L2
section
variable {ρ : Env3} {st : Sto} {a b c : KE} {d : D}
theorem runDef_eq {n np : Nat} {body : KS} {ds : List D} (h : ds.length = np) : runDef n np body ds st = finR (body (start3 n ds) st) := by unfold runDef; rw [if_pos h]
theorem kv_ok {i : Nat} (h : ρ[i]? = some (some d)) : kv i ρ st = .ok d st := by unfold kv; rw [h]
theorem ixD_loc {n : Nat} {xs : List D} {i : Int} (h : st[n]? = some (.lst xs)) (h2 : atI xs i = some d) : ixD (.loc n) (.int i) st = .ok d st := by simp only [ixD, h, h2]
theorem ixD_tup {xs : List D} {i : Int} (h2 : atI xs i = some d) : ixD (.tup xs) (.int i) st = .ok d st := by simp only [ixD, h2]
theorem ixD_frz {xs : List D} {i : Int} (h2 : atI xs i = some d) : ixD (.frz xs) (.int i) st = .ok d st := by simp only [ixD, h2]
theorem setL_loc {n : Nat} {xs : List D} {k : Int} {j : Nat} {v : D} (h : st[n]? = some (.lst xs)) (h2 : ixN xs.length k = some j) : setL (.loc n) (.int k) v st = some (st.set n (.lst (xs.set j v))) := by simp only [setL, h, h2]
theorem atI_zero {α : Type} {x : α} {xs : List α} : atI (x :: xs) 0 = some x := atI_nat (j := 0) rfl
theorem atI_one {α : Type} {x y : α} {xs : List α} : atI (x :: y :: xs) 1 = some y := atI_nat (j := 1) rfl
theorem atI_two {α : Type} {x y z : α} {xs : List α} : atI (x :: y :: z :: xs) 2 = some z := atI_nat (j := 2) rfl
end
end L3
namespace L3
open PySem L2
/-- a text that is not long, of signs that there are -/
def strG (x : Str) : Bool := decide (x.length ≤ 1000) && x.cps.all (· < 0x110000)
/-- data without the draws' list: nothing of it is at n -/
inductive Pl (n : Nat) (st : Sto) : D → Prop
  | non : Pl n st .non
  | bl (b : Bool) : Pl n st (.bl b)
  | int (i : Int) : Pl n st (.int i)
  | str (x : Str) : strG x = true → Pl n st (.str x)
  | tup {xs : List D} : xs.length ≤ 1000 → (∀ x ∈ xs, Pl n st x) → Pl n st (.tup xs)
  | lst {m : Nat} {xs : List D} : m ≠ n → st[m]? = some (.lst xs) → Pl n st (.loc m)
  | dK {m : Nat} {xs : List (Key × D)} : m ≠ n → st[m]? = some (.dK xs) → Pl n st (.loc m)
theorem Pl.step {n : Nat} {st st' : Sto} (s : Step n st st') {d : D} (h : Pl n st d) : Pl n st' d := by
  induction h with
  | non => exact .non
  | bl b => exact .bl b
  | int i => exact .int i
  | str x h => exact .str x h
  | tup h _ ih => exact .tup h ih
  | lst h1 h2 => exact .lst h1 (s.keep _ _ h1 h2)
  | dK h1 h2 => exact .dK h1 (s.keep _ _ h1 h2)
theorem Pl.ty {n : Nat} {st : Sto} {d : D} (h : Pl n st d) : ∃ a, tyN d st = some a ∧ a ∈ ["NoneType", "bool", "int", "str", "tuple", "list", "dict"] := by
  cases h with
  | non => exact ⟨_, rfl, by decide⟩
  | bl b => exact ⟨_, rfl, by decide⟩
  | int i => exact ⟨_, rfl, by decide⟩
  | str x => exact ⟨_, rfl, by decide⟩
  | tup _ _ => exact ⟨_, rfl, by decide⟩
  | lst h1 h2 => exact ⟨"list", by simp only [tyN, h2], by decide⟩
  | dK h1 h2 => exact ⟨"dict", by simp only [tyN, h2], by decide⟩
/-- what may be picked from -/
def seqD (d : D) (st : Sto) : Option (List D) := match d with
  | .tup xs => some xs
  | .frz xs => some xs
  | .str x => if x.length ≤ 16777216 then some (strIts x) else none
  | .loc n => match st[n]? with
    | some (.lst xs) => some xs
    | _ => none
  | _ => none
theorem seqD_step {n : Nat} {st st' : Sto} (s : Step n st st') {d : D} {xs : List D} (hd : ∀ m, d = .loc m → m ≠ n) (h : seqD d st = some xs) : seqD d st' = some xs := by
  cases d with
  | loc m =>
    unfold seqD at h ⊢
    cases ho : st[m]? with
    | none => simp only [ho] at h; cases h
    | some o =>
      have h2 := s.keep m o (hd m rfl) ho
      simp only [ho] at h
      simp only [h2]
      exact h
  | _ => exact h
theorem lenF_seq {d : D} {st : Sto} {xs : List D} (h : seqD d st = some xs) : lenF [d] st = .ok (.int xs.length) st := by
  cases d with
  | tup ys => cases h; rfl
  | frz ys => cases h; rfl
  | str x =>
    unfold seqD at h
    simp only at h
    split at h
    · rename_i hz
      cases h
      have e : (strIts x).length = x.length := by unfold strIts; simp [Str.length]
      simp only [lenF, if_pos hz, e]
    · cases h
  | loc m =>
    unfold seqD at h
    simp only at h
    split at h
    · rename_i ys he; cases h; simp only [lenF, he]
    · cases h
  | _ => cases h
theorem atI_lt {α : Type} {xs : List α} {k : Int} (h0 : 0 ≤ k) (h1 : k < xs.length) : atI xs k = some (xs[k.toNat]'(by omega)) := by
  have e : (k.toNat : Int) = k := Int.toNat_of_nonneg h0
  have h := atI_nat (xs := xs) (j := k.toNat) (List.getElem?_eq_getElem (by omega))
  rw [e] at h
  exact h
theorem ixD_seq {d : D} {st : Sto} {xs : List D} {k : Int} (h : seqD d st = some xs) (h0 : 0 ≤ k) (h1 : k < xs.length) : ∃ y, xs[k.toNat]? = some y ∧ ixD d (.int k) st = .ok y st := by
  have hl : k.toNat < xs.length := by omega
  cases d with
  | tup ys => cases h; exact ⟨xs[k.toNat], List.getElem?_eq_getElem hl, ixD_tup (atI_lt h0 h1)⟩
  | frz ys => cases h; exact ⟨xs[k.toNat], List.getElem?_eq_getElem hl, ixD_frz (atI_lt h0 h1)⟩
  | str x =>
    unfold seqD at h
    simp only at h
    split at h
    · rename_i hz
      cases h
      have e : (strIts x).length = x.cps.toList.length := by unfold strIts; simp
      have h2 : k < x.cps.toList.length := by rw [← e]; exact h1
      have h3 := atI_lt h0 h2
      refine ⟨.str ⟨#[x.cps.toList[k.toNat]'(by omega)]⟩, ?_, ?_⟩
      · unfold strIts
        rw [List.getElem?_map, List.getElem?_eq_getElem (by omega)]
        rfl
      · simp only [ixD, if_pos hz, h3]
    · cases h
  | loc m =>
    unfold seqD at h
    simp only at h
    split at h
    · rename_i ys he; cases h; exact ⟨xs[k.toNat], List.getElem?_eq_getElem hl, ixD_loc he (atI_lt h0 h1)⟩
    · cases h
  | _ => cases h
/-- what a pick must be -/
def PickS (r : L3.Run) : Prop := ∀ (st : Sto) (n : Nat) (it : D) (xs : List D), DieAt n st → seqD it st = some xs → (∀ m, it = .loc m → m ≠ n) → xs ≠ [] → xs.length < 1073741824 →
  ∃ (y : D) (st' : Sto), y ∈ xs ∧ r [.loc n, it] st = .ok y st' ∧ st'.length = st.length ∧ Step n st st'
def NumsS (r : L3.Run) : Prop := ∀ (st : Sto) (ns : List Int) (k : Int), 0 ≤ k → ∃ a b : Int, r [.frz (ns.map D.int), .int k] st = .ok (.loc st.length) (st ++ [.lst [.int a, .int b, .int 0]])
theorem pow_ok {i j : Int} {st : Sto} (h : 0 ≤ j ∧ (Builtin.Int.intBits i : Int) * j ≤ 2 ^ 27) : powD (.int i) (.int j) st = .ok (.int (i ^ j.toNat)) st := by unfold powD; simp only [if_pos h]
end L3
namespace L3
open PySem L2
theorem kb_NoneType_int : kitB "NoneType" "int" = some false := by decide +kernel
theorem kb_bool_int : kitB "bool" "int" = some true := by decide +kernel
theorem kb_int_int : kitB "int" "int" = some true := by decide +kernel
theorem kb_str_int : kitB "str" "int" = some false := by decide +kernel
theorem kb_tuple_int : kitB "tuple" "int" = some false := by decide +kernel
theorem kb_list_int : kitB "list" "int" = some false := by decide +kernel
theorem kb_dict_int : kitB "dict" "int" = some false := by decide +kernel
theorem kb_NoneType_bool : kitB "NoneType" "bool" = some false := by decide +kernel
theorem kb_bool_bool : kitB "bool" "bool" = some true := by decide +kernel
theorem kb_int_bool : kitB "int" "bool" = some false := by decide +kernel
theorem kb_str_bool : kitB "str" "bool" = some false := by decide +kernel
theorem kb_tuple_bool : kitB "tuple" "bool" = some false := by decide +kernel
theorem kb_list_bool : kitB "list" "bool" = some false := by decide +kernel
theorem kb_dict_bool : kitB "dict" "bool" = some false := by decide +kernel
theorem kb_NoneType_str : kitB "NoneType" "str" = some false := by decide +kernel
theorem kb_bool_str : kitB "bool" "str" = some false := by decide +kernel
theorem kb_int_str : kitB "int" "str" = some false := by decide +kernel
theorem kb_str_str : kitB "str" "str" = some true := by decide +kernel
theorem kb_tuple_str : kitB "tuple" "str" = some false := by decide +kernel
theorem kb_list_str : kitB "list" "str" = some false := by decide +kernel
theorem kb_dict_str : kitB "dict" "str" = some false := by decide +kernel
theorem kb_NoneType_tuple : kitB "NoneType" "tuple" = some false := by decide +kernel
theorem kb_bool_tuple : kitB "bool" "tuple" = some false := by decide +kernel
theorem kb_int_tuple : kitB "int" "tuple" = some false := by decide +kernel
theorem kb_str_tuple : kitB "str" "tuple" = some false := by decide +kernel
theorem kb_tuple_tuple : kitB "tuple" "tuple" = some true := by decide +kernel
theorem kb_list_tuple : kitB "list" "tuple" = some false := by decide +kernel
theorem kb_dict_tuple : kitB "dict" "tuple" = some false := by decide +kernel
theorem kb_NoneType_list : kitB "NoneType" "list" = some false := by decide +kernel
theorem kb_bool_list : kitB "bool" "list" = some false := by decide +kernel
theorem kb_int_list : kitB "int" "list" = some false := by decide +kernel
theorem kb_str_list : kitB "str" "list" = some false := by decide +kernel
theorem kb_tuple_list : kitB "tuple" "list" = some false := by decide +kernel
theorem kb_list_list : kitB "list" "list" = some true := by decide +kernel
theorem kb_dict_list : kitB "dict" "list" = some false := by decide +kernel
theorem kb_NoneType_dict : kitB "NoneType" "dict" = some false := by decide +kernel
theorem kb_bool_dict : kitB "bool" "dict" = some false := by decide +kernel
theorem kb_int_dict : kitB "int" "dict" = some false := by decide +kernel
theorem kb_str_dict : kitB "str" "dict" = some false := by decide +kernel
theorem kb_tuple_dict : kitB "tuple" "dict" = some false := by decide +kernel
theorem kb_list_dict : kitB "list" "dict" = some false := by decide +kernel
theorem kb_dict_dict : kitB "dict" "dict" = some true := by decide +kernel

theorem isF_of {T a : String} {b : Bool} {d : D} {st : Sto} (h : tyN d st = some a) (k : kitB a T = some b) : isF T d st = .ok (.bl b) st := by
  unfold isF
  rw [h, Option.bind_some, k]
section
variable {st : Sto} {n : Nat}
/-- whether it is an int, a bool .. -/
def isIntD : D → Bool
  | .int _ => true
  | .bl _ => true
  | _ => false
def isBlD : D → Bool
  | .bl _ => true
  | _ => false
def isStrD : D → Bool
  | .str _ => true
  | _ => false
def isTupD : D → Bool
  | .tup _ => true
  | _ => false
theorem is_int {d : D} (h : Pl n st d) : isF "int" d st = .ok (.bl (isIntD d)) st := by
  cases h with
  | non => exact isF_of rfl kb_NoneType_int
  | bl b => exact isF_of rfl kb_bool_int
  | int i => exact isF_of rfl kb_int_int
  | str x => exact isF_of rfl kb_str_int
  | tup _ _ => exact isF_of rfl kb_tuple_int
  | lst h1 h2 => exact isF_of (by simp only [tyN, h2]) kb_list_int
  | dK h1 h2 => exact isF_of (by simp only [tyN, h2]) kb_dict_int
theorem is_bool {d : D} (h : Pl n st d) : isF "bool" d st = .ok (.bl (isBlD d)) st := by
  cases h with
  | non => exact isF_of rfl kb_NoneType_bool
  | bl b => exact isF_of rfl kb_bool_bool
  | int i => exact isF_of rfl kb_int_bool
  | str x => exact isF_of rfl kb_str_bool
  | tup _ _ => exact isF_of rfl kb_tuple_bool
  | lst h1 h2 => exact isF_of (by simp only [tyN, h2]) kb_list_bool
  | dK h1 h2 => exact isF_of (by simp only [tyN, h2]) kb_dict_bool
theorem is_str {d : D} (h : Pl n st d) : isF "str" d st = .ok (.bl (isStrD d)) st := by
  cases h with
  | non => exact isF_of rfl kb_NoneType_str
  | bl b => exact isF_of rfl kb_bool_str
  | int i => exact isF_of rfl kb_int_str
  | str x => exact isF_of rfl kb_str_str
  | tup _ _ => exact isF_of rfl kb_tuple_str
  | lst h1 h2 => exact isF_of (by simp only [tyN, h2]) kb_list_str
  | dK h1 h2 => exact isF_of (by simp only [tyN, h2]) kb_dict_str
theorem is_tup {d : D} (h : Pl n st d) : isF "tuple" d st = .ok (.bl (isTupD d)) st := by
  cases h with
  | non => exact isF_of rfl kb_NoneType_tuple
  | bl b => exact isF_of rfl kb_bool_tuple
  | int i => exact isF_of rfl kb_int_tuple
  | str x => exact isF_of rfl kb_str_tuple
  | tup _ _ => exact isF_of rfl kb_tuple_tuple
  | lst h1 h2 => exact isF_of (by simp only [tyN, h2]) kb_list_tuple
  | dK h1 h2 => exact isF_of (by simp only [tyN, h2]) kb_dict_tuple
end
/-! ### stores that grow -/
section
variable {st l : Sto} {k : Nat} {o : O}
theorem stA : (st ++ l)[st.length + k]? = l[k]? := by rw [List.getElem?_append_right (by omega)]; congr 1; omega
theorem stA0 : (st ++ l)[st.length]? = l[0]? := by rw [List.getElem?_append_right (by omega)]; congr 1; omega
theorem stS : (st ++ l).set (st.length + k) o = st ++ l.set k o := by rw [List.set_append_right _ _ (by omega)]; congr 2; omega
theorem stS0 : (st ++ l).set st.length o = st ++ l.set 0 o := by rw [List.set_append_right _ _ (by omega)]; congr 2; omega
end
theorem cutD_sub {xs : List D} {lo hi : Option Int} {x : D} (h : x ∈ cutD xs lo hi) : x ∈ xs := by
  unfold cutD at h
  exact List.mem_of_mem_drop (List.mem_of_mem_take h)
theorem cutD_len (xs : List D) (lo hi : Option Int) : (cutD xs lo hi).length ≤ xs.length := by
  unfold cutD
  rw [List.length_take, List.length_drop]
  omega
theorem addD_tup {xs ys : List D} {st : Sto} (h : xs.length + ys.length ≤ 16777216) : addD (.tup xs) (.tup ys) st = .ok (.tup (xs ++ ys)) st := by simp only [addD, if_pos h]
theorem addD_lst {m n : Nat} {xs ys : List D} {st : Sto} (h1 : st[m]? = some (.lst xs)) (h2 : st[n]? = some (.lst ys)) (h : xs.length + ys.length ≤ 16777216) : addD (.loc m) (.loc n) st = .ok (.loc st.length) (st ++ [.lst (xs ++ ys)]) := by simp only [addD, h1, h2, if_pos h]
theorem appendM_ok {n : Nat} {xs : List D} {y : D} {st : Sto} (h1 : st[n]? = some (.lst xs)) (h : xs.length < 16777216) : appendM (.loc n) [y] st = .ok .non (st.set n (.lst (xs ++ [y]))) := by simp only [appendM, h1, if_pos h]
theorem tyD_lst {n : Nat} {xs : List D} {st : Sto} (h1 : st[n]? = some (.lst xs)) : tyD "list" (.loc n) st = true := by simp only [tyD, h1]; rfl
/-! ### data of ints -/
theorem pd_ints (st : Sto) (n : Nat) : ∀ is : List Int, allO ((is.map D.int).map (pd st n)) = some (is.map PyData.int)
  | [] => rfl
  | i :: is => by
    show (pd st n (.int i)).bind (fun a => (allO ((is.map D.int).map (pd st n))).bind fun l => some (a :: l)) = _
    rw [pd_ints st n is]
    cases n <;> rfl
theorem canLay_ints : ∀ is : List Int, PyData.canLayAll0 (is.map PyData.int) = true
  | [] => by simp [PyData.canLayAll0]
  | i :: is => by simp [PyData.canLayAll0, PyData.canLay0, canLay_ints is]
theorem depth_ints : ∀ is : List Int, PyData.depthAll (is.map PyData.int) ≤ 1
  | [] => by simp [PyData.depthAll]
  | i :: is => by
    have := depth_ints is
    simp only [List.map_cons, PyData.depthAll, PyData.depth]
    omega
theorem shaped_tup_ints (is : List Int) : SeqAt.shaped (.tuple (is.map PyData.int)) = true := by
  have h1 := depth_ints is
  have h2 : PyData.depth (.tuple (is.map PyData.int)) ≤ 64 := by
    simp only [PyData.depth]
    omega
  show (PyData.canLay0 (.tuple (is.map PyData.int)) && decide (PyData.depth (.tuple (is.map PyData.int)) ≤ 64)) = true
  rw [Bool.and_eq_true]
  exact ⟨by simp only [PyData.canLay0]; exact canLay_ints is, decide_eq_true h2⟩
end L3
namespace L3
open PySem L2
/-- how a bent tuple of ints comes out -/
def BentS (r : L3.Run) : Prop := ∀ (st : Sto) (n : Nat) (is : List Int) (odd : D), DieAt n st → is ≠ [] → is.length ≤ 100 → Pl n st odd → ∃ (d : D) (st' : Sto), r [.loc n, .tup (is.map D.int), odd] st = .ok d st' ∧ Step n st st' ∧ Pl n st' d
def OddS (r : L3.Run) : Prop := ∀ (st : Sto) (n : Nat), DieAt n st → ∃ (d : D) (st' : Sto), r [.loc n] st = .ok d st' ∧ Step n st st' ∧ Pl n st' d
def numB (d : D) (lo hi : Int) : Bool := match d with
  | .int i => decide (lo ≤ i) && decide (i ≤ hi)
  | _ => false
def NumberS (r : L3.Run) : Prop := ∀ (st : Sto) (n : Nat) (d : D) (lo hi : Int), Pl n st d → r [d, .int lo, .int hi] st = .ok (.bl (numB d lo hi)) st
theorem pl_ints {n : Nat} {st : Sto} {is : List Int} : ∀ x ∈ is.map D.int, Pl n st x := fun x h => by
  obtain ⟨i, _, rfl⟩ := List.mem_map.mp h
  exact .int i
theorem pl_tup_ints {n : Nat} {st : Sto} {is : List Int} (h : is.length ≤ 1000) : Pl n st (.tup (is.map D.int)) := .tup (by simpa using h) pl_ints
theorem slD_tup {xs : List D} {lo hi : Option Int} {st : Sto} : slD (.tup xs) lo hi st = .ok (.tup (cutD xs lo hi)) st := rfl
theorem revD_tup {xs : List D} {st : Sto} : revD (.tup xs) st = .ok (.tup xs.reverse) st := rfl
end L3

/-! Loops, lists, texts. -/
namespace L3
open PySem L2
theorem pl_nil {n : Nat} {st : Sto} : ∀ x ∈ ([] : List D), Pl n st x := fun x h => nomatch h
theorem pl_cons {n : Nat} {st : Sto} {d : D} {l : List D} (h : Pl n st d) (hl : ∀ x ∈ l, Pl n st x) : ∀ x ∈ d :: l, Pl n st x := fun x hx => by
  rcases List.mem_cons.mp hx with rfl | hx
  · exact h
  · exact hl x hx
theorem Pl.tupD {n : Nat} {st : Sto} {l : List D} (h : ∀ x ∈ l, Pl n st x) (hl : decide (l.length ≤ 1000) = true) : Pl n st (.tup l) := .tup (of_decide_eq_true hl) h
theorem Pl.strD {n : Nat} {st : Sto} {x : Str} (hl : strG x = true) : Pl n st (.str x) := .str x hl
end L3

namespace L3
open PySem L2
theorem all_nil {α : Type} {p : α → Prop} : ∀ x ∈ ([] : List α), p x := fun x h => nomatch h
theorem all_cons {α : Type} {p : α → Prop} {a : α} {l : List α} (h : p a) (hl : ∀ x ∈ l, p x) : ∀ x ∈ a :: l, p x := fun x hx => by
  rcases List.mem_cons.mp hx with rfl | hx
  · exact h
  · exact hl x hx
theorem lc_inv {g : KG} {cnd : KT} {elt : KE} {src : Src} {ρ : Env3} {xs : List D} (Inv : Nat → Sto → List D → Prop)
    (hat : ∀ i st acc, Inv i st acc → src.at st i = some xs[i]?)
    (step : ∀ i d st acc, xs[i]? = some d → Inv i st acc → ∃ ρ1 k st1, g d ρ = some ρ1 ∧ cnd ρ1 st = .ok k st1 ∧ (k = true → ∃ y st2, elt ρ1 st1 = .ok y st2 ∧ Inv (i + 1) st2 (acc ++ [y])) ∧ (k = false → Inv (i + 1) st1 acc)) :
    ∀ (m i : Nat) (st : Sto) (acc : List D) (f : Nat), xs.length - i = m → i ≤ xs.length → m < f → acc.length ≤ i → xs.length < 16777215 → Inv i st acc → ∃ acc' st', lcGo g cnd elt src ρ f i st acc = .ok acc' st' ∧ Inv xs.length st' acc' ∧ acc'.length ≤ xs.length := by
  intro m
  induction m with
  | zero =>
    intro i st acc f hm hi hf ha hx h
    have e : i = xs.length := by omega
    subst e
    obtain ⟨f, rfl⟩ : ∃ f', f = f' + 1 := ⟨f - 1, by omega⟩
    refine ⟨acc, st, ?_, h, ha⟩
    unfold lcGo
    rw [hat _ _ _ h, List.getElem?_eq_none (Nat.le_refl _)]
  | succ m ih =>
    intro i st acc f hm hi hf ha hx h
    obtain ⟨f, rfl⟩ : ∃ f', f = f' + 1 := ⟨f - 1, by omega⟩
    have hlt : i < xs.length := by omega
    have e := List.getElem?_eq_getElem hlt
    obtain ⟨ρ1, k, st1, hg, hc, ht, hfa⟩ := step i _ st acc e h
    unfold lcGo
    rw [hat _ _ _ h, e]
    simp only [hg, hc]
    cases k with
    | true =>
      obtain ⟨y, st2, he, h2⟩ := ht rfl
      simp only [he, if_true]
      rw [if_pos (by omega)]
      exact ih (i + 1) st2 (acc ++ [y]) f (by omega) (by omega) (by omega) (by simp; omega) hx h2
    | false =>
      simp only [Bool.false_eq_true, if_false]
      exact ih (i + 1) st1 acc f (by omega) (by omega) (by omega) (by omega) hx (hfa rfl)
theorem for_inv {g : KG} {body : KS} {src : Src} {xs : List D} (Inv : Nat → Env3 → Sto → Prop)
    (hat : ∀ i ρ st, Inv i ρ st → src.at st i = some xs[i]?)
    (step : ∀ i d ρ st, xs[i]? = some d → Inv i ρ st → ∃ ρ1 ρ2 st2, g d ρ = some ρ1 ∧ (body ρ1 st = .nx ρ2 st2 ∨ body ρ1 st = .ct ρ2 st2) ∧ Inv (i + 1) ρ2 st2) :
    ∀ (m i : Nat) (ρ : Env3) (st : Sto) (f : Nat), xs.length - i = m → i ≤ xs.length → m < f → Inv i ρ st → ∃ ρ' st', forGo g body src f i ρ st = .nx ρ' st' ∧ Inv xs.length ρ' st' := by
  intro m
  induction m with
  | zero =>
    intro i ρ st f hm hi hf h
    have e : i = xs.length := by omega
    subst e
    obtain ⟨f, rfl⟩ : ∃ f', f = f' + 1 := ⟨f - 1, by omega⟩
    refine ⟨ρ, st, ?_, h⟩
    unfold forGo
    rw [hat _ _ _ h, List.getElem?_eq_none (Nat.le_refl _)]
  | succ m ih =>
    intro i ρ st f hm hi hf h
    obtain ⟨f, rfl⟩ : ∃ f', f = f' + 1 := ⟨f - 1, by omega⟩
    have hlt : i < xs.length := by omega
    have e := List.getElem?_eq_getElem hlt
    obtain ⟨ρ1, ρ2, st2, hg, hb, h2⟩ := step i _ ρ st e h
    unfold forGo
    rw [hat _ _ _ h, e]
    simp only [hg]
    rcases hb with hb | hb
    · simp only [hb]
      exact ih (i + 1) ρ2 st2 f (by omega) (by omega) (by omega) h2
    · simp only [hb]
      exact ih (i + 1) ρ2 st2 f (by omega) (by omega) (by omega) h2
/-- a list comprehension over what does not change, pure -/
theorem lc_pure {vs : List Nat} {g : KG} {it : KI} {cnd : KT} {elt : KE} {ρ : Env3} {st : Sto} {xs : List D} (p : D → Bool) (f : D → D) (hi : it ρ st = .ok (.its xs) st) (hx : xs.length < 16777215)
    (hc : ∀ d ∈ xs, ∃ ρ1, g d (wipeD ρ vs) = some ρ1 ∧ cnd ρ1 st = .ok (p d) st ∧ (p d = true → elt ρ1 st = .ok (f d) st)) :
    kLc vs g it cnd elt ρ st = .ok (.loc st.length) (st ++ [.lst ((xs.filter p).map f)]) := by
  obtain ⟨acc, st', h1, ⟨rfl, h2⟩, h3⟩ := lc_inv (g := g) (cnd := cnd) (elt := elt) (src := .its xs) (ρ := wipeD ρ vs) (xs := xs) (fun i s acc => s = st ∧ acc = ((xs.take i).filter p).map f) (fun i s acc h => rfl)
    (fun i d s acc hd ⟨hs, ha⟩ => by
      subst hs
      obtain ⟨ρ1, q1, q2, q3⟩ := hc d (List.mem_of_getElem? hd)
      have et : xs.take (i + 1) = xs.take i ++ [d] := by rw [List.take_succ, hd]; rfl
      refine ⟨ρ1, p d, s, q1, q2, fun k => ⟨f d, s, q3 k, rfl, ?_⟩, fun k => ⟨rfl, ?_⟩⟩
      · rw [et, ha]; simp [k]
      · rw [et, ha]; simp [k])
    xs.length 0 st [] (xs.length + 1) (by omega) (by omega) (by omega) (by simp) hx ⟨rfl, rfl⟩
  unfold kLc
  rw [hi]
  simp only [R.bind_ok]
  show (lcGo g cnd elt (.its xs) (wipeD ρ vs) (xs.length + 1) 0 st' []).bind _ = _
  rw [h1, R.bind_ok, h2, List.take_length]
end L3
namespace L3
open PySem L2
/-- a text of at most n signs, each below 128 -/
def strA (n : Nat) (x : Str) : Prop := x.length ≤ n ∧ ∀ c ∈ x.cps.toList, c < 128
theorem strA.le {m n : Nat} {x : Str} (h : strA m x) (hl : m ≤ n) : strA n x := ⟨Nat.le_trans h.1 hl, h.2⟩
theorem strA.app {m n : Nat} {x y : Str} (h : strA m x) (g : strA n y) : strA (m + n) (x ++ y) := by
  refine ⟨by rw [Str.length_append]; have := h.1; have := g.1; omega, fun c hc => ?_⟩
  rw [Str.cps_append, Array.toList_append] at hc
  rcases List.mem_append.mp hc with hc | hc
  · exact h.2 c hc
  · exact g.2 c hc
theorem strA.good {n : Nat} {x : Str} (h : strA n x) (hn : n ≤ 1000) : strG x = true := by
  unfold strG
  rw [Bool.and_eq_true]
  refine ⟨decide_eq_true (Nat.le_trans h.1 hn), ?_⟩
  rw [Array.all_eq_true']
  intro c hc
  have := h.2 c (by simpa using hc)
  exact decide_eq_true (by omega)
theorem upper_cps (x : Str) : (Txt.upper x).cps.toList = x.cps.toList.flatMap Unicode.upperOf := by
  unfold Txt.upper placed
  simp only [Array.toList_flatten, Array.toList_mapIdx]
  induction x.cps.toList with
  | nil => rfl
  | cons c cs ih => simp_all [List.mapIdx_cons]
theorem strA.upper {n : Nat} {x : Str} (h : strA n x) : strA n (Txt.upper x) := by
  have one : ∀ c, c < 128 → (Unicode.upperOf c).length = 1 ∧ ∀ d ∈ Unicode.upperOf c, d < 128 := by decide +kernel
  have all : ∀ cs : List Nat, (∀ c ∈ cs, c < 128) → (cs.flatMap Unicode.upperOf).length = cs.length ∧ ∀ d ∈ cs.flatMap Unicode.upperOf, d < 128 := by
    intro cs
    induction cs with
    | nil => intro _; exact ⟨rfl, fun d h => nomatch h⟩
    | cons c cs ih =>
      intro hc
      obtain ⟨h1, h2⟩ := ih fun c h => hc c (List.mem_cons_of_mem _ h)
      obtain ⟨h3, h4⟩ := one c (hc c (List.mem_cons_self ..))
      refine ⟨by rw [List.flatMap_cons, List.length_append, h1, h3, List.length_cons]; omega, fun d hd => ?_⟩
      rw [List.flatMap_cons] at hd
      rcases List.mem_append.mp hd with hd | hd
      · exact h4 d hd
      · exact h2 d hd
  obtain ⟨h1, h2⟩ := all _ h.2
  rw [← upper_cps] at h1 h2
  exact ⟨by have := h.1; simp only [Str.length] at this ⊢; simp only [Array.length_toList] at h1; omega, h2⟩
theorem strA.cut {n : Nat} {x : Str} (h : strA n x) (lo hi : Option Int) : strA n (cutS x lo hi) := by
  refine ⟨Nat.le_trans (cutS_length x lo hi) h.1, fun c hc => h.2 c ?_⟩
  unfold cutS at hc
  rw [List.toList_toArray] at hc
  exact List.mem_of_mem_drop (List.mem_of_mem_take hc)
theorem strA.one {c : Nat} (h : c < 128) : strA 1 ⟨#[c]⟩ := ⟨Nat.le_refl 1, fun d hd => (show d = c by simpa using hd) ▸ h⟩
theorem strA.join : ∀ ss : List Str, (∀ s ∈ ss, strA 1 s) → strA ss.length (Txt.join "" ss) := by
  intro ss h
  show strA _ (Builtin.Str.glued _ ss)
  have e : (Str.ofString "").cps = #[] := by decide +kernel
  have go : ∀ (ss : List Str) (acc : Array Nat) (k : Nat), (∀ s ∈ ss, strA 1 s) → strA k ⟨acc⟩ → strA (k + ss.length) ⟨ss.foldl (fun acc p => acc ++ (Str.ofString "").cps ++ p.cps) acc⟩ := by
    intro ss
    induction ss with
    | nil => intro acc k _ h; exact h
    | cons s ss ih =>
      intro acc k hs h
      have h2 := ih (acc ++ (Str.ofString "").cps ++ s.cps) (k + 1) (fun s h => hs s (List.mem_cons_of_mem _ h)) (by
        rw [e, Array.append_empty]
        exact h.app (y := s) (hs s (List.mem_cons_self ..)))
      refine h2.le ?_
      simp only [List.length_cons]; omega
  unfold Builtin.Str.glued
  cases ss with
  | nil => exact ⟨Nat.le_refl 0, fun c hc => by simp [Str.empty] at hc⟩
  | cons s ss => exact (go ss s.cps 1 (fun s h' => h s (List.mem_cons_of_mem _ h')) (h s (List.mem_cons_self ..))).le (by simp only [List.length_cons]; omega)
end L3

namespace K01
open PySem PySem.Spec PyProof.Rows L2 L3
/-- is_whole -/
def b_is_whole  : KS :=
  (sRet (kAndV (k1 (isF "int") (kv 0)) (kNotV (k1 (isF "bool") (kv 0)))))
/-- is_name -/
def b_is_name  : KS :=
  (sSeq (sIf (tOr3 (tNot3 (kTr (k1 (isF "str") (kv 0)))) (tNot3 (kTb (kChain leD leD (kc (.int 1)) (kF lenF (kA1 (kv 0) kA0)) (kc (.int 8)))))) (sRet (kc (.bl false))) sNil)
    (sRet (kF allF (kA1 (kLc [1] (gN 1) (iS (kv 0)) kTrue (k2 (inD false) (kv 1) (kc (.str "abcdefghijklmnopqrstuvwxyz")))) kA0))))
/-- is_size -/
def b_is_size (r_is_whole : L3.Run) : KS :=
  (sSeq (sIf (tOr3 (tNot3 (kTr (k1 (isF "tuple") (kv 0)))) (kTb (k2 neD (kF lenF (kA1 (kv 0) kA0)) (kc (.int 3))))) (sRet (kc (.bl false))) sNil)
    (sSeq (sIf (tNot3 (kTr (kF allF (kA1 (kLc [4] (gN 4) (iT (kv 0)) kTrue (kF r_is_whole (kA1 (kv 4) kA0))) kA0)))) (sRet (kc (.bl false))) sNil)
    (sSeq (sAsg (gT 3 (gs1 (gN 1) (gs1 (gN 2) (gs1 (gN 3) gs0)))) (kv 0))
    (sRet (kAndV (kChain leD leD (kc (.int 1)) (kv 1) (kc (.int 1000000000000000000000000000000))) (kAndV (kChain leD leD (kc (.int 1)) (kv 2) (kc (.int 1000000000000000000000000000000))) (kChain leD leD (kc (.int 2)) (kv 3) (kc (.int 1000000000000000000000000000000)))))))))
/-- _law_numbers -/
def b_law_numbers  : KS :=
  (sSeq (sSet 2 (kIf (kTb (k2 ltD (kv 1) (kF lenF (kA1 (kv 0) kA0)))) (k2 ixD (kv 0) (kv 1)) (k2 addD (k2 mulD (kc (.int 67)) (kv 1)) (kc (.int 37)))))
    (sSeq (sSet 3 (k2 modD (kF intF (kA1 (kF absF (kA1 (kv 2) kA0)) kA0)) (k2 powD (k2 powD (kc (.int 10)) (kc (.int 57))) (kc (.int 11)))))
    (sSeq (sSet 4 (k2 addD (k2 addD (k2 addD (k2 mulD (kv 3) (kc (.int 1000171))) (k2 mulD (kc (.int 8377)) (kv 1))) (k2 mulD (kc (.int 53)) (kF intF (kA1 (k2 ltD (kv 2) (kc (.int 0))) kA0)))) (kc (.int 19))))
    (sRet (kF lstF (kA1 (kF maxF (kA1 (kc (.int 0)) (kA1 (k2 subD (kv 3) (k2 powD (kc (.int 10)) (kc (.int 16)))) kA0))) (kA1 (k2 modD (kF intF (kA1 (kv 4) kA0)) (kc (.int 1152921504606846917))) (kA1 (kc (.int 0)) kA0))))))))
/-- _law_cast -/
def b_law_cast  : KS :=
  (sSeq (sIf (kTb (k2 gtD (k2 ixD (kv 0) (kc (.int 0))) (kc (.int 0)))) (sSeq (sSet 4 (k2 modD (kF intF (kA1 (k2 ixD (kv 0) (kc (.int 0))) kA0)) (kv 1)))
    (sSeq (sSetIx setL (kv 0) (kc (.int 0)) (k2 fdivD (k2 ixD (kv 0) (kc (.int 0))) (kv 1)))
    (sRet (kv 4)))) sNil)
    (sSeq (sSetIx setL (kv 0) (kc (.int 2)) (k2 addD (k2 ixD (kv 0) (kc (.int 2))) (kc (.int 1))))
    (sSeq (sSet 2 (k2 modD (kF intF (kA1 (k2 addD (k2 ixD (kv 0) (kc (.int 1))) (k2 mulD (kc (.int 694847539)) (k2 ixD (kv 0) (kc (.int 2))))) kA0)) (kc (.int 2305843009213693893))))
    (sSeq (sSet 3 (k2 addD (k2 mulD (k2 modD (kF intF (kA1 (k2 mulD (kv 2) (kv 2)) kA0)) (kc (.int 1152921504606846737))) (kv 2)) (k2 mulD (kc (.int 7417)) (k2 ixD (kv 0) (kc (.int 2))))))
    (sRet (k2 modD (kF intF (kA1 (k2 fdivD (k2 modD (kF intF (kA1 (k2 addD (kv 3) (k2 ixD (kv 0) (kc (.int 1)))) kA0)) (kc (.int 8796093022127))) (kc (.int 64))) kA0)) (kv 1)))))))
/-- _law_pick -/
def b_law_pick (r_law_cast : L3.Run) : KS :=
  (sRet (k2 ixD (kv 1) (kF r_law_cast (kA1 (kv 0) (kA1 (kF lenF (kA1 (kv 1) kA0)) kA0)))))
/-- _law_bent_tuple -/
def b_law_bent_tuple (r_law_cast : L3.Run) (r_law_pick : L3.Run) : KS :=
  (sSeq (sSet 3 (kIf (kTb (k2 neD (kv 1) (kF tupF kA0))) (kF r_law_cast (kA1 (kv 0) (kA1 (kF lenF (kA1 (kv 1) kA0)) kA0))) (kc (.int 0))))
    (sSeq (sSet 4 (kF lstF (kA1 (k2 addD (k2 addD (kSl (kv 1) kO0 (kO1 (kv 3))) (kF tupF (kA1 (kv 2) kA0))) (kSl (kv 1) (kO1 (k2 addD (kv 3) (kc (.int 1)))) kO0)) kA0)))
    (sSeq (sExpr (kM (tyD "list") appendM (kv 4) (kA1 (k2 addD (kSl (kv 1) kO0 (kO1 (kv 3))) (kSl (kv 1) (kO1 (k2 addD (kv 3) (kc (.int 1)))) kO0)) kA0)))
    (sSeq (sSet 4 (k2 addD (kv 4) (kF lstF (kA1 (k2 addD (kSl (kv 1) kO0 (kO1 (k2 addD (kv 3) (kc (.int 1))))) (kSl (kv 1) (kO1 (kv 3)) kO0)) (kA1 (k1 revD (kv 1)) (kA1 (kF listF (kA1 (kv 1) kA0)) kA0))))))
    (sSeq (sSet 4 (k2 addD (kv 4) (kF lstF (kA1 (k2 addD (kv 1) (kF tupF (kA1 (kv 2) kA0))) (kA1 (k2 addD (kF tupF (kA1 (kv 2) kA0)) (kv 1)) (kA1 (kv 2) kA0))))))
    (sRet (kF r_law_pick (kA1 (kv 0) (kA1 (kv 4) kA0)))))))))
/-- _law_is_word -/
def b_law_is_word  : KS :=
  (sSeq (sIf (tOr3 (tNot3 (kTr (k1 (isF "str") (kv 0)))) (tNot3 (kTb (kChain leD leD (kc (.int 1)) (kF lenF (kA1 (kv 0) kA0)) (kc (.int 8)))))) (sRet (kc (.bl false))) sNil)
    (sRet (k2 eqD (kLc [1] (gN 1) (iS (kv 0)) (tNot3 (kTb (kChain leD leD (kc (.str "a")) (kv 1) (kc (.str "z"))))) (kv 1)) (kF lstF kA0))))
/-- _law_is_number -/
def b_law_is_number  : KS :=
  (sRet (kAndV (k1 (isF "int") (kv 0)) (kAndV (kNotV (k1 (isF "bool") (kv 0))) (kChain leD leD (kv 1) (kv 0) (kv 2)))))
/-- _law_odd_one -/
def b_law_odd_one (r_law_pick : L3.Run) : KS :=
  (sSeq (sSet 1 (kF lstF (kA1 (kc .non) (kA1 (kc (.int 0)) (kA1 (kc (.int 1)) (kA1 (kc (.int 7)) (kA1 (kc (.int 99)) (kA1 (k1 negD (kc (.int 1))) (kA1 (kc (.bl true)) (kA1 (kc (.bl false)) (kA1 (kc (.str "")) (kA1 (kc (.str "a")) (kA1 (kc (.str "across")) (kA1 (kc (.str "down")) (kA1 (kF tupF kA0) (kA1 (kF tupF (kA1 (kc (.int 0)) kA0)) (kA1 (kF tupF (kA1 (kc (.int 1)) (kA1 (kc (.int 0)) kA0))) (kA1 (kF tupF (kA1 (kc (.int 0)) (kA1 (kc (.int 0)) kA0))) (kA1 (kF lstF (kA1 (kc (.int 0)) kA0)) (kA1 kD0 (kA1 (kc (.str "p")) kA0)))))))))))))))))))))
    (sSeq (sSet 1 (k2 addD (kv 1) (kF lstF (kA1 (k2 powD (kc (.int 10)) (kc (.int 39))) (kA1 (kF tupF (kA1 (kc .non) kA0)) (kA1 (kF tupF (kA1 (kc (.int 0)) (kA1 (kc (.int 0)) (kA1 (kc (.str "across")) kA0)))) (kA1 (kF tupF (kA1 (kc (.int 0)) (kA1 (kc (.int 0)) (kA1 (kc (.str "down")) kA0)))) (kA1 (kF tupF (kA1 (kc (.int 2)) (kA1 (kc (.int 2)) (kA1 (kc (.int 2)) kA0)))) (kA1 (kF tupF (kA1 (kc (.int 4)) (kA1 (kc (.int 2)) (kA1 (kc (.int 2)) kA0)))) (kA1 (kF tupF (kA1 (kc (.str "level")) (kA1 (kc (.int 1)) kA0))) (kA1 (kF lstF (kA1 (kF tupF (kA1 (kc (.int 0)) (kA1 (kc (.int 1)) kA0))) kA0)) kA0)))))))))))
    (sRet (kF r_law_pick (kA1 (kv 0) (kA1 (kv 1) kA0))))))
/-- _law_is_three -/
def b_law_is_three (r_law_is_number : L3.Run) : KS :=
  (sSeq (sIf (tOr3 (tNot3 (kTr (k1 (isF "tuple") (kv 0)))) (kTb (k2 neD (kF lenF (kA1 (kv 0) kA0)) (kc (.int 3))))) (sRet (kc (.bl false))) sNil)
    (sSeq (sIf (tOr3 (tNot3 (kTr (kF r_law_is_number (kA1 (k2 ixD (kv 0) (kc (.int 0))) (kA1 (kc (.int 1)) (kA1 (k2 powD (kc (.int 10)) (kc (.int 30))) kA0)))))) (tNot3 (kTr (kF r_law_is_number (kA1 (k2 ixD (kv 0) (kc (.int 1))) (kA1 (kc (.int 1)) (kA1 (k2 powD (kc (.int 10)) (kc (.int 30))) kA0))))))) (sRet (kc (.bl false))) sNil)
    (sRet (kF r_law_is_number (kA1 (k2 ixD (kv 0) (kc (.int 2))) (kA1 (kc (.int 2)) (kA1 (k2 powD (kc (.int 10)) (kc (.int 30))) kA0)))))))
/-- _law_words_right -/
def b_law_words_right (r_law_cast : L3.Run) (r_law_pick : L3.Run) (r_law_odd_one : L3.Run) (r_is_name : L3.Run) (r_law_is_word : L3.Run) : KS :=
  (sSeq (sSet 1 (kc (.str "abcdefghijklmnopqrstuvwxyz")))
    (sSeq (sSet 2 (kM (tyD "str") joinM (kc (.str "")) (kA1 (kLc [7] (gN 7) (iR1 (kA1 (kF r_law_cast (kA1 (kv 0) (kA1 (kc (.int 10)) kA0))) kA0)) kTrue (kF r_law_pick (kA1 (kv 0) (kA1 (kv 1) kA0)))) kA0)))
    (sSeq (sPar2 3 4 (kF r_law_cast (kA1 (kv 0) (kA1 (k2 addD (kF lenF (kA1 (kv 2) kA0)) (kc (.int 1))) kA0))) (kF r_law_pick (kA1 (kv 0) (kA1 (kF lstF (kA1 (kc (.str "A")) (kA1 (kc (.str " ")) (kA1 (kc (.str "0")) (kA1 (kc (.str "_")) (kA1 (kc (.str "-")) (kA1 (kc (.str "{")) (kA1 (kc (.str "`")) (kA1 (kc (.str "\n")) (kA1 (kc (.str "z")) (kA1 (kc (.str "aa")) kA0))))))))))) kA0))))
    (sSeq (sSet 5 (kF lstF (kA1 (kv 2) (kA1 (k2 addD (k2 addD (kSl (kv 2) kO0 (kO1 (kv 3))) (kv 4)) (kSl (kv 2) (kO1 (kv 3)) kO0)) (kA1 (kSl (kv 2) kO0 (kO1 (kv 3))) (kA1 (kM (tyD "str") upperM (kv 2) kA0) (kA1 (k2 addD (kv 2) (kv 2)) (kA1 (kF lstF (kA1 (kv 2) kA0)) (kA1 (kF tupF (kA1 (kv 2) kA0)) (kA1 (kF r_law_odd_one (kA1 (kv 0) kA0)) kA0))))))))))
    (sSeq (sFor (gN 6) (iL (kv 5)) (sIf (kTb (k2 neD (kF reprF (kA1 (kF r_is_name (kA1 (kv 6) kA0)) kA0)) (kF reprF (kA1 (kF r_law_is_word (kA1 (kv 6) kA0)) kA0)))) (sRet (kc (.bl false))) sNil))
    (sRet (kc (.bl true))))))))
/-- _law_sizes_right -/
def b_law_sizes_right (r_law_pick : L3.Run) (r_law_bent_tuple : L3.Run) (r_law_odd_one : L3.Run) (r_is_size : L3.Run) (r_law_is_three : L3.Run) : KS :=
  (sSeq (sSet 1 (kF lstF (kA1 (kc (.int 1)) (kA1 (kc (.int 2)) (kA1 (kc (.int 6)) (kA1 (kc (.int 24)) (kA1 (k2 powD (kc (.int 10)) (kc (.int 30))) (kA1 (k2 addD (k2 powD (kc (.int 10)) (kc (.int 30))) (kc (.int 1))) (kA1 (kc (.int 0)) (kA1 (k1 negD (kc (.int 1))) (kA1 (k2 addD (k2 powD (kc (.int 10)) (kc (.int 29))) (kc (.int 7))) kA0)))))))))))
    (sSeq (sSet 2 (kF tupF (kA1 (kF r_law_pick (kA1 (kv 0) (kA1 (kv 1) kA0))) (kA1 (kF r_law_pick (kA1 (kv 0) (kA1 (kv 1) kA0))) (kA1 (kF r_law_pick (kA1 (kv 0) (kA1 (kF lstF (kA1 (kc (.int 2)) (kA1 (kc (.int 3)) (kA1 (kc (.int 1)) (kA1 (kc (.int 0)) (kA1 (k2 powD (kc (.int 10)) (kc (.int 30))) (kA1 (k2 addD (k2 powD (kc (.int 10)) (kc (.int 30))) (kc (.int 1))) (kA1 (kc (.int 5)) kA0)))))))) kA0))) kA0)))))
    (sSeq (sSet 3 (kF lstF (kA1 (kv 2) (kA1 (kF listF (kA1 (kv 2) kA0)) (kA1 (kF r_law_bent_tuple (kA1 (kv 0) (kA1 (kv 2) (kA1 (kF r_law_odd_one (kA1 (kv 0) kA0)) kA0)))) (kA1 (kF r_law_bent_tuple (kA1 (kv 0) (kA1 (kF tupF (kA1 (kc (.int 6)) (kA1 (kc (.int 5)) (kA1 (kc (.int 2)) kA0)))) (kA1 (kc .non) kA0)))) kA0))))))
    (sSeq (sSet 3 (k2 addD (kv 3) (kF lstF (kA1 (kF tupF (kA1 (kc (.int 6)) (kA1 (kc (.int 5)) (kA1 (kc (.int 2)) (kA1 (kc (.int 0)) kA0))))) (kA1 (kF tupF (kA1 (kc (.int 6)) (kA1 (kc (.bl true)) (kA1 (kc (.int 2)) kA0)))) (kA1 (kF tupF (kA1 (kc (.str "6")) (kA1 (kc (.int 5)) (kA1 (kc (.int 2)) kA0)))) (kA1 (kF r_law_odd_one (kA1 (kv 0) kA0)) kA0)))))))
    (sSeq (sFor (gN 4) (iL (kv 3)) (sIf (kTb (k2 neD (kF reprF (kA1 (kF r_is_size (kA1 (kv 4) kA0)) kA0)) (kF reprF (kA1 (kF r_law_is_three (kA1 (kv 4) kA0)) kA0)))) (sRet (kc (.bl false))) sNil))
    (sRet (kc (.bl true))))))))
/-- law -/
def b_law (r_law_numbers : L3.Run) (r_law_words_right : L3.Run) (r_law_sizes_right : L3.Run) (r_is_name : L3.Run) (r_is_size : L3.Run) : KS :=
  (sSeq (sFor (gN 1) (iR1 (kA1 (kF maxF (kA1 (kc (.int 1)) (kA1 (kF minF (kA1 (kc (.int 8)) (kA1 (kF lenF (kA1 (kv 0) kA0)) kA0))) kA0))) kA0)) (sSeq (sSet 3 (kF r_law_numbers (kA1 (kv 0) (kA1 (kv 1) kA0))))
    (sFor (gN 4) (iR1 (kA1 (kc (.int 5)) kA0)) (sIf (tOr3 (tNot3 (kTr (kF r_law_words_right (kA1 (kv 3) kA0)))) (tNot3 (kTr (kF r_law_sizes_right (kA1 (kv 3) kA0))))) (sRet (kc (.bl false))) sNil))))
    (sSeq (sSet 2 (kLc [5] (gN 5) (iT (kF tupF (kA1 (kc (.str "a")) (kA1 (kc (.str "zzzzzzzz")) (kA1 (kc (.str "aaaaaaaaa")) (kA1 (kc (.str "")) (kA1 (kc (.str "floor")) (kA1 (kc (.str "Bar")) (kA1 (kc (.str "a1")) (kA1 (kc (.str "upright")) kA0)))))))))) kTrue (kF r_is_name (kA1 (kv 5) kA0))))
    (sSeq (sIf (kTb (k2 neD (kv 2) (kF lstF (kA1 (kc (.bl true)) (kA1 (kc (.bl true)) (kA1 (kc (.bl false)) (kA1 (kc (.bl false)) (kA1 (kc (.bl true)) (kA1 (kc (.bl false)) (kA1 (kc (.bl false)) (kA1 (kc (.bl true)) kA0))))))))))) (sRet (kc (.bl false))) sNil)
    (sSeq (sSet 2 (kLc [6] (gN 6) (iT (kF tupF (kA1 (kF tupF (kA1 (kc (.int 1)) (kA1 (kc (.int 1)) (kA1 (kc (.int 2)) kA0)))) (kA1 (kF tupF (kA1 (kc (.int 1)) (kA1 (kc (.int 1)) (kA1 (kc (.int 1)) kA0)))) (kA1 (kF tupF (kA1 (k2 powD (kc (.int 10)) (kc (.int 30))) (kA1 (kc (.int 1)) (kA1 (k2 powD (kc (.int 10)) (kc (.int 30))) kA0)))) (kA1 (kF tupF (kA1 (k2 addD (k2 powD (kc (.int 10)) (kc (.int 30))) (kc (.int 1))) (kA1 (kc (.int 1)) (kA1 (kc (.int 2)) kA0)))) (kA1 (kF tupF (kA1 (kc (.int 0)) (kA1 (kc (.int 1)) (kA1 (kc (.int 2)) kA0)))) kA0))))))) kTrue (kF r_is_size (kA1 (kv 6) kA0))))
    (sRet (k2 eqD (kv 2) (kF lstF (kA1 (kc (.bl true)) (kA1 (kc (.bl false)) (kA1 (kc (.bl true)) (kA1 (kc (.bl false)) (kA1 (kc (.bl false)) kA0))))))))))))
def ids : List String := ["is_whole", "is_name", "is_size", "_law_numbers", "_law_cast", "_law_pick", "_law_bent_tuple", "_law_is_word", "_law_is_number", "_law_odd_one", "_law_is_three", "_law_words_right", "_law_sizes_right", "law"]
def callT : Nat → Nat → L3.Run
  | 0, _ => runBad
  | n + 1, i => match i with
    | 0 => runDef 1 1 (b_is_whole )
    | 1 => runDef 2 1 (b_is_name )
    | 2 => runDef 5 1 (b_is_size (callT n 0))
    | 3 => runDef 5 2 (b_law_numbers )
    | 4 => runDef 5 2 (b_law_cast )
    | 5 => runDef 2 2 (b_law_pick (callT n 4))
    | 6 => runDef 5 3 (b_law_bent_tuple (callT n 4) (callT n 5))
    | 7 => runDef 2 1 (b_law_is_word )
    | 8 => runDef 3 3 (b_law_is_number )
    | 9 => runDef 2 1 (b_law_odd_one (callT n 5))
    | 10 => runDef 1 1 (b_law_is_three (callT n 8))
    | 11 => runDef 8 1 (b_law_words_right (callT n 4) (callT n 5) (callT n 9) (callT n 1) (callT n 7))
    | 12 => runDef 5 1 (b_law_sizes_right (callT n 5) (callT n 6) (callT n 9) (callT n 2) (callT n 10))
    | 13 => runDef 7 1 (b_law (callT n 3) (callT n 11) (callT n 12) (callT n 1) (callT n 2))
    | _ => runBad
end K01
namespace K01
open PySem L2 L3
theorem cast_ok : CastS (runDef 5 2 b_law_cast) := by
  intro st n tot hd h0 h1
  obtain ⟨a, b, c, hn⟩ := id hd
  have hl := hd.lt
  have ix0 : ∀ {x y z : Int}, atI [D.int x, .int y, .int z] 0 = some (.int x) := atI_zero
  have ix1 : ∀ {x y z : Int}, atI [D.int x, .int y, .int z] 1 = some (.int y) := atI_one
  have ix2 : ∀ {x y z : Int}, atI [D.int x, .int y, .int z] 2 = some (.int z) := atI_two
  have nx0 : ixN 3 0 = some 0 := rfl
  have nx2 : ixN 3 2 = some 2 := rfl
  by_cases ha : 0 < a
  · have dt : divOk tot := ⟨h0, .inl h1⟩
    refine ⟨a % tot, st.set n (.lst [.int (a / tot), .int b, .int c]), Int.emod_nonneg _ (by omega), Int.emod_lt_of_pos _ h0, ?_, by simp, Step.draw hd _ _ _⟩
    simp only [b_law_cast, runDef_eq, start3, finR, sSeq, sSet, sExpr, sRet, sRetN, sIf, sPar2, sAsg, sSetIx, sNil, RS.andThen_nx, RS.andThen_rt, RS.andThen_exn, R.toS_ok, R.toS_exn, kv, kc, k1, k2, kA0, kA1, kF, kM, kIf, kTr, kTb, tAnd3, tOr3, tNot3, kAndV, kOrV, kNotV, kChain, R.bind_ok, R.bind_exn, gN, gT, gs0, gs1, List.map_cons, List.map_nil, List.length_cons, List.length_nil, List.replicate, List.cons_append, List.nil_append, List.getElem?_cons_zero, List.getElem?_cons_succ, List.set_cons_zero, List.set_cons_succ, Nat.reduceAdd, Nat.reduceSub, if_true, if_false, Bool.false_eq_true, Bool.true_eq_false, reduceIte, Bool.not_true, Bool.not_false, Option.bind_some, decide_true, decide_false, addD, subD, mulD, fdivD, modD, cmpD, ltD, leD, gtD, geD, negD, lenF, absF, maxF, minF, intF, reprF, listF, tupleF, tupF, lstF, truD, tyD, ixD_loc hn ix0, ha, h0, dt, setL_loc hn nx0]
  · have hs : (st.set n (.lst [.int a, .int b, .int (c + 1)]))[n]? = some (.lst [.int a, .int b, .int (c + 1)]) := by rw [List.getElem?_set_self hl]
    have e1 : ∀ x : Int, 0 ≤ x % 2305843009213693893 ∧ x % 2305843009213693893 < 2305843009213693893 := fun x => ⟨Int.emod_nonneg _ (by omega), Int.emod_lt_of_pos _ (by omega)⟩
    have m1 : ∀ x : Int, mulOk 694847539 x := fun x => .inl (.inl ⟨by decide, by decide⟩)
    have m2 : ∀ x : Int, mulOk 7417 x := fun x => .inl (.inl ⟨by decide, by decide⟩)
    have m4 : ∀ x y : Int, mulOk x (y % 2305843009213693893) := fun x y => .inl (.inr ⟨by have := e1 y; omega, by have := e1 y; omega⟩)
    have d1 : divOk 64 := ⟨by decide, .inl (by decide)⟩
    have p1 : (0 : Int) < 2305843009213693893 := by decide
    have p2 : (0 : Int) < 1152921504606846737 := by decide
    have p3 : (0 : Int) < 8796093022127 := by decide
    obtain ⟨z, hz⟩ : ∃ z : Int, runDef 5 2 b_law_cast [D.loc n, D.int tot] st = .ok (.int (z % tot)) (st.set n (.lst [.int a, .int b, .int (c + 1)])) := by
      simp only [b_law_cast, runDef_eq, start3, finR, sSeq, sSet, sExpr, sRet, sRetN, sIf, sPar2, sAsg, sSetIx, sNil, RS.andThen_nx, RS.andThen_rt, RS.andThen_exn, R.toS_ok, R.toS_exn, kv, kc, k1, k2, kA0, kA1, kF, kM, kIf, kTr, kTb, tAnd3, tOr3, tNot3, kAndV, kOrV, kNotV, kChain, R.bind_ok, R.bind_exn, gN, gT, gs0, gs1, List.map_cons, List.map_nil, List.length_cons, List.length_nil, List.replicate, List.cons_append, List.nil_append, List.getElem?_cons_zero, List.getElem?_cons_succ, List.set_cons_zero, List.set_cons_succ, Nat.reduceAdd, Nat.reduceSub, if_true, if_false, Bool.false_eq_true, Bool.true_eq_false, reduceIte, Bool.not_true, Bool.not_false, Option.bind_some, decide_true, decide_false, addD, subD, mulD, fdivD, modD, cmpD, ltD, leD, gtD, geD, negD, lenF, absF, maxF, minF, intF, reprF, listF, tupleF, tupF, lstF, truD, tyD, ixD_loc hn ix0, ixD_loc hn ix2, ixD_loc hs ix1, ixD_loc hs ix2, ha, h0, setL_loc hn nx2, m1, m2, m4, d1, p1, p2, p3]
      exact ⟨_, rfl⟩
    exact ⟨z % tot, _, Int.emod_nonneg _ (by omega), Int.emod_lt_of_pos _ h0, hz, by simp, Step.draw hd _ _ _⟩
end K01

namespace K01
open PySem L2 L3
theorem pick_ok {rc : L3.Run} (hc : CastS rc) : PickS (runDef 2 2 (b_law_pick rc)) := by
  intro st n it xs hd hs hm hne hl
  have hpos : 0 < xs.length := List.length_pos_iff.mpr hne
  obtain ⟨k, st1, h0, h1, hr, hlen, hstep⟩ := hc st n xs.length hd (by omega) (by omega)
  have hs1 := seqD_step hstep hm hs
  obtain ⟨y, hy, hix⟩ := ixD_seq hs1 h0 h1
  refine ⟨y, st1, List.mem_of_getElem? hy, ?_, hlen, hstep⟩
  simp only [b_law_pick, runDef_eq, start3, finR, sSeq, sSet, sExpr, sRet, sRetN, sIf, sPar2, sAsg, sSetIx, sNil, RS.andThen_nx, RS.andThen_rt, RS.andThen_exn, R.toS_ok, R.toS_exn, kv, kc, k1, k2, kA0, kA1, kF, kM, kIf, kTr, kTb, tAnd3, tOr3, tNot3, kAndV, kOrV, kNotV, kChain, R.bind_ok, R.bind_exn, gN, gT, gs0, gs1, List.map_cons, List.map_nil, List.length_cons, List.length_nil, List.replicate, List.cons_append, List.nil_append, List.getElem?_cons_zero, List.getElem?_cons_succ, List.set_cons_zero, List.set_cons_succ, Nat.reduceAdd, Nat.reduceSub, if_true, if_false, Bool.false_eq_true, Bool.true_eq_false, reduceIte, Bool.not_true, Bool.not_false, Option.bind_some, decide_true, decide_false, lenF_seq hs, hr, hix]
theorem numbers_ok : NumsS (runDef 5 2 b_law_numbers) := by
  intro st ns k hk
  have hp1 : ∀ st : Sto, powD (.int 10) (.int 57) st = .ok (.int (10 ^ (57 : Int).toNat)) st := fun st => pow_ok (by decide +kernel)
  have hp2 : ∀ st : Sto, powD (.int (10 ^ (57 : Int).toNat)) (.int 11) st = .ok (.int ((10 ^ (57 : Int).toNat) ^ (11 : Int).toNat)) st := fun st => pow_ok (by decide +kernel)
  have hp3 : ∀ st : Sto, powD (.int 10) (.int 16) st = .ok (.int (10 ^ (16 : Int).toNat)) st := fun st => pow_ok (by decide +kernel)
  have hpos : (0 : Int) < (10 ^ (57 : Int).toNat) ^ (11 : Int).toNat := by decide +kernel
  generalize ((10 : Int) ^ (57 : Int).toNat) = P at hp1 hp2 hpos
  generalize P ^ (11 : Int).toNat = M at hp2 hpos
  have m1 : ∀ x : Int, mulOk x 1000171 := fun x => .inl (.inr ⟨by decide, by decide⟩)
  have m2 : ∀ x : Int, mulOk 8377 x := fun x => .inl (.inl ⟨by decide, by decide⟩)
  have m3 : ∀ x : Int, mulOk 53 x := fun x => .inl (.inl ⟨by decide, by decide⟩)
  have m4 : ∀ x : Int, mulOk 67 x := fun x => .inl (.inl ⟨by decide, by decide⟩)
  have p1 : (0 : Int) < 1152921504606846917 := by decide
  have hz : (3 : Nat) ≤ 16777216 := by decide
  -- the cell
  have cell : ∃ c : Int, (kIf (kTb (k2 ltD (kv 1) (kF lenF (kA1 (kv 0) kA0)))) (k2 ixD (kv 0) (kv 1)) (k2 addD (k2 mulD (kc (.int 67)) (kv 1)) (kc (.int 37)))) [some (.frz (ns.map D.int)), some (.int k), none, none, none] st = .ok (.int c) st := by
    by_cases h : k < ns.length
    · have hk2 : k.toNat < ns.length := by omega
      have e : atI (ns.map D.int) k = some (.int ns[k.toNat]) := by
        rw [atI_lt hk (by simpa using h)]
        simp
      refine ⟨ns[k.toNat], ?_⟩
      simp only [runDef_eq, start3, finR, sSeq, sSet, sExpr, sRet, sRetN, sIf, sPar2, sAsg, sSetIx, sNil, RS.andThen_nx, RS.andThen_rt, RS.andThen_exn, R.toS_ok, R.toS_exn, kv, kc, k1, k2, kA0, kA1, kF, kM, kIf, kTr, kTb, tAnd3, tOr3, tNot3, kAndV, kOrV, kNotV, kChain, R.bind_ok, R.bind_exn, gN, gT, gs0, gs1, List.map_cons, List.map_nil, List.length_cons, List.length_nil, List.replicate, List.cons_append, List.nil_append, List.getElem?_cons_zero, List.getElem?_cons_succ, List.set_cons_zero, List.set_cons_succ, Nat.reduceAdd, Nat.reduceSub, if_true, if_false, Bool.false_eq_true, Bool.true_eq_false, reduceIte, Bool.not_true, Bool.not_false, Option.bind_some, decide_true, decide_false, addD, subD, mulD, fdivD, modD, cmpD, ltD, leD, gtD, geD, negD, lenF, absF, maxF, minF, intF, reprF, listF, tupleF, tupF, lstF, truD, tyD, List.length_map, h, ixD_frz e]
    · refine ⟨67 * k + 37, ?_⟩
      simp only [runDef_eq, start3, finR, sSeq, sSet, sExpr, sRet, sRetN, sIf, sPar2, sAsg, sSetIx, sNil, RS.andThen_nx, RS.andThen_rt, RS.andThen_exn, R.toS_ok, R.toS_exn, kv, kc, k1, k2, kA0, kA1, kF, kM, kIf, kTr, kTb, tAnd3, tOr3, tNot3, kAndV, kOrV, kNotV, kChain, R.bind_ok, R.bind_exn, gN, gT, gs0, gs1, List.map_cons, List.map_nil, List.length_cons, List.length_nil, List.replicate, List.cons_append, List.nil_append, List.getElem?_cons_zero, List.getElem?_cons_succ, List.set_cons_zero, List.set_cons_succ, Nat.reduceAdd, Nat.reduceSub, if_true, if_false, Bool.false_eq_true, Bool.true_eq_false, reduceIte, Bool.not_true, Bool.not_false, Option.bind_some, decide_true, decide_false, addD, subD, mulD, fdivD, modD, cmpD, ltD, leD, gtD, geD, negD, lenF, absF, maxF, minF, intF, reprF, listF, tupleF, tupF, lstF, truD, tyD, List.length_map, h, m4]
  obtain ⟨c, hc⟩ := cell
  simp only [runDef_eq, Nat.reduceAdd, Nat.reduceSub, start3, b_law_numbers, List.map_cons, List.map_nil, List.length_cons, List.length_nil, List.replicate, List.cons_append, List.nil_append, sSeq, sSet]
  rw [hc]
  simp only [runDef_eq, start3, finR, sSeq, sSet, sExpr, sRet, sRetN, sIf, sPar2, sAsg, sSetIx, sNil, RS.andThen_nx, RS.andThen_rt, RS.andThen_exn, R.toS_ok, R.toS_exn, kv, kc, k1, k2, kA0, kA1, kF, kM, kIf, kTr, kTb, tAnd3, tOr3, tNot3, kAndV, kOrV, kNotV, kChain, R.bind_ok, R.bind_exn, gN, gT, gs0, gs1, List.map_cons, List.map_nil, List.length_cons, List.length_nil, List.replicate, List.cons_append, List.nil_append, List.getElem?_cons_zero, List.getElem?_cons_succ, List.set_cons_zero, List.set_cons_succ, Nat.reduceAdd, Nat.reduceSub, if_true, if_false, Bool.false_eq_true, Bool.true_eq_false, reduceIte, Bool.not_true, Bool.not_false, Option.bind_some, decide_true, decide_false, addD, subD, mulD, fdivD, modD, cmpD, ltD, leD, gtD, geD, negD, lenF, absF, maxF, minF, intF, reprF, listF, tupleF, tupF, lstF, truD, tyD, hp1, hp2, hp3, hpos, m1, m2, m3, p1, hz]
  exact ⟨_, _, rfl⟩
end K01

namespace K01
open PySem L2 L3
theorem number_ok : NumberS (runDef 3 3 b_law_is_number) := by
  intro st n d lo hi h
  simp only [b_law_is_number, runDef_eq, start3, finR, sSeq, sSet, sExpr, sRet, sRetN, sIf, sPar2, sAsg, sSetIx, sNil, RS.andThen_nx, RS.andThen_rt, RS.andThen_exn, R.toS_ok, R.toS_exn, kv, kc, k1, k2, kA0, kA1, kF, kM, kIf, kTr, kTb, tAnd3, tOr3, tNot3, kAndV, kOrV, kNotV, kChain, R.bind_ok, R.bind_exn, gN, gT, gs0, gs1, List.map_cons, List.map_nil, List.length_cons, List.length_nil, List.replicate, List.cons_append, List.nil_append, List.getElem?_cons_zero, List.getElem?_cons_succ, List.set_cons_zero, List.set_cons_succ, Nat.reduceAdd, Nat.reduceSub, if_true, if_false, Bool.false_eq_true, Bool.true_eq_false, reduceIte, Bool.not_true, Bool.not_false, Option.bind_some, decide_true, decide_false, is_int h, is_bool h, truD]
  cases h with
  | int i =>
    simp only [isIntD, isBlD, runDef_eq, start3, finR, sSeq, sSet, sExpr, sRet, sRetN, sIf, sPar2, sAsg, sSetIx, sNil, RS.andThen_nx, RS.andThen_rt, RS.andThen_exn, R.toS_ok, R.toS_exn, kv, kc, k1, k2, kA0, kA1, kF, kM, kIf, kTr, kTb, tAnd3, tOr3, tNot3, kAndV, kOrV, kNotV, kChain, R.bind_ok, R.bind_exn, gN, gT, gs0, gs1, List.map_cons, List.map_nil, List.length_cons, List.length_nil, List.replicate, List.cons_append, List.nil_append, List.getElem?_cons_zero, List.getElem?_cons_succ, List.set_cons_zero, List.set_cons_succ, Nat.reduceAdd, Nat.reduceSub, if_true, if_false, Bool.false_eq_true, Bool.true_eq_false, reduceIte, Bool.not_true, Bool.not_false, Option.bind_some, decide_true, decide_false, cmpD, leD]
    by_cases h1 : lo ≤ i
    · simp [h1, numB]
    · simp [h1, numB]
  | _ => rfl
theorem bent_ok {rc rp : L3.Run} (hc : CastS rc) (hp : PickS rp) : BentS (runDef 5 3 (b_law_bent_tuple rc rp)) := by
  intro st n is odd hd hne hlen hodd
  have hpos : 0 < is.length := List.length_pos_iff.mpr hne
  obtain ⟨k, st1, h0, h1, hr, hl1, s1⟩ := hc st n is.length hd (by omega) (by omega)
  have ne : neD (.tup (is.map D.int)) (.tup []) st = .ok (.bl true) st := by
    have e1 : pd st 40 (.tup (is.map D.int)) = some (.tuple (is.map PyData.int)) := by
      show (allO ((is.map D.int).map (pd st 39))).bind _ = _
      rw [pd_ints]; rfl
    have e2 : pd st 40 (.tup []) = some (.tuple []) := rfl
    have e3 : PyData.eqv (.tuple (is.map PyData.int)) (.tuple []) = false := by
      cases is with
      | nil => exact absurd rfl hne
      | cons i is => simp [PyData.eqv, PyData.eqvAll]
    simp only [neD, e1, e2]
    rw [if_pos ⟨shaped_tup_ints is, by decide⟩, e3]
    rfl
  obtain ⟨xs, hxs⟩ : ∃ xs, is.map D.int = xs := ⟨_, rfl⟩
  have hxl : xs.length = is.length := by rw [← hxs]; simp
  have pxs : ∀ x ∈ xs, Pl n st1 x := by rw [← hxs]; exact pl_ints
  have hodd1 := hodd.step s1
  rw [hxs] at ne ⊢
  obtain ⟨A, hA⟩ : ∃ A, cutD xs none (some k) = A := ⟨_, rfl⟩
  obtain ⟨B, hB⟩ : ∃ A, cutD xs (some (k + 1)) none = A := ⟨_, rfl⟩
  obtain ⟨C, hC⟩ : ∃ A, cutD xs none (some (k + 1)) = A := ⟨_, rfl⟩
  obtain ⟨F, hF⟩ : ∃ A, cutD xs (some k) none = A := ⟨_, rfl⟩
  have lA : A.length ≤ 100 := by rw [← hA]; exact Nat.le_trans (cutD_len _ _ _) (by omega)
  have lB : B.length ≤ 100 := by rw [← hB]; exact Nat.le_trans (cutD_len _ _ _) (by omega)
  have lC : C.length ≤ 100 := by rw [← hC]; exact Nat.le_trans (cutD_len _ _ _) (by omega)
  have lF : F.length ≤ 100 := by rw [← hF]; exact Nat.le_trans (cutD_len _ _ _) (by omega)
  have pA : ∀ x ∈ A, Pl n st1 x := fun x h => pxs x (cutD_sub (by rw [hA]; exact h))
  have pB : ∀ x ∈ B, Pl n st1 x := fun x h => pxs x (cutD_sub (by rw [hB]; exact h))
  have pC : ∀ x ∈ C, Pl n st1 x := fun x h => pxs x (cutD_sub (by rw [hC]; exact h))
  have pF : ∀ x ∈ F, Pl n st1 x := fun x h => pxs x (cutD_sub (by rw [hF]; exact h))
  have lx : xs.length ≤ 100 := by omega
  -- the list
  obtain ⟨g, hg⟩ : ∃ g : Sto, g = [.lst [.tup (A ++ odd :: B), .tup (A ++ B)], .lst xs, .lst [.tup (C ++ F), .tup xs.reverse, .loc (st1.length + 1)], .lst [.tup (A ++ odd :: B), .tup (A ++ B), .tup (C ++ F), .tup xs.reverse, .loc (st1.length + 1)],
    .lst [.tup (xs ++ [odd]), .tup (odd :: xs), odd], .lst [.tup (A ++ odd :: B), .tup (A ++ B), .tup (C ++ F), .tup xs.reverse, .loc (st1.length + 1), .tup (xs ++ [odd]), .tup (odd :: xs), odd]] := ⟨_, rfl⟩
  have hdl := s1.die.lt
  obtain ⟨y, st2, hy, hpk, hl2, s2⟩ := hp (st1 ++ g) n (.loc (st1.length + 5)) [.tup (A ++ odd :: B), .tup (A ++ B), .tup (C ++ F), .tup xs.reverse, .loc (st1.length + 1), .tup (xs ++ [odd]), .tup (odd :: xs), odd]
    (Step.grow s1.die g).die (by simp only [seqD, stA, hg]; rfl) (fun m e => by cases e; omega) (by simp) (by simp)
  have sAll : L3.Step n st1 st2 := (Step.grow s1.die g).trans s2
  refine ⟨y, st2, ?_, s1.trans sAll, ?_⟩
  · simp only [runDef_eq, List.length_cons, List.length_nil, Nat.reduceAdd]
    simp (disch := first | rfl | assumption | omega | (simp only [List.length_append, List.length_cons, List.length_nil, List.length_reverse, List.length_map]; omega)) only [b_law_bent_tuple, runDef_eq, start3, finR, sSeq, sSet, sExpr, sRet, sRetN, sIf, sPar2, sAsg, sSetIx, sNil, RS.andThen_nx, RS.andThen_rt, RS.andThen_exn, R.toS_ok, R.toS_exn, kv, kc, k1, k2, kA0, kA1, kF, kM, kIf, kTr, kTb, tAnd3, tOr3, tNot3, kAndV, kOrV, kNotV, kChain, R.bind_ok, R.bind_exn, gN, gT, gs0, gs1, List.map_cons, List.map_nil, List.length_cons, List.length_nil, List.replicate, List.cons_append, List.nil_append, List.getElem?_cons_zero, List.getElem?_cons_succ, List.set_cons_zero, List.set_cons_succ, Nat.reduceAdd, Nat.reduceSub, if_true, if_false, Bool.false_eq_true, Bool.true_eq_false, reduceIte, Bool.not_true, Bool.not_false, Option.bind_some, decide_true, decide_false, tupF, lstF, Nat.zero_le, hxl, ne, lenF, hr, kSl, kO0, kO1, slD_tup, hA, hB, hC, hF, addD, revD_tup, listF,
      appendM, tyD, stA0, stS0, stA, stS, List.append_assoc, List.length_append, Nat.add_zero, Nat.add_assoc, if_pos, beq_self_eq_true]
    rw [← hg, hpk]
    rfl
  · have sg := Step.grow s1.die g
    have e1 : (st1 ++ g)[st1.length + 1]? = some (.lst xs) := by rw [stA, hg]; rfl
    have hpl : ∀ z ∈ [D.tup (A ++ odd :: B), .tup (A ++ B), .tup (C ++ F), .tup xs.reverse, .loc (st1.length + 1), .tup (xs ++ [odd]), .tup (odd :: xs), odd], Pl n (st1 ++ g) z := by
      have go : ∀ z, Pl n st1 z → Pl n (st1 ++ g) z := fun z h => h.step sg
      intro z hz
      simp only [List.mem_cons, List.not_mem_nil, or_false] at hz
      rcases hz with rfl | rfl | rfl | rfl | rfl | rfl | rfl | rfl
      · refine go _ (.tup (by simp only [List.length_append, List.length_cons]; omega) fun x hx => ?_)
        rcases List.mem_append.mp hx with hx | hx
        · exact pA x hx
        · rcases List.mem_cons.mp hx with rfl | hx
          · exact hodd1
          · exact pB x hx
      · refine go _ (.tup (by simp only [List.length_append]; omega) fun x hx => ?_)
        rcases List.mem_append.mp hx with hx | hx
        · exact pA x hx
        · exact pB x hx
      · refine go _ (.tup (by simp only [List.length_append]; omega) fun x hx => ?_)
        rcases List.mem_append.mp hx with hx | hx
        · exact pC x hx
        · exact pF x hx
      · exact go _ (.tup (by simp only [List.length_reverse]; omega) fun x hx => pxs x (List.mem_reverse.mp hx))
      · exact .lst (by omega) e1
      · refine go _ (.tup (by simp only [List.length_append, List.length_cons, List.length_nil]; omega) fun x hx => ?_)
        rcases List.mem_append.mp hx with hx | hx
        · exact pxs x hx
        · rw [List.mem_singleton.mp hx]; exact hodd1
      · refine go _ (.tup (by simp only [List.length_cons]; omega) fun x hx => ?_)
        rcases List.mem_cons.mp hx with rfl | hx
        · exact hodd1
        · exact pxs x hx
      · exact go _ hodd1
    exact (hpl y hy).step s2
end K01

namespace K01
open PySem L2 L3
theorem odd_ok {rp : L3.Run} (hp : PickS rp) : OddS (runDef 2 1 (b_law_odd_one rp)) := by
  intro st n hd
  have hp1 : ∀ st : Sto, powD (.int 10) (.int 39) st = .ok (.int (10 ^ (39 : Int).toNat)) st := fun st => pow_ok (by decide +kernel)
  generalize ((10 : Int) ^ (39 : Int).toNat) = P at hp1
  have hdl := hd.lt
  obtain ⟨xs, hxs⟩ : ∃ xs : List D, xs = [.non, .int 0, .int 1, .int 7, .int 99, .int (-1), .bl true, .bl false, .str "", .str "a", .str "across", .str "down", .tup [], .tup [.int 0], .tup [.int 1, .int 0], .tup [.int 0, .int 0], .loc st.length, .loc (st.length + 1), .str "p"] := ⟨_, rfl⟩
  obtain ⟨ys, hys⟩ : ∃ ys : List D, ys = [.int P, .tup [.non], .tup [.int 0, .int 0, .str "across"], .tup [.int 0, .int 0, .str "down"], .tup [.int 2, .int 2, .int 2], .tup [.int 4, .int 2, .int 2], .tup [.str "level", .int 1], .loc (st.length + 3)] := ⟨_, rfl⟩
  obtain ⟨g, hg⟩ : ∃ g : Sto, g = [.lst [.int 0], .dK [], .lst xs, .lst [.tup [.int 0, .int 1]], .lst ys, .lst (xs ++ ys)] := ⟨_, rfl⟩
  have sg := Step.grow hd g
  have e0 : (st ++ g)[st.length]? = some (.lst [.int 0]) := by rw [stA0, hg]; rfl
  have e1 : (st ++ g)[st.length + 1]? = some (.dK []) := by rw [stA, hg]; rfl
  have e3 : (st ++ g)[st.length + 3]? = some (.lst [.tup [.int 0, .int 1]]) := by rw [stA, hg]; rfl
  have pxs : ∀ x ∈ xs, Pl n (st ++ g) x := by
    rw [hxs]
    repeat first
      | exact pl_nil
      | exact .non
      | exact .int _
      | exact .bl _
      | exact Pl.strD (by decide +kernel)
      | exact .lst (by omega) e0
      | exact .dK (by omega) e1
      | refine pl_cons ?_ ?_
      | refine Pl.tupD ?_ rfl
  have pys : ∀ x ∈ ys, Pl n (st ++ g) x := by
    rw [hys]
    repeat first
      | exact pl_nil
      | exact .non
      | exact .int _
      | exact Pl.strD (by decide +kernel)
      | exact .lst (by omega) e3
      | refine pl_cons ?_ ?_
      | refine Pl.tupD ?_ rfl
  have lx : xs.length = 19 := by rw [hxs]; rfl
  have ly : ys.length = 8 := by rw [hys]; rfl
  obtain ⟨y, st2, hy, hpk, hl2, s2⟩ := hp (st ++ g) n (.loc (st.length + 5)) (xs ++ ys) sg.die (by simp only [seqD, stA, hg]; rfl) (fun m e => by cases e; omega) (by rw [hxs]; simp) (by rw [List.length_append]; omega)
  refine ⟨y, st2, ?_, sg.trans s2, ?_⟩
  · simp only [runDef_eq, List.length_cons, List.length_nil, Nat.reduceAdd]
    simp (disch := first | rfl | assumption | omega | (simp only [List.length_append, List.length_cons, List.length_nil, List.length_reverse, List.length_map]; omega)) only [b_law_odd_one, runDef_eq, start3, finR, sSeq, sSet, sExpr, sRet, sRetN, sIf, sPar2, sAsg, sSetIx, sNil, RS.andThen_nx, RS.andThen_rt, RS.andThen_exn, R.toS_ok, R.toS_exn, kv, kc, k1, k2, kA0, kA1, kF, kM, kIf, kTr, kTb, tAnd3, tOr3, tNot3, kAndV, kOrV, kNotV, kChain, R.bind_ok, R.bind_exn, gN, gT, gs0, gs1, List.map_cons, List.map_nil, List.length_cons, List.length_nil, List.replicate, List.cons_append, List.nil_append, List.getElem?_cons_zero, List.getElem?_cons_succ, List.set_cons_zero, List.set_cons_succ, Nat.reduceAdd, Nat.reduceSub, if_true, if_false, Bool.false_eq_true, Bool.true_eq_false, reduceIte, Bool.not_true, Bool.not_false, Option.bind_some, decide_true, decide_false, kD0, negD, lstF, tupF, Nat.reduceLeDiff, hp1, List.append_assoc, List.length_append, Nat.add_zero, Nat.add_assoc, if_pos]
    rw [← hxs, ← hys]
    simp (disch := first | rfl | assumption | omega | (simp only [List.length_append, List.length_cons, List.length_nil, List.length_reverse, List.length_map]; omega)) only [runDef_eq, start3, finR, sSeq, sSet, sExpr, sRet, sRetN, sIf, sPar2, sAsg, sSetIx, sNil, RS.andThen_nx, RS.andThen_rt, RS.andThen_exn, R.toS_ok, R.toS_exn, kv, kc, k1, k2, kA0, kA1, kF, kM, kIf, kTr, kTb, tAnd3, tOr3, tNot3, kAndV, kOrV, kNotV, kChain, R.bind_ok, R.bind_exn, gN, gT, gs0, gs1, List.map_cons, List.map_nil, List.length_cons, List.length_nil, List.replicate, List.cons_append, List.nil_append, List.getElem?_cons_zero, List.getElem?_cons_succ, List.set_cons_zero, List.set_cons_succ, Nat.reduceAdd, Nat.reduceSub, if_true, if_false, Bool.false_eq_true, Bool.true_eq_false, reduceIte, Bool.not_true, Bool.not_false, Option.bind_some, decide_true, decide_false, addD, stA, stA0, List.append_assoc, List.length_append, Nat.add_zero, Nat.add_assoc, if_pos, lx, ly]
    rw [← hg, hpk]
    rfl
  · rcases List.mem_append.mp hy with h | h
    · exact (pxs y h).step s2
    · exact (pys y h).step s2
end K01

namespace L3
open PySem L2
theorem all_bools {n : Nat} {st : Sto} {xs : List D} {f : D → Bool} : allF [.loc st.length] (st ++ [.lst (xs.map fun d => D.bl (f d))]) = .ok (.bl (xs.all f)) (st ++ [.lst (xs.map fun d => D.bl (f d))]) := by
  have e : (st ++ [O.lst (xs.map fun d => D.bl (f d))])[st.length]? = some (.lst (xs.map fun d => D.bl (f d))) := by rw [stA0]; rfl
  have b : ∀ xs : List D, boolsO (xs.map fun d => D.bl (f d)) = some (xs.map f) := fun xs => by
    induction xs with
    | nil => rfl
    | cons x xs ih => simp only [List.map_cons, boolsO, ih, Option.bind_some]
  simp only [allF, itemsD, e, Option.bind_some, b]
  congr 2
  rw [List.all_map]
  rfl
theorem numB_whole {d : D} : (isIntD d && !isBlD d) = match d with
  | .int _ => true
  | _ => false := by cases d <;> rfl
end L3
namespace K01
open PySem L2 L3
def threeB (d : D) : Bool := match d with
  | .tup [a, b, c] => numB a 1 1000000000000000000000000000000 && (numB b 1 1000000000000000000000000000000 && numB c 2 1000000000000000000000000000000)
  | _ => false
theorem pow30 (st : Sto) : powD (.int 10) (.int 30) st = .ok (.int 1000000000000000000000000000000) st := by
  rw [pow_ok (by decide +kernel)]
  rfl
theorem three_ok {rn : L3.Run} (hn : NumberS rn) {st : Sto} {n : Nat} {d : D} (h : Pl n st d) : runDef 1 1 (b_law_is_three rn) [d] st = .ok (.bl (threeB d)) st := by
  simp only [b_law_is_three, runDef_eq, start3, finR, sSeq, sSet, sExpr, sRet, sRetN, sIf, sPar2, sAsg, sSetIx, sNil, RS.andThen_nx, RS.andThen_rt, RS.andThen_exn, R.toS_ok, R.toS_exn, kv, kc, k1, k2, kA0, kA1, kF, kM, kIf, kTr, kTb, tAnd3, tOr3, tNot3, kAndV, kOrV, kNotV, kChain, R.bind_ok, R.bind_exn, gN, gT, gs0, gs1, List.map_cons, List.map_nil, List.length_cons, List.length_nil, List.replicate, List.cons_append, List.nil_append, List.getElem?_cons_zero, List.getElem?_cons_succ, List.set_cons_zero, List.set_cons_succ, Nat.reduceAdd, Nat.reduceSub, if_true, if_false, Bool.false_eq_true, Bool.true_eq_false, reduceIte, Bool.not_true, Bool.not_false, Option.bind_some, decide_true, decide_false, is_tup h, truD]
  cases h with
  | @tup xs hl hx =>
    simp only [isTupD, runDef_eq, start3, finR, sSeq, sSet, sExpr, sRet, sRetN, sIf, sPar2, sAsg, sSetIx, sNil, RS.andThen_nx, RS.andThen_rt, RS.andThen_exn, R.toS_ok, R.toS_exn, kv, kc, k1, k2, kA0, kA1, kF, kM, kIf, kTr, kTb, tAnd3, tOr3, tNot3, kAndV, kOrV, kNotV, kChain, R.bind_ok, R.bind_exn, gN, gT, gs0, gs1, List.map_cons, List.map_nil, List.length_cons, List.length_nil, List.replicate, List.cons_append, List.nil_append, List.getElem?_cons_zero, List.getElem?_cons_succ, List.set_cons_zero, List.set_cons_succ, Nat.reduceAdd, Nat.reduceSub, if_true, if_false, Bool.false_eq_true, Bool.true_eq_false, reduceIte, Bool.not_true, Bool.not_false, Option.bind_some, decide_true, decide_false, lenF, neD, pd]
    by_cases h3 : xs.length = 3
    · obtain ⟨a, b, c, rfl⟩ : ∃ a b c, xs = [a, b, c] := by
        match xs, h3 with
        | [a, b, c], _ => exact ⟨a, b, c, rfl⟩
      have pa := hx a (by simp)
      have pb := hx b (by simp)
      have pc := hx c (by simp)
      have i0 : ixD (.tup [a, b, c]) (.int 0) st = .ok a st := ixD_tup atI_zero
      have i1 : ixD (.tup [a, b, c]) (.int 1) st = .ok b st := ixD_tup atI_one
      have i2 : ixD (.tup [a, b, c]) (.int 2) st = .ok c st := ixD_tup atI_two
      rw [if_pos ⟨rfl, rfl⟩]
      have e : (!PyData.eqv (.int (([a, b, c] : List D).length : Int)) (.int 3)) = false := rfl
      rw [e]
      simp only [runDef_eq, start3, finR, sSeq, sSet, sExpr, sRet, sRetN, sIf, sPar2, sAsg, sSetIx, sNil, RS.andThen_nx, RS.andThen_rt, RS.andThen_exn, R.toS_ok, R.toS_exn, kv, kc, k1, k2, kA0, kA1, kF, kM, kIf, kTr, kTb, tAnd3, tOr3, tNot3, kAndV, kOrV, kNotV, kChain, R.bind_ok, R.bind_exn, gN, gT, gs0, gs1, List.map_cons, List.map_nil, List.length_cons, List.length_nil, List.replicate, List.cons_append, List.nil_append, List.getElem?_cons_zero, List.getElem?_cons_succ, List.set_cons_zero, List.set_cons_succ, Nat.reduceAdd, Nat.reduceSub, if_true, if_false, Bool.false_eq_true, Bool.true_eq_false, reduceIte, Bool.not_true, Bool.not_false, Option.bind_some, decide_true, decide_false, truD, i0, i1, i2, pow30, hn st n _ _ _ pa, hn st n _ _ _ pb, hn st n _ _ _ pc, threeB]
      cases ha : numB a 1 1000000000000000000000000000000 <;> cases hb : numB b 1 1000000000000000000000000000000 <;>
        simp only [runDef_eq, start3, finR, sSeq, sSet, sExpr, sRet, sRetN, sIf, sPar2, sAsg, sSetIx, sNil, RS.andThen_nx, RS.andThen_rt, RS.andThen_exn, R.toS_ok, R.toS_exn, kv, kc, k1, k2, kA0, kA1, kF, kM, kIf, kTr, kTb, tAnd3, tOr3, tNot3, kAndV, kOrV, kNotV, kChain, R.bind_ok, R.bind_exn, gN, gT, gs0, gs1, List.map_cons, List.map_nil, List.length_cons, List.length_nil, List.replicate, List.cons_append, List.nil_append, List.getElem?_cons_zero, List.getElem?_cons_succ, List.set_cons_zero, List.set_cons_succ, Nat.reduceAdd, Nat.reduceSub, if_true, if_false, Bool.false_eq_true, Bool.true_eq_false, reduceIte, Bool.not_true, Bool.not_false, Option.bind_some, decide_true, decide_false, truD, i0, i1, i2, pow30, hn st n _ _ _ pa, hn st n _ _ _ pb, hn st n _ _ _ pc, threeB, ha, hb, Bool.true_and, Bool.false_and]
    · rw [if_pos ⟨rfl, rfl⟩]
      have e : (!PyData.eqv (.int (xs.length : Int)) (.int 3)) = true := by
        simp only [PyData.eqv]
        simp; omega
      rw [e]
      have e2 : threeB (.tup xs) = false := by
        unfold threeB
        split
        · rename_i h; cases h; exact absurd rfl h3
        · rfl
      simp only [runDef_eq, start3, finR, sSeq, sSet, sExpr, sRet, sRetN, sIf, sPar2, sAsg, sSetIx, sNil, RS.andThen_nx, RS.andThen_rt, RS.andThen_exn, R.toS_ok, R.toS_exn, kv, kc, k1, k2, kA0, kA1, kF, kM, kIf, kTr, kTb, tAnd3, tOr3, tNot3, kAndV, kOrV, kNotV, kChain, R.bind_ok, R.bind_exn, gN, gT, gs0, gs1, List.map_cons, List.map_nil, List.length_cons, List.length_nil, List.replicate, List.cons_append, List.nil_append, List.getElem?_cons_zero, List.getElem?_cons_succ, List.set_cons_zero, List.set_cons_succ, Nat.reduceAdd, Nat.reduceSub, if_true, if_false, Bool.false_eq_true, Bool.true_eq_false, reduceIte, Bool.not_true, Bool.not_false, Option.bind_some, decide_true, decide_false, truD, e2]
  | _ => rfl
theorem whole_ok {st : Sto} {n : Nat} {d : D} (h : Pl n st d) : runDef 1 1 b_is_whole [d] st = .ok (.bl (isIntD d && !isBlD d)) st := by
  simp only [b_is_whole, runDef_eq, start3, finR, sSeq, sSet, sExpr, sRet, sRetN, sIf, sPar2, sAsg, sSetIx, sNil, RS.andThen_nx, RS.andThen_rt, RS.andThen_exn, R.toS_ok, R.toS_exn, kv, kc, k1, k2, kA0, kA1, kF, kM, kIf, kTr, kTb, tAnd3, tOr3, tNot3, kAndV, kOrV, kNotV, kChain, R.bind_ok, R.bind_exn, gN, gT, gs0, gs1, List.map_cons, List.map_nil, List.length_cons, List.length_nil, List.replicate, List.cons_append, List.nil_append, List.getElem?_cons_zero, List.getElem?_cons_succ, List.set_cons_zero, List.set_cons_succ, Nat.reduceAdd, Nat.reduceSub, if_true, if_false, Bool.false_eq_true, Bool.true_eq_false, reduceIte, Bool.not_true, Bool.not_false, Option.bind_some, decide_true, decide_false, is_int h, is_bool h, truD]
  cases isIntD d <;> rfl
theorem wide3 {st : Sto} {a : D} {hi lo : Int} (h : (isIntD a && !isBlD a) = true) (hlo : lo = 1 ∨ lo = 2) : ∃ i, a = .int i := by
  cases a with
  | int i => exact ⟨i, rfl⟩
  | _ => cases h
theorem not3 {xs : List D} (h3 : xs.length ≠ 3) : threeB (.tup xs) = false := by
  unfold threeB
  split
  · rename_i h; cases h; exact absurd rfl h3
  · rfl
theorem ne3 {xs : List D} {st : Sto} (h3 : xs.length ≠ 3) : neD (.int (xs.length : Int)) (.int 3) st = .ok (.bl true) st := by
  simp only [neD, pd]
  rw [if_pos ⟨rfl, rfl⟩]
  have e : (!PyData.eqv (.int (xs.length : Int)) (.int 3)) = true := by
    simp only [PyData.eqv]
    simp; omega
  rw [e]
theorem size_ok {rw' : L3.Run} (hw : ∀ {st : Sto} {n : Nat} {d : D}, Pl n st d → rw' [d] st = .ok (.bl (isIntD d && !isBlD d)) st) {st : Sto} {n : Nat} {d : D} (hd : DieAt n st) (h : Pl n st d) : ∃ st', runDef 5 1 (b_is_size rw') [d] st = .ok (.bl (threeB d)) st' ∧ Step n st st' := by
  have ht := is_tup h
  cases h with
  | @tup xs hl hx =>
    by_cases h3 : xs.length = 3
    · obtain ⟨a, b, c, rfl⟩ : ∃ a b c, xs = [a, b, c] := by
        match xs, h3 with
        | [a, b, c], _ => exact ⟨a, b, c, rfl⟩
      have e : ∀ st, neD (.int (0 + 1 + 1 + 1 : Nat)) (.int 3) st = .ok (.bl false) st := fun _ => rfl
      have al := all_bools (st := st) (n := n) (xs := [a, b, c]) (f := fun d => isIntD d && !isBlD d)
      obtain ⟨L, hL⟩ : ∃ L, kLc [4] (gN 4) (iT (kv 0)) kTrue (kF rw' (kA1 (kv 4) kA0)) = L := ⟨_, rfl⟩
      have lc : L [some (.tup [a, b, c]), none, none, none, none] st = .ok (.loc st.length) (st ++ [.lst ([a, b, c].map fun d => D.bl (isIntD d && !isBlD d))]) := by
        rw [← hL, lc_pure (xs := [a, b, c]) (fun _ => true) (fun d => .bl (isIntD d && !isBlD d)) rfl (by simp) fun d hd => ⟨[some (.tup [a, b, c]), none, none, none, some d], rfl, rfl, fun _ => by simp only [runDef_eq, start3, finR, sSeq, sSet, sExpr, sRet, sRetN, sIf, sPar2, sAsg, sSetIx, sNil, RS.andThen_nx, RS.andThen_rt, RS.andThen_exn, R.toS_ok, R.toS_exn, kv, kc, k1, k2, kA0, kA1, kF, kM, kIf, kTr, kTb, tAnd3, tOr3, tNot3, kAndV, kOrV, kNotV, kChain, R.bind_ok, R.bind_exn, gN, gT, gs0, gs1, List.map_cons, List.map_nil, List.length_cons, List.length_nil, List.replicate, List.cons_append, List.nil_append, List.getElem?_cons_zero, List.getElem?_cons_succ, List.set_cons_zero, List.set_cons_succ, Nat.reduceAdd, Nat.reduceSub, if_true, if_false, Bool.false_eq_true, Bool.true_eq_false, reduceIte, Bool.not_true, Bool.not_false, Option.bind_some, decide_true, decide_false, hw (hx d hd)]⟩]
        rfl
      obtain ⟨g, hg⟩ : ∃ g, [O.lst ([a, b, c].map fun d => D.bl (isIntD d && !isBlD d))] = g := ⟨_, rfl⟩
      rw [hg] at lc al
      refine ⟨st ++ g, ?_, Step.grow hd _⟩
      unfold b_is_size
      rw [hL]
      cases ha : [a, b, c].all fun d => isIntD d && !isBlD d with
      | false =>
        rw [ha] at al
        have et : threeB (.tup [a, b, c]) = false := by
          cases a <;> first | rfl | (cases b <;> first | (simp [threeB, numB]; done) | (cases c <;> first | (simp [threeB, numB]; done) | (simp [isIntD, isBlD] at ha)))
        simp only [runDef_eq, start3, finR, sSeq, sSet, sExpr, sRet, sRetN, sIf, sPar2, sAsg, sSetIx, sNil, RS.andThen_nx, RS.andThen_rt, RS.andThen_exn, R.toS_ok, R.toS_exn, kv, kc, k1, k2, kA0, kA1, kF, kM, kIf, kTr, kTb, tAnd3, tOr3, tNot3, kAndV, kOrV, kNotV, kChain, R.bind_ok, R.bind_exn, gN, gT, gs0, gs1, List.map_cons, List.map_nil, List.length_cons, List.length_nil, List.replicate, List.cons_append, List.nil_append, List.getElem?_cons_zero, List.getElem?_cons_succ, List.set_cons_zero, List.set_cons_succ, Nat.reduceAdd, Nat.reduceSub, if_true, if_false, Bool.false_eq_true, Bool.true_eq_false, reduceIte, Bool.not_true, Bool.not_false, Option.bind_some, decide_true, decide_false, ht, isTupD, lenF, truD, e, lc, al, et]
      | true =>
        rw [ha] at al
        simp only [List.all_cons, List.all_nil, Bool.and_true, Bool.and_eq_true] at ha
        obtain ⟨a, rfl⟩ := wide3 (st := st) (hi := 0) (lo := 1) (a := a) (by simpa using ha.1) (.inl rfl)
        obtain ⟨b, rfl⟩ := wide3 (st := st) (hi := 0) (lo := 1) (a := b) (by simpa using ha.2.1) (.inl rfl)
        obtain ⟨c, rfl⟩ := wide3 (st := st) (hi := 0) (lo := 1) (a := c) (by simpa using ha.2.2) (.inl rfl)
        simp only [runDef_eq, start3, finR, sSeq, sSet, sExpr, sRet, sRetN, sIf, sPar2, sAsg, sSetIx, sNil, RS.andThen_nx, RS.andThen_rt, RS.andThen_exn, R.toS_ok, R.toS_exn, kv, kc, k1, k2, kA0, kA1, kF, kM, kIf, kTr, kTb, tAnd3, tOr3, tNot3, kAndV, kOrV, kNotV, kChain, R.bind_ok, R.bind_exn, gN, gT, gs0, gs1, List.map_cons, List.map_nil, List.length_cons, List.length_nil, List.replicate, List.cons_append, List.nil_append, List.getElem?_cons_zero, List.getElem?_cons_succ, List.set_cons_zero, List.set_cons_succ, Nat.reduceAdd, Nat.reduceSub, if_true, if_false, Bool.false_eq_true, Bool.true_eq_false, reduceIte, Bool.not_true, Bool.not_false, Option.bind_some, decide_true, decide_false, ht, isTupD, lenF, truD, e, lc, al, threeB, numB, cmpD, leD, gT, gs0, gs1]
        cases h1 : decide ((1 : Int) ≤ a) <;> cases h2 : decide (a ≤ 1000000000000000000000000000000) <;> cases h4 : decide ((1 : Int) ≤ b) <;> cases h5 : decide (b ≤ 1000000000000000000000000000000) <;> cases h6 : decide ((2 : Int) ≤ c) <;> cases h7 : decide (c ≤ 1000000000000000000000000000000) <;> simp only [runDef_eq, start3, finR, sSeq, sSet, sExpr, sRet, sRetN, sIf, sPar2, sAsg, sSetIx, sNil, RS.andThen_nx, RS.andThen_rt, RS.andThen_exn, R.toS_ok, R.toS_exn, kv, kc, k1, k2, kA0, kA1, kF, kM, kIf, kTr, kTb, tAnd3, tOr3, tNot3, kAndV, kOrV, kNotV, kChain, R.bind_ok, R.bind_exn, gN, gT, gs0, gs1, List.map_cons, List.map_nil, List.length_cons, List.length_nil, List.replicate, List.cons_append, List.nil_append, List.getElem?_cons_zero, List.getElem?_cons_succ, List.set_cons_zero, List.set_cons_succ, Nat.reduceAdd, Nat.reduceSub, if_true, if_false, Bool.false_eq_true, Bool.true_eq_false, reduceIte, Bool.not_true, Bool.not_false, Option.bind_some, decide_true, decide_false, cmpD, leD, h1, h2, h4, h5, h6, h7, truD, Bool.and_true, Bool.and_false, Bool.true_and, Bool.false_and]
    · exact ⟨st, by simp only [b_is_size, runDef_eq, start3, finR, sSeq, sSet, sExpr, sRet, sRetN, sIf, sPar2, sAsg, sSetIx, sNil, RS.andThen_nx, RS.andThen_rt, RS.andThen_exn, R.toS_ok, R.toS_exn, kv, kc, k1, k2, kA0, kA1, kF, kM, kIf, kTr, kTb, tAnd3, tOr3, tNot3, kAndV, kOrV, kNotV, kChain, R.bind_ok, R.bind_exn, gN, gT, gs0, gs1, List.map_cons, List.map_nil, List.length_cons, List.length_nil, List.replicate, List.cons_append, List.nil_append, List.getElem?_cons_zero, List.getElem?_cons_succ, List.set_cons_zero, List.set_cons_succ, Nat.reduceAdd, Nat.reduceSub, if_true, if_false, Bool.false_eq_true, Bool.true_eq_false, reduceIte, Bool.not_true, Bool.not_false, Option.bind_some, decide_true, decide_false, ht, isTupD, lenF, truD, ne3 h3, not3 h3], .refl hd⟩
  | _ => exact ⟨st, by simp only [b_is_size, runDef_eq, start3, finR, sSeq, sSet, sExpr, sRet, sRetN, sIf, sPar2, sAsg, sSetIx, sNil, RS.andThen_nx, RS.andThen_rt, RS.andThen_exn, R.toS_ok, R.toS_exn, kv, kc, k1, k2, kA0, kA1, kF, kM, kIf, kTr, kTb, tAnd3, tOr3, tNot3, kAndV, kOrV, kNotV, kChain, R.bind_ok, R.bind_exn, gN, gT, gs0, gs1, List.map_cons, List.map_nil, List.length_cons, List.length_nil, List.replicate, List.cons_append, List.nil_append, List.getElem?_cons_zero, List.getElem?_cons_succ, List.set_cons_zero, List.set_cons_succ, Nat.reduceAdd, Nat.reduceSub, if_true, if_false, Bool.false_eq_true, Bool.true_eq_false, reduceIte, Bool.not_true, Bool.not_false, Option.bind_some, decide_true, decide_false, ht, isTupD, truD, threeB], .refl hd⟩
end K01

namespace L3
open PySem L2
theorem strG_len {x : Str} (h : strG x = true) : x.length ≤ 1000 := by unfold strG at h; rw [Bool.and_eq_true] at h; exact of_decide_eq_true h.1
theorem strG_sign {x : Str} (h : strG x = true) : ∀ c ∈ x.cps.toList, c < 0x110000 := by
  unfold strG at h
  rw [Bool.and_eq_true] at h
  intro c hc
  have h2 := h.2
  rw [Array.all_eq_true'] at h2
  simpa using h2 c (by simpa using hc)
theorem strIts_mem {x : Str} {d : D} (h : d ∈ strIts x) : ∃ c ∈ x.cps.toList, d = .str ⟨#[c]⟩ := by
  unfold strIts at h
  obtain ⟨c, hc, rfl⟩ := List.mem_map.mp h
  exact ⟨c, hc, rfl⟩
theorem strIts_len {x : Str} : (strIts x).length = x.length := by unfold strIts; simp [Str.length]
theorem canLay_strs : ∀ ss : List Str, (∀ s ∈ ss, ∀ c ∈ s.cps.toList, c < 0x110000) → PyData.canLayAll0 (ss.map PyData.str) = true
  | [], _ => by simp [PyData.canLayAll0]
  | s :: ss, h => by
    have h1 := canLay_strs ss fun s hs => h s (List.mem_cons_of_mem _ hs)
    have h2 : PyData.strOk s = true := by
      unfold PyData.strOk
      rw [Array.all_eq_true']
      intro c hc
      exact decide_eq_true (h s (List.mem_cons_self ..) c (by simpa using hc))
    simp [PyData.canLayAll0, PyData.canLay0, h1, h2]
theorem depth_strs : ∀ ss : List Str, PyData.depthAll (ss.map PyData.str) ≤ 1
  | [] => by simp [PyData.depthAll]
  | i :: is => by
    have := depth_strs is
    simp only [List.map_cons, PyData.depthAll, PyData.depth]
    omega
theorem shaped_strs {ss : List Str} (h : ∀ s ∈ ss, ∀ c ∈ s.cps.toList, c < 0x110000) : SeqAt.shaped (.list (ss.map PyData.str)) = true := by
  have h1 := depth_strs ss
  have h2 : PyData.depth (.list (ss.map PyData.str)) ≤ 64 := by
    simp only [PyData.depth]
    omega
  show (PyData.canLay0 (.list (ss.map PyData.str)) && decide (PyData.depth (.list (ss.map PyData.str)) ≤ 64)) = true
  rw [Bool.and_eq_true]
  exact ⟨by simp only [PyData.canLay0]; exact canLay_strs ss h, decide_eq_true h2⟩
theorem pd_strs (st : Sto) (n : Nat) : ∀ ss : List Str, allO ((ss.map D.str).map (pd st n)) = some (ss.map PyData.str)
  | [] => rfl
  | i :: is => by
    show (pd st n (.str i)).bind (fun a => (allO ((is.map D.str).map (pd st n))).bind fun l => some (a :: l)) = _
    rw [pd_strs st n is]
    cases n <;> rfl
theorem sign_lt {c d : Nat} : ([c] < [d]) ↔ c < d := by simp [List.cons_lt_cons_iff]
def azB (c : Nat) : Bool := decide (97 ≤ c) && decide (c ≤ 122)
theorem az_mem {c : Nat} : decide (c ∈ (Str.ofString "abcdefghijklmnopqrstuvwxyz").cps.toList) = azB c := by
  have e : (Str.ofString "abcdefghijklmnopqrstuvwxyz").cps.toList = [97, 98, 99, 100, 101, 102, 103, 104, 105, 106, 107, 108, 109, 110, 111, 112, 113, 114, 115, 116, 117, 118, 119, 120, 121, 122] := by decide +kernel
  rw [e]
  by_cases h : c < 128
  · exact (by decide +kernel : ∀ c, c < 128 → decide (c ∈ [97, 98, 99, 100, 101, 102, 103, 104, 105, 106, 107, 108, 109, 110, 111, 112, 113, 114, 115, 116, 117, 118, 119, 120, 121, 122]) = azB c) c h
  · have e2 : azB c = false := by
      unfold azB
      rw [decide_eq_false (p := c ≤ 122) (by omega), Bool.and_false]
    rw [e2, decide_eq_false_iff_not]
    simp only [List.mem_cons, List.not_mem_nil, or_false]
    omega
end L3
namespace K01
open PySem L2 L3
def wordB (d : D) : Bool := match d with
  | .str x => decide (1 ≤ (x.length : Int)) && (decide ((x.length : Int) ≤ 8) && x.cps.toList.all azB)
  | _ => false
theorem name_ok {st : Sto} {n : Nat} {d : D} (hd : DieAt n st) (h : Pl n st d) : ∃ st', runDef 2 1 b_is_name [d] st = .ok (.bl (wordB d)) st' ∧ Step n st st' := by
  have ht := is_str h
  cases h with
  | str x hx =>
    have hl := strG_len hx
    have hll : x.length ≤ 16777216 := by omega
    obtain ⟨L, hL⟩ : ∃ L, kLc [1] (gN 1) (iS (kv 0)) kTrue (k2 (inD false) (kv 1) (kc (.str "abcdefghijklmnopqrstuvwxyz"))) = L := ⟨_, rfl⟩
    let f : D → Bool := fun d => match d with
      | .str s => (false != !(Builtin.Str.occurrences (Str.ofString "abcdefghijklmnopqrstuvwxyz") s 0 (Str.ofString "abcdefghijklmnopqrstuvwxyz").length 1).isEmpty)
      | _ => false
    have lc : L [some (.str x), none] st = .ok (.loc st.length) (st ++ [.lst ((strIts x).map fun d => D.bl (f d))]) := by
      rw [← hL, lc_pure (xs := strIts x) (fun _ => true) (fun d => .bl (f d)) (by simp only [iS, kv, R.bind_ok, hll, List.getElem?_cons_zero, if_true]) (by rw [strIts_len]; omega) fun d hd => by
        obtain ⟨c, _, rfl⟩ := strIts_mem hd
        exact ⟨[some (.str x), some (.str ⟨#[c]⟩)], rfl, rfl, fun _ => by simp only [runDef_eq, start3, finR, sSeq, sSet, sExpr, sRet, sRetN, sIf, sPar2, sAsg, sSetIx, sNil, RS.andThen_nx, RS.andThen_rt, RS.andThen_exn, R.toS_ok, R.toS_exn, kv, kc, k1, k2, kA0, kA1, kF, kM, kIf, kTr, kTb, tAnd3, tOr3, tNot3, kAndV, kOrV, kNotV, kChain, R.bind_ok, R.bind_exn, gN, gT, gs0, gs1, List.map_cons, List.map_nil, List.length_cons, List.length_nil, List.replicate, List.cons_append, List.nil_append, List.getElem?_cons_zero, List.getElem?_cons_succ, List.set_cons_zero, List.set_cons_succ, Nat.reduceAdd, Nat.reduceSub, if_true, if_false, Bool.false_eq_true, Bool.true_eq_false, reduceIte, Bool.not_true, Bool.not_false, Option.bind_some, decide_true, decide_false, inD]; rfl⟩]
      rw [List.filter_eq_self.mpr fun _ _ => rfl]
    have al := all_bools (st := st) (n := n) (xs := strIts x) (f := f)
    have hf : (strIts x).all f = x.cps.toList.all azB := by
      unfold strIts
      rw [List.all_map]
      congr 1
      funext c
      show (false != !(Builtin.Str.occurrences _ _ 0 _ 1).isEmpty) = _
      rw [PySem.StrLaws.found_one, az_mem]
      cases azB c <;> rfl
    rw [hf] at al
    obtain ⟨g, hg⟩ : ∃ g, [O.lst ((strIts x).map fun d => D.bl (f d))] = g := ⟨_, rfl⟩
    rw [hg] at lc al
    unfold b_is_name
    rw [hL]
    cases h1 : decide ((1 : Int) ≤ (x.length : Int)) <;> cases h2 : decide ((x.length : Int) ≤ 8)
    case true.true => exact ⟨st ++ g, by simp only [runDef_eq, start3, finR, sSeq, sSet, sExpr, sRet, sRetN, sIf, sPar2, sAsg, sSetIx, sNil, RS.andThen_nx, RS.andThen_rt, RS.andThen_exn, R.toS_ok, R.toS_exn, kv, kc, k1, k2, kA0, kA1, kF, kM, kIf, kTr, kTb, tAnd3, tOr3, tNot3, kAndV, kOrV, kNotV, kChain, R.bind_ok, R.bind_exn, gN, gT, gs0, gs1, List.map_cons, List.map_nil, List.length_cons, List.length_nil, List.replicate, List.cons_append, List.nil_append, List.getElem?_cons_zero, List.getElem?_cons_succ, List.set_cons_zero, List.set_cons_succ, Nat.reduceAdd, Nat.reduceSub, if_true, if_false, Bool.false_eq_true, Bool.true_eq_false, reduceIte, Bool.not_true, Bool.not_false, Option.bind_some, decide_true, decide_false, ht, isStrD, lenF, hll, cmpD, leD, truD, h1, h2, lc, al, wordB, Bool.true_and], Step.grow hd _⟩
    all_goals exact ⟨st, by simp only [runDef_eq, start3, finR, sSeq, sSet, sExpr, sRet, sRetN, sIf, sPar2, sAsg, sSetIx, sNil, RS.andThen_nx, RS.andThen_rt, RS.andThen_exn, R.toS_ok, R.toS_exn, kv, kc, k1, k2, kA0, kA1, kF, kM, kIf, kTr, kTb, tAnd3, tOr3, tNot3, kAndV, kOrV, kNotV, kChain, R.bind_ok, R.bind_exn, gN, gT, gs0, gs1, List.map_cons, List.map_nil, List.length_cons, List.length_nil, List.replicate, List.cons_append, List.nil_append, List.getElem?_cons_zero, List.getElem?_cons_succ, List.set_cons_zero, List.set_cons_succ, Nat.reduceAdd, Nat.reduceSub, if_true, if_false, Bool.false_eq_true, Bool.true_eq_false, reduceIte, Bool.not_true, Bool.not_false, Option.bind_some, decide_true, decide_false, ht, isStrD, lenF, hll, cmpD, leD, truD, h1, h2, wordB, Bool.true_and, Bool.false_and, Bool.and_false], .refl hd⟩
  | _ => exact ⟨st, by simp only [b_is_name, runDef_eq, start3, finR, sSeq, sSet, sExpr, sRet, sRetN, sIf, sPar2, sAsg, sSetIx, sNil, RS.andThen_nx, RS.andThen_rt, RS.andThen_exn, R.toS_ok, R.toS_exn, kv, kc, k1, k2, kA0, kA1, kF, kM, kIf, kTr, kTb, tAnd3, tOr3, tNot3, kAndV, kOrV, kNotV, kChain, R.bind_ok, R.bind_exn, gN, gT, gs0, gs1, List.map_cons, List.map_nil, List.length_cons, List.length_nil, List.replicate, List.cons_append, List.nil_append, List.getElem?_cons_zero, List.getElem?_cons_succ, List.set_cons_zero, List.set_cons_succ, Nat.reduceAdd, Nat.reduceSub, if_true, if_false, Bool.false_eq_true, Bool.true_eq_false, reduceIte, Bool.not_true, Bool.not_false, Option.bind_some, decide_true, decide_false, ht, isStrD, truD, wordB], .refl hd⟩
theorem word_ok {st : Sto} {n : Nat} {d : D} (hd : DieAt n st) (h : Pl n st d) : ∃ st', runDef 2 1 b_law_is_word [d] st = .ok (.bl (wordB d)) st' ∧ Step n st st' := by
  have ht := is_str h
  cases h with
  | str x hx =>
    have hl := strG_len hx
    have hll : x.length ≤ 16777216 := by omega
    obtain ⟨L, hL⟩ : ∃ L, kLc [1] (gN 1) (iS (kv 0)) (tNot3 (kTb (kChain leD leD (kc (.str "a")) (kv 1) (kc (.str "z"))))) (kv 1) = L := ⟨_, rfl⟩
    let p : D → Bool := fun d => match d with
      | .str ⟨#[c]⟩ => !azB c
      | _ => false
    have ea : (Str.ofString "a").cps.toList = [97] := by decide +kernel
    have ez : (Str.ofString "z").cps.toList = [122] := by decide +kernel
    have lc : L [some (.str x), none] st = .ok (.loc st.length) (st ++ [.lst (((strIts x).filter p).map id)]) := by
      rw [← hL, lc_pure (xs := strIts x) p id (by simp only [iS, kv, R.bind_ok, hll, List.getElem?_cons_zero, if_true]) (by rw [strIts_len]; omega) fun d hd => by
        obtain ⟨c, _, rfl⟩ := strIts_mem hd
        refine ⟨[some (.str x), some (.str ⟨#[c]⟩)], rfl, ?_, fun _ => by simp only [runDef_eq, start3, finR, sSeq, sSet, sExpr, sRet, sRetN, sIf, sPar2, sAsg, sSetIx, sNil, RS.andThen_nx, RS.andThen_rt, RS.andThen_exn, R.toS_ok, R.toS_exn, kv, kc, k1, k2, kA0, kA1, kF, kM, kIf, kTr, kTb, tAnd3, tOr3, tNot3, kAndV, kOrV, kNotV, kChain, R.bind_ok, R.bind_exn, gN, gT, gs0, gs1, List.map_cons, List.map_nil, List.length_cons, List.length_nil, List.replicate, List.cons_append, List.nil_append, List.getElem?_cons_zero, List.getElem?_cons_succ, List.set_cons_zero, List.set_cons_succ, Nat.reduceAdd, Nat.reduceSub, if_true, if_false, Bool.false_eq_true, Bool.true_eq_false, reduceIte, Bool.not_true, Bool.not_false, Option.bind_some, decide_true, decide_false]; rfl⟩
        have e1 : (!decide ([c] < [97])) = decide (97 ≤ c) := by rw [Bool.eq_iff_iff]; simp [sign_lt]
        have e2 : (!decide ([122] < [c])) = decide (c ≤ 122) := by rw [Bool.eq_iff_iff]; simp [sign_lt]
        have e3 : p (.str ⟨#[c]⟩) = !azB c := rfl
        rw [e3]
        cases h1 : decide (97 ≤ c) <;> cases h2 : decide (c ≤ 122) <;> simp only [runDef_eq, start3, finR, sSeq, sSet, sExpr, sRet, sRetN, sIf, sPar2, sAsg, sSetIx, sNil, RS.andThen_nx, RS.andThen_rt, RS.andThen_exn, R.toS_ok, R.toS_exn, kv, kc, k1, k2, kA0, kA1, kF, kM, kIf, kTr, kTb, tAnd3, tOr3, tNot3, kAndV, kOrV, kNotV, kChain, R.bind_ok, R.bind_exn, gN, gT, gs0, gs1, List.map_cons, List.map_nil, List.length_cons, List.length_nil, List.replicate, List.cons_append, List.nil_append, List.getElem?_cons_zero, List.getElem?_cons_succ, List.set_cons_zero, List.set_cons_succ, Nat.reduceAdd, Nat.reduceSub, if_true, if_false, Bool.false_eq_true, Bool.true_eq_false, reduceIte, Bool.not_true, Bool.not_false, Option.bind_some, decide_true, decide_false, cmpD, leD, truD, ea, ez, List.toList_toArray, e1, e2, h1, h2, azB, Bool.true_and, Bool.false_and]]
    obtain ⟨ys, hys⟩ : ∃ ys, ((x.cps.toList.filter fun c => !azB c).map fun c => (⟨#[c]⟩ : Str)) = ys := ⟨_, rfl⟩
    have hf : ((strIts x).filter p).map id = ys.map D.str := by
      rw [List.map_id, ← hys]
      unfold strIts
      rw [List.filter_map, List.map_map]
      rfl
    rw [hf] at lc
    have hem : ys.isEmpty = x.cps.toList.all azB := by
      cases ha : x.cps.toList.all azB with
      | true =>
        have : x.cps.toList.filter (fun c => !azB c) = [] := List.filter_eq_nil_iff.mpr fun c hc => by rw [List.all_eq_true.mp ha c hc]; decide
        rw [← hys, this]
        rfl
      | false =>
        cases ys with
        | cons _ _ => rfl
        | nil =>
          have h0 : x.cps.toList.filter (fun c => !azB c) = [] := List.map_eq_nil_iff.mp hys
          have h1 : x.cps.toList.all azB = true := List.all_eq_true.mpr fun c hc => by
            have := List.filter_eq_nil_iff.mp h0 c hc
            simpa using this
          rw [h1] at ha; cases ha
    obtain ⟨g, hg⟩ : ∃ g, [O.lst (ys.map D.str), .lst []] = g := ⟨_, rfl⟩
    have eq : eqD (.loc st.length) (.loc (st.length + 1)) (st ++ g) = .ok (.bl (x.cps.toList.all azB)) (st ++ g) := by
      have e1 : pd (st ++ g) 40 (.loc st.length) = some (.list (ys.map PyData.str)) := by
        unfold pd
        rw [stA0, ← hg]
        show (allO ((ys.map D.str).map (pd _ 39))).bind _ = _
        rw [pd_strs]; rfl
      have e2 : pd (st ++ g) 40 (.loc (st.length + 1)) = some (.list []) := by
        unfold pd
        rw [stA, ← hg]
        rfl
      have hsh : SeqAt.shaped (.list (ys.map PyData.str)) = true := shaped_strs fun s hs c hc => by
        rw [← hys] at hs
        obtain ⟨c', h1, rfl⟩ := List.mem_map.mp hs
        have h2 : c = c' := by simpa using hc
        subst h2
        exact strG_sign hx c ((List.mem_filter.mp h1).1)
      simp only [eqD, e1, e2]
      rw [if_pos ⟨hsh, by decide⟩, ← hem]
      cases ys with
      | nil => simp [PyData.eqv, PyData.eqvAll]
      | cons i is => simp [PyData.eqv, PyData.eqvAll]
    unfold b_law_is_word
    rw [hL]
    cases h1 : decide ((1 : Int) ≤ (x.length : Int)) <;> cases h2 : decide ((x.length : Int) ≤ 8)
    case true.true => exact ⟨st ++ g, by simp only [runDef_eq, start3, finR, sSeq, sSet, sExpr, sRet, sRetN, sIf, sPar2, sAsg, sSetIx, sNil, RS.andThen_nx, RS.andThen_rt, RS.andThen_exn, R.toS_ok, R.toS_exn, kv, kc, k1, k2, kA0, kA1, kF, kM, kIf, kTr, kTb, tAnd3, tOr3, tNot3, kAndV, kOrV, kNotV, kChain, R.bind_ok, R.bind_exn, gN, gT, gs0, gs1, List.map_cons, List.map_nil, List.length_cons, List.length_nil, List.replicate, List.cons_append, List.nil_append, List.getElem?_cons_zero, List.getElem?_cons_succ, List.set_cons_zero, List.set_cons_succ, Nat.reduceAdd, Nat.reduceSub, if_true, if_false, Bool.false_eq_true, Bool.true_eq_false, reduceIte, Bool.not_true, Bool.not_false, Option.bind_some, decide_true, decide_false, ht, isStrD, lenF, hll, cmpD, leD, truD, h1, h2, lc, lstF, Nat.zero_le, List.append_assoc, List.length_append, hg, eq, wordB, Bool.true_and], Step.grow hd _⟩
    all_goals exact ⟨st, by simp only [runDef_eq, start3, finR, sSeq, sSet, sExpr, sRet, sRetN, sIf, sPar2, sAsg, sSetIx, sNil, RS.andThen_nx, RS.andThen_rt, RS.andThen_exn, R.toS_ok, R.toS_exn, kv, kc, k1, k2, kA0, kA1, kF, kM, kIf, kTr, kTb, tAnd3, tOr3, tNot3, kAndV, kOrV, kNotV, kChain, R.bind_ok, R.bind_exn, gN, gT, gs0, gs1, List.map_cons, List.map_nil, List.length_cons, List.length_nil, List.replicate, List.cons_append, List.nil_append, List.getElem?_cons_zero, List.getElem?_cons_succ, List.set_cons_zero, List.set_cons_succ, Nat.reduceAdd, Nat.reduceSub, if_true, if_false, Bool.false_eq_true, Bool.true_eq_false, reduceIte, Bool.not_true, Bool.not_false, Option.bind_some, decide_true, decide_false, ht, isStrD, lenF, hll, cmpD, leD, truD, h1, h2, wordB, Bool.true_and, Bool.false_and, Bool.and_false], .refl hd⟩
  | _ => exact ⟨st, by simp only [b_law_is_word, runDef_eq, start3, finR, sSeq, sSet, sExpr, sRet, sRetN, sIf, sPar2, sAsg, sSetIx, sNil, RS.andThen_nx, RS.andThen_rt, RS.andThen_exn, R.toS_ok, R.toS_exn, kv, kc, k1, k2, kA0, kA1, kF, kM, kIf, kTr, kTb, tAnd3, tOr3, tNot3, kAndV, kOrV, kNotV, kChain, R.bind_ok, R.bind_exn, gN, gT, gs0, gs1, List.map_cons, List.map_nil, List.length_cons, List.length_nil, List.replicate, List.cons_append, List.nil_append, List.getElem?_cons_zero, List.getElem?_cons_succ, List.set_cons_zero, List.set_cons_succ, Nat.reduceAdd, Nat.reduceSub, if_true, if_false, Bool.false_eq_true, Bool.true_eq_false, reduceIte, Bool.not_true, Bool.not_false, Option.bind_some, decide_true, decide_false, ht, isStrD, truD, wordB], .refl hd⟩
end K01

namespace K01
open PySem L2 L3
def LookS (r : L3.Run) (f : D → Bool) : Prop := ∀ (st : Sto) (n : Nat) (d : D), DieAt n st → Pl n st d → ∃ st', r [d] st = .ok (.bl (f d)) st' ∧ Step n st st'
theorem ne_repr {b : Bool} {st : Sto} : neD (.str (if b then "True" else "False")) (.str (if b then "True" else "False")) st = .ok (.bl false) st := by
  have e : ∀ x : Str, PyData.eqv (.str x) (.str x) = true := fun x => by simp [PyData.eqv]
  have h1 : SeqAt.shaped (.str (Str.ofString "True")) = true := by decide +kernel
  have h2 : SeqAt.shaped (.str (Str.ofString "False")) = true := by decide +kernel
  cases b
  · simp only [neD, pd, e, Bool.false_eq_true, if_false, h2, and_self, if_true]; rfl
  · simp only [neD, pd, e, if_true, h1, and_self]; rfl
theorem words_ok {rc rp ro rn rw' : L3.Run} (hc : CastS rc) (hp : PickS rp) (ho : OddS ro) (hn : LookS rn wordB) (hw : LookS rw' wordB) {st : Sto} {n : Nat} (hd : DieAt n st) :
    ∃ st', runDef 8 1 (b_law_words_right rc rp ro rn rw') [.loc n] st = .ok (.bl true) st' ∧ Step n st st' := by
  obtain ⟨al, hal⟩ : ∃ al, Str.ofString "abcdefghijklmnopqrstuvwxyz" = al := ⟨_, rfl⟩
  have al1 : al.length = 26 := by rw [← hal]; decide +kernel
  have al2 : ∀ c ∈ al.cps.toList, c < 128 := by rw [← hal]; decide +kernel
  obtain ⟨k, st1, h0, h1, hr, hl1, s1⟩ := hc st n 10 hd (by omega) (by omega)
  -- the word
  obtain ⟨L, hL⟩ : ∃ L, kLc [7] (gN 7) (iR1 (kA1 (kF rc (kA1 (kv 0) (kA1 (kc (.int 10)) kA0))) kA0)) kTrue (kF rp (kA1 (kv 0) (kA1 (kv 1) kA0))) = L := ⟨_, rfl⟩
  have rl : (rngIts 0 k.toNat).length = k.toNat := by unfold rngIts; simp
  have lc : ∃ (ss : List Str) (st2 : Sto), L [some (.loc n), some (.str al), none, none, none, none, none, none] st = .ok (.loc st2.length) (st2 ++ [.lst (ss.map D.str)]) ∧ Step n st st2 ∧ ss.length ≤ 9 ∧ ∀ s ∈ ss, strA 1 s := by
    obtain ⟨acc, st2, q1, ⟨q2, ss, rfl, q3, q4⟩, q5⟩ := lc_inv (g := gN 7) (cnd := kTrue) (elt := kF rp (kA1 (kv 0) (kA1 (kv 1) kA0))) (src := .its (rngIts 0 k.toNat)) (ρ := [some (.loc n), some (.str al), none, none, none, none, none, none]) (xs := rngIts 0 k.toNat)
      (fun i s acc => Step n st1 s ∧ ∃ ss : List Str, acc = ss.map D.str ∧ ss.length = i ∧ ∀ s ∈ ss, strA 1 s) (fun i s acc h => rfl)
      (fun i d s acc hd ⟨q2, ss, ha, q3, q4⟩ => by
        refine ⟨[some (.loc n), some (.str al), none, none, none, none, none, some d], true, s, rfl, rfl, fun _ => ?_, fun h => nomatch h⟩
        obtain ⟨y, s2, hy, hpk, hl2, st2⟩ := hp s n (.str al) (strIts al) q2.die (by simp only [seqD, al1, Nat.reduceLeDiff, if_true]) (fun m e => nomatch e) (by intro e; have := strIts_len (x := al); rw [e, al1] at this; cases this) (by rw [strIts_len, al1]; decide)
        obtain ⟨c, hc, rfl⟩ := strIts_mem hy
        refine ⟨.str ⟨#[c]⟩, s2, by simp only [beq_self_eq_true, runDef_eq, start3, finR, sSeq, sSet, sExpr, sRet, sRetN, sIf, sPar2, sAsg, sSetIx, sNil, RS.andThen_nx, RS.andThen_rt, RS.andThen_exn, R.toS_ok, R.toS_exn, kv, kc, k1, k2, kA0, kA1, kF, kM, kIf, kTr, kTb, tAnd3, tOr3, tNot3, kAndV, kOrV, kNotV, kChain, R.bind_ok, R.bind_exn, gN, gT, gs0, gs1, List.map_cons, List.map_nil, List.length_cons, List.length_nil, List.replicate, List.cons_append, List.nil_append, List.getElem?_cons_zero, List.getElem?_cons_succ, List.set_cons_zero, List.set_cons_succ, Nat.reduceAdd, Nat.reduceSub, if_true, if_false, Bool.false_eq_true, Bool.true_eq_false, reduceIte, Bool.not_true, Bool.not_false, Option.bind_some, decide_true, decide_false, hpk], q2.trans st2, ss ++ [⟨#[c]⟩], by rw [ha, List.map_append]; rfl, by simp [q3], fun s hs => ?_⟩
        rcases List.mem_append.mp hs with hs | hs
        · exact q4 s hs
        · rw [List.mem_singleton.mp hs]; exact strA.one (al2 c hc))
      (rngIts 0 k.toNat).length 0 st1 [] ((rngIts 0 k.toNat).length + 1) (by omega) (by omega) (by omega) (by simp) (by rw [rl]; omega) ⟨.refl s1.die, [], rfl, rfl, fun s h => nomatch h⟩
    refine ⟨ss, st2, ?_, s1.trans q2, by rw [q3, rl]; omega, q4⟩
    rw [← hL]
    unfold kLc
    have e : iR1 (kA1 (kF rc (kA1 (kv 0) (kA1 (kc (.int 10)) kA0))) kA0) [some (.loc n), some (.str al), none, none, none, none, none, none] st = .ok (.its (rngIts 0 k.toNat)) st1 := by
      simp only [iR1, beq_self_eq_true, runDef_eq, start3, finR, sSeq, sSet, sExpr, sRet, sRetN, sIf, sPar2, sAsg, sSetIx, sNil, RS.andThen_nx, RS.andThen_rt, RS.andThen_exn, R.toS_ok, R.toS_exn, kv, kc, k1, k2, kA0, kA1, kF, kM, kIf, kTr, kTb, tAnd3, tOr3, tNot3, kAndV, kOrV, kNotV, kChain, R.bind_ok, R.bind_exn, gN, gT, gs0, gs1, List.map_cons, List.map_nil, List.length_cons, List.length_nil, List.replicate, List.cons_append, List.nil_append, List.getElem?_cons_zero, List.getElem?_cons_succ, List.set_cons_zero, List.set_cons_succ, Nat.reduceAdd, Nat.reduceSub, if_true, if_false, Bool.false_eq_true, Bool.true_eq_false, reduceIte, Bool.not_true, Bool.not_false, Option.bind_some, decide_true, decide_false, hr, rngF1]
      rw [if_pos (by omega)]
    rw [e, R.bind_ok]
    show (lcGo _ _ _ _ _ ((rngIts 0 k.toNat).length + 1) 0 st1 []).bind _ = _
    rw [show wipeD [some (.loc n), some (.str al), none, none, none, none, none, none] [7] = [some (.loc n), some (.str al), none, none, none, none, none, none] from rfl, q1]
    rfl
  obtain ⟨ss, st2, lc, s2, hss, ha⟩ := lc
  obtain ⟨w, hw0⟩ : ∃ w, Txt.join (Str.ofString "") ss = w := ⟨_, rfl⟩
  have aw : strA 9 w := by rw [← hw0]; exact (strA.join ss ha).le hss
  have e0 : (Str.ofString "").length = 0 := rfl
  have jn : joinM (.str (Str.ofString "")) [.loc st2.length] (st2 ++ [.lst (ss.map D.str)]) = .ok (.str w) (st2 ++ [.lst (ss.map D.str)]) := by
    have b : ∀ ss : List Str, strsO (ss.map D.str) = some ss := fun xs => by
      induction xs with
      | nil => rfl
      | cons x xs ih => simp only [List.map_cons, strsO, ih, Option.bind_some]
    have sm : (ss.map (·.length)).sum ≤ ss.length := by
      clear hss aw hw0 lc
      induction ss with
      | nil => exact Nat.le_refl _
      | cons s ss ih =>
        have h1 := (ha s (List.mem_cons_self ..)).1
        have h2 := ih fun s h => ha s (List.mem_cons_of_mem _ h)
        simp only [List.map_cons, List.sum_cons, List.length_cons]; omega
    simp only [joinM, itemsD, stA0, List.getElem?_cons_zero, Option.bind_some, b, e0, Nat.mul_zero, Nat.add_zero, hw0]
    rw [if_pos (by omega)]
  have g3 := Step.grow s2.die [O.lst (ss.map D.str)]
  obtain ⟨st3, hst3⟩ : ∃ s, st2 ++ [O.lst (ss.map D.str)] = s := ⟨_, rfl⟩
  rw [hst3] at lc jn g3
  have s3 := s2.trans g3
  have wl : w.length ≤ 9 := aw.1
  obtain ⟨kk, st4, k20, k21, hr4, hl4, s4⟩ := hc st3 n ((w.length : Int) + 1) s3.die (by omega) (by omega)
  obtain ⟨bads, hbads⟩ : ∃ bads : List D, bads = [.str "A", .str " ", .str "0", .str "_", .str "-", .str "{", .str "`", .str "\n", .str "z", .str "aa"] := ⟨_, rfl⟩
  have key : ∀ x ∈ bads, ∃ b, strA 2 b ∧ x = .str b := by
    rw [hbads]
    repeat first
      | exact all_nil
      | refine all_cons ?_ ?_
      | exact ⟨_, ⟨by decide +kernel, by decide +kernel⟩, rfl⟩
  have bl : bads.length = 10 := by rw [hbads]; rfl
  have g4 := Step.grow s4.die [O.lst bads]
  obtain ⟨y, st5, hy, hpk, hl5, s5⟩ := hp (st4 ++ [.lst bads]) n (.loc st4.length) bads g4.die (by simp only [seqD, stA0, List.getElem?_cons_zero]) (fun m e => by cases e; have := s4.die.lt; omega) (by intro e; rw [e] at bl; cases bl) (by omega)
  obtain ⟨b, ab, rfl⟩ := key y hy
  have g5 := Step.grow s5.die [O.lst [D.str w]]
  obtain ⟨o, st6, hro, s6, po⟩ := ho (st5 ++ [O.lst [D.str w]]) n g5.die
  obtain ⟨c1, hc1⟩ : ∃ c, cutS w none (some kk) = c := ⟨_, rfl⟩
  obtain ⟨c2, hc2⟩ : ∃ c, cutS w (some kk) none = c := ⟨_, rfl⟩
  have a1 : strA 9 c1 := by rw [← hc1]; exact aw.cut _ _
  have a2 : strA 9 c2 := by rw [← hc2]; exact aw.cut _ _
  have b1 := a1.1
  have b2 := a2.1
  have b3 := ab.1
  have b4 := (a1.app ab).1
  obtain ⟨xs, hxs⟩ : ∃ xs : List D, xs = [.str w, .str (c1 ++ b ++ c2), .str c1, .str (Txt.upper w), .str (w ++ w), .loc st5.length, .tup [.str w], o] := ⟨_, rfl⟩
  have g6 := Step.grow s6.die [O.lst xs]
  have el : st6[st5.length]? = some (.lst [.str w]) := s6.keep _ _ (by have := s5.die.lt; omega) (by rw [stA0]; rfl)
  have sw : strG w = true := aw.good (by omega)
  have pxs : ∀ x ∈ xs, Pl n st6 x := by
    rw [hxs]
    refine all_cons (.str _ sw) (all_cons (.str _ (((a1.app ab).app a2).good (by omega))) (all_cons (.str _ (a1.good (by omega))) (all_cons (.str _ (aw.upper.good (by omega))) (all_cons (.str _ ((aw.app aw).good (by omega))) (all_cons (.lst (by have := s5.die.lt; omega) el) (all_cons (.tup (by simp) (all_cons (.str _ sw) all_nil)) (all_cons po all_nil)))))))
  obtain ⟨F, hF⟩ : ∃ F, sFor (gN 6) (iL (kv 5)) (sIf (kTb (k2 neD (kF reprF (kA1 (kF rn (kA1 (kv 6) kA0)) kA0)) (kF reprF (kA1 (kF rw' (kA1 (kv 6) kA0)) kA0)))) (sRet (kc (.bl false))) sNil) = F := ⟨_, rfl⟩
  have fo : ∃ ρ' st8, F [some (.loc n), some (.str al), some (.str w), some (.int kk), some (.str b), some (.loc st6.length), none, none] (st6 ++ [.lst xs]) = .nx ρ' st8 ∧ Step n (st6 ++ [.lst xs]) st8 := by
    obtain ⟨ρ', st8, q1, q2, q3⟩ := for_inv (g := gN 6) (body := sIf (kTb (k2 neD (kF reprF (kA1 (kF rn (kA1 (kv 6) kA0)) kA0)) (kF reprF (kA1 (kF rw' (kA1 (kv 6) kA0)) kA0)))) (sRet (kc (.bl false))) sNil) (src := .lv st6.length) (xs := xs)
      (fun i ρ s => Step n (st6 ++ [.lst xs]) s ∧ ∃ d, ρ = [some (.loc n), some (.str al), some (.str w), some (.int kk), some (.str b), some (.loc st6.length), d, none])
      (fun i ρ s ⟨q, _⟩ => by
        have := q.keep st6.length (.lst xs) (by have := s6.die.lt; omega) (by rw [stA0]; rfl)
        simp only [Src.at, this])
      (fun i d ρ s hd ⟨q, d0, hρ⟩ => by
        subst hρ
        have pd0 : Pl n s d := ((pxs d (List.mem_of_getElem? hd)).step g6).step q
        obtain ⟨sa, ha, ta⟩ := hn s n d q.die pd0
        obtain ⟨sb, hb, tb⟩ := hw sa n d ta.die (pd0.step ta)
        refine ⟨_, _, sb, rfl, .inl ?_, (q.trans ta).trans tb, some d, rfl⟩
        simp only [beq_self_eq_true, runDef_eq, start3, finR, sSeq, sSet, sExpr, sRet, sRetN, sIf, sPar2, sAsg, sSetIx, sNil, RS.andThen_nx, RS.andThen_rt, RS.andThen_exn, R.toS_ok, R.toS_exn, kv, kc, k1, k2, kA0, kA1, kF, kM, kIf, kTr, kTb, tAnd3, tOr3, tNot3, kAndV, kOrV, kNotV, kChain, R.bind_ok, R.bind_exn, gN, gT, gs0, gs1, List.map_cons, List.map_nil, List.length_cons, List.length_nil, List.replicate, List.cons_append, List.nil_append, List.getElem?_cons_zero, List.getElem?_cons_succ, List.set_cons_zero, List.set_cons_succ, Nat.reduceAdd, Nat.reduceSub, if_true, if_false, Bool.false_eq_true, Bool.true_eq_false, reduceIte, Bool.not_true, Bool.not_false, Option.bind_some, decide_true, decide_false, reprF, ha, hb, ne_repr, truD])
      xs.length 0 _ _ (xs.length + 1) (by omega) (by omega) (by omega) ⟨.refl g6.die, none, rfl⟩
    refine ⟨ρ', st8, ?_, q2⟩
    rw [← hF]
    unfold sFor
    simp only [iL, beq_self_eq_true, runDef_eq, start3, finR, sSeq, sSet, sExpr, sRet, sRetN, sIf, sPar2, sAsg, sSetIx, sNil, RS.andThen_nx, RS.andThen_rt, RS.andThen_exn, R.toS_ok, R.toS_exn, kv, kc, k1, k2, kA0, kA1, kF, kM, kIf, kTr, kTb, tAnd3, tOr3, tNot3, kAndV, kOrV, kNotV, kChain, R.bind_ok, R.bind_exn, gN, gT, gs0, gs1, List.map_cons, List.map_nil, List.length_cons, List.length_nil, List.replicate, List.cons_append, List.nil_append, List.getElem?_cons_zero, List.getElem?_cons_succ, List.set_cons_zero, List.set_cons_succ, Nat.reduceAdd, Nat.reduceSub, if_true, if_false, Bool.false_eq_true, Bool.true_eq_false, reduceIte, Bool.not_true, Bool.not_false, Option.bind_some, decide_true, decide_false, stA0, Src.fuel]
    exact q1
  obtain ⟨ρ', st8, hf, s8⟩ := fo
  refine ⟨st8, ?_, s3.trans (s4.trans (g4.trans (s5.trans (g5.trans (s6.trans (g6.trans s8))))))⟩
  unfold b_law_words_right
  rw [hL, hF, hal]
  have wll : w.length ≤ 16777216 := by omega
  have wlu : w.length ≤ 5592405 := by omega
  have h29 : (10 : Nat) ≤ 16777216 := by decide
  rw [hbads] at hpk
  have hfit : c1.length + b.length ≤ 16777216 := by omega
  have hfit2 : (c1 ++ b).length + c2.length ≤ 16777216 := by omega
  have hfit3 : w.length + w.length ≤ 16777216 := by omega
  simp only [beq_self_eq_true, runDef_eq, start3, finR, sSeq, sSet, sExpr, sRet, sRetN, sIf, sPar2, sAsg, sSetIx, sNil, RS.andThen_nx, RS.andThen_rt, RS.andThen_exn, R.toS_ok, R.toS_exn, kv, kc, k1, k2, kA0, kA1, kF, kM, kIf, kTr, kTb, tAnd3, tOr3, tNot3, kAndV, kOrV, kNotV, kChain, R.bind_ok, R.bind_exn, gN, gT, gs0, gs1, List.map_cons, List.map_nil, List.length_cons, List.length_nil, List.replicate, List.cons_append, List.nil_append, List.getElem?_cons_zero, List.getElem?_cons_succ, List.set_cons_zero, List.set_cons_succ, Nat.reduceAdd, Nat.reduceSub, if_true, if_false, Bool.false_eq_true, Bool.true_eq_false, reduceIte, Bool.not_true, Bool.not_false, Option.bind_some, decide_true, decide_false, lc, jn, tyD, hr4, addD, lenF, wll, lstF, Nat.reduceLeDiff, hpk, kSl, kO0, kO1, slD, hc1, hc2, hfit, hfit2, hfit3, upperM, wlu, tupF, hro]
  rw [← hxs, hf]
  rfl
end K01

namespace K01
open PySem L2 L3
theorem sizes_ok {rp rb ro rs rt : L3.Run} (hp : PickS rp) (hb : BentS rb) (ho : OddS ro) (hs : LookS rs threeB) (ht : LookS rt threeB) {st : Sto} {n : Nat} (hd : DieAt n st) :
    ∃ st', runDef 5 1 (b_law_sizes_right rp rb ro rs rt) [.loc n] st = .ok (.bl true) st' ∧ Step n st st' := by
  have pow29 : ∀ st : Sto, powD (.int 10) (.int 29) st = .ok (.int (10 ^ (29 : Int).toNat)) st := fun st => pow_ok (by decide +kernel)
  have pow30 := pow30
  generalize ((1000000000000000000000000000000) : Int) = P at pow30
  generalize ((10 : Int) ^ (29 : Int).toNat) = Q at pow29
  have dl := hd.lt
  obtain ⟨sides, hsides⟩ : ∃ l : List D, l = [.int 1, .int 2, .int 6, .int 24, .int P, .int (P + 1), .int 0, .int (-1), .int (Q + 7)] := ⟨_, rfl⟩
  have isI : ∀ x ∈ sides, ∃ i : Int, x = .int i := by
    rw [hsides]
    repeat first
      | exact all_nil
      | refine all_cons ⟨_, rfl⟩ ?_
  have sl : sides.length = 9 := by rw [hsides]; rfl
  obtain ⟨thirds, hthirds⟩ : ∃ l : List D, l = [.int 2, .int 3, .int 1, .int 0, .int P, .int (P + 1), .int 5] := ⟨_, rfl⟩
  have isI3 : ∀ x ∈ thirds, ∃ i : Int, x = .int i := by
    rw [hthirds]
    repeat first
      | exact all_nil
      | refine all_cons ⟨_, rfl⟩ ?_
  have tl : thirds.length = 7 := by rw [hthirds]; rfl
  have g0 := Step.grow hd [O.lst sides]
  have q0 : (st ++ [O.lst sides])[st.length]? = some (.lst sides) := by rw [stA0]; rfl
  obtain ⟨y1, st1, hy1, hp1, _, s1⟩ := hp (st ++ [O.lst sides]) n (.loc st.length) sides g0.die (by simp only [seqD, q0]) (fun m e => by cases e; omega) (by intro e; rw [e] at sl; cases sl) (by omega)
  obtain ⟨i1, rfl⟩ := isI y1 hy1
  have q1 := s1.keep st.length _ (by omega) q0
  obtain ⟨y2, st2, hy2, hp2, _, s2⟩ := hp st1 n (.loc st.length) sides s1.die (by simp only [seqD, q1]) (fun m e => by cases e; omega) (by intro e; rw [e] at sl; cases sl) (by omega)
  obtain ⟨i2, rfl⟩ := isI y2 hy2
  have g2 := Step.grow s2.die [O.lst thirds]
  obtain ⟨y3, st3, hy3, hp3, _, s3⟩ := hp (st2 ++ [O.lst thirds]) n (.loc st2.length) thirds g2.die (by simp only [seqD, stA0, List.getElem?_cons_zero]) (fun m e => by cases e; have := s2.die.lt; omega) (by intro e; rw [e] at tl; cases tl) (by omega)
  obtain ⟨i3, rfl⟩ := isI3 y3 hy3
  have g3 := Step.grow s3.die [O.lst [D.int i1, .int i2, .int i3]]
  obtain ⟨o1, st4, hr4, s4, po1⟩ := ho (st3 ++ [O.lst [D.int i1, .int i2, .int i3]]) n g3.die
  obtain ⟨d1, st5, hr5, s5, p5⟩ := hb st4 n [i1, i2, i3] o1 s4.die (by simp) (by simp) po1
  obtain ⟨d2, st6, hr6, s6, p6⟩ := hb st5 n [6, 5, 2] .non s5.die (by simp) (by simp) .non
  simp only [List.map_cons, List.map_nil] at hr5 hr6
  obtain ⟨ys, hys⟩ : ∃ l : List D, l = [.tup [.int i1, .int i2, .int i3], .loc st3.length, d1, d2] := ⟨_, rfl⟩
  have g6 := Step.grow s6.die [O.lst ys]
  obtain ⟨o2, st7, hr7, s7, po2⟩ := ho (st6 ++ [O.lst ys]) n g6.die
  obtain ⟨zs, hzs⟩ : ∃ l : List D, l = [.tup [.int 6, .int 5, .int 2, .int 0], .tup [.int 6, .bl true, .int 2], .tup [.str "6", .int 5, .int 2], o2] := ⟨_, rfl⟩
  have g7 := Step.grow s7.die [O.lst zs, O.lst (ys ++ zs)]
  have q3 : st6[st3.length]? = some (.lst [.int i1, .int i2, .int i3]) := (s4.trans (s5.trans s6)).keep _ _ (by have := s3.die.lt; omega) (by rw [stA0]; rfl)
  have pys : ∀ x ∈ ys, Pl n st6 x := by
    rw [hys]
    exact all_cons (.tup (by simp) (all_cons (.int _) (all_cons (.int _) (all_cons (.int _) all_nil)))) (all_cons (.lst (by have := s3.die.lt; omega) q3) (all_cons (p5.step s6) (all_cons p6 all_nil)))
  have pzs : ∀ x ∈ zs, Pl n st7 x := by
    rw [hzs]
    exact all_cons (.tup (by simp) (all_cons (.int _) (all_cons (.int _) (all_cons (.int _) (all_cons (.int _) all_nil))))) (all_cons (.tup (by simp) (all_cons (.int _) (all_cons (.bl _) (all_cons (.int _) all_nil)))) (all_cons (.tup (by simp) (all_cons (.str _ (by decide +kernel)) (all_cons (.int _) (all_cons (.int _) all_nil)))) (all_cons po2 all_nil)))
  have yl : ys.length = 4 := by rw [hys]; rfl
  have zl : zs.length = 4 := by rw [hzs]; rfl
  have q6 : (st7 ++ [O.lst zs])[st6.length]? = some (.lst ys) := (s7.trans (Step.grow s7.die _)).keep _ _ (by have := s6.die.lt; omega) (by rw [stA0]; rfl)
  have q7 : (st7 ++ [O.lst zs])[st7.length]? = some (.lst zs) := by rw [stA0]; rfl
  have ad : addD (.loc st6.length) (.loc st7.length) (st7 ++ [O.lst zs]) = .ok (.loc (st7.length + 1)) (st7 ++ [O.lst zs, O.lst (ys ++ zs)]) := by
    rw [addD_lst q6 q7 (by omega)]
    simp
  obtain ⟨xs, hxs⟩ : ∃ l, ys ++ zs = l := ⟨_, rfl⟩
  have pxs : ∀ x ∈ xs, Pl n st7 x := by
    rw [← hxs]
    intro x hx
    rcases List.mem_append.mp hx with hx | hx
    · exact (((pys x hx).step g6).step s7)
    · exact pzs x hx
  rw [hxs] at g7 ad
  obtain ⟨F, hF⟩ : ∃ F, sFor (gN 4) (iL (kv 3)) (sIf (kTb (k2 neD (kF reprF (kA1 (kF rs (kA1 (kv 4) kA0)) kA0)) (kF reprF (kA1 (kF rt (kA1 (kv 4) kA0)) kA0)))) (sRet (kc (.bl false))) sNil) = F := ⟨_, rfl⟩
  have fo : ∃ ρ' st8, F [some (.loc n), some (.loc st.length), some (.tup [.int i1, .int i2, .int i3]), some (.loc (st7.length + 1)), none] (st7 ++ [O.lst zs, O.lst xs]) = .nx ρ' st8 ∧ Step n (st7 ++ [O.lst zs, O.lst xs]) st8 := by
    have qx : (st7 ++ [O.lst zs, O.lst xs])[st7.length + 1]? = some (.lst xs) := by rw [stA]; rfl
    obtain ⟨ρ', st8, q1, q2, q3⟩ := for_inv (g := gN 4) (body := sIf (kTb (k2 neD (kF reprF (kA1 (kF rs (kA1 (kv 4) kA0)) kA0)) (kF reprF (kA1 (kF rt (kA1 (kv 4) kA0)) kA0)))) (sRet (kc (.bl false))) sNil) (src := .lv (st7.length + 1)) (xs := xs)
      (fun i ρ s => Step n (st7 ++ [O.lst zs, O.lst xs]) s ∧ ∃ d, ρ = [some (.loc n), some (.loc st.length), some (.tup [.int i1, .int i2, .int i3]), some (.loc (st7.length + 1)), d])
      (fun i ρ s ⟨q, _⟩ => by
        have := q.keep (st7.length + 1) (.lst xs) (by have := s7.die.lt; omega) qx
        simp only [Src.at, this])
      (fun i d ρ s hd ⟨q, d0, hρ⟩ => by
        subst hρ
        have pd0 : Pl n s d := ((pxs d (List.mem_of_getElem? hd)).step g7).step q
        obtain ⟨sa, ha, ta⟩ := hs s n d q.die pd0
        obtain ⟨sb, hb, tb⟩ := ht sa n d ta.die (pd0.step ta)
        refine ⟨_, _, sb, rfl, .inl ?_, (q.trans ta).trans tb, some d, rfl⟩
        simp only [Nat.reduceLeDiff, beq_self_eq_true, runDef_eq, start3, finR, sSeq, sSet, sExpr, sRet, sRetN, sIf, sPar2, sAsg, sSetIx, sNil, RS.andThen_nx, RS.andThen_rt, RS.andThen_exn, R.toS_ok, R.toS_exn, kv, kc, k1, k2, kA0, kA1, kF, kM, kIf, kTr, kTb, tAnd3, tOr3, tNot3, kAndV, kOrV, kNotV, kChain, R.bind_ok, R.bind_exn, gN, gT, gs0, gs1, List.map_cons, List.map_nil, List.length_cons, List.length_nil, List.replicate, List.cons_append, List.nil_append, List.getElem?_cons_zero, List.getElem?_cons_succ, List.set_cons_zero, List.set_cons_succ, Nat.reduceAdd, Nat.reduceSub, if_true, if_false, Bool.false_eq_true, Bool.true_eq_false, reduceIte, Bool.not_true, Bool.not_false, Option.bind_some, decide_true, decide_false, reprF, ha, hb, ne_repr, truD])
      xs.length 0 _ _ (xs.length + 1) (by omega) (by omega) (by omega) ⟨.refl g7.die, none, rfl⟩
    refine ⟨ρ', st8, ?_, q2⟩
    rw [← hF]
    unfold sFor
    simp only [iL, Nat.reduceLeDiff, beq_self_eq_true, runDef_eq, start3, finR, sSeq, sSet, sExpr, sRet, sRetN, sIf, sPar2, sAsg, sSetIx, sNil, RS.andThen_nx, RS.andThen_rt, RS.andThen_exn, R.toS_ok, R.toS_exn, kv, kc, k1, k2, kA0, kA1, kF, kM, kIf, kTr, kTb, tAnd3, tOr3, tNot3, kAndV, kOrV, kNotV, kChain, R.bind_ok, R.bind_exn, gN, gT, gs0, gs1, List.map_cons, List.map_nil, List.length_cons, List.length_nil, List.replicate, List.cons_append, List.nil_append, List.getElem?_cons_zero, List.getElem?_cons_succ, List.set_cons_zero, List.set_cons_succ, Nat.reduceAdd, Nat.reduceSub, if_true, if_false, Bool.false_eq_true, Bool.true_eq_false, reduceIte, Bool.not_true, Bool.not_false, Option.bind_some, decide_true, decide_false, qx, Src.fuel]
    exact q1
  obtain ⟨ρ', st8, hf, s8⟩ := fo
  refine ⟨st8, ?_, g0.trans (s1.trans (s2.trans (g2.trans (s3.trans (g3.trans (s4.trans (s5.trans (s6.trans (g6.trans (s7.trans (g7.trans s8)))))))))))⟩
  unfold b_law_sizes_right
  rw [hF]
  have f1 : sides.length ≤ 16777216 := by omega
  have f2 : thirds.length ≤ 16777216 := by omega
  have f3 : ys.length ≤ 16777216 := by omega
  have f4 : zs.length ≤ 16777216 := by omega
  have ai : ∀ (i j : Int) (s : Sto), addD (.int i) (.int j) s = .ok (.int (i + j)) s := fun _ _ _ => rfl
  simp only [Nat.reduceLeDiff, beq_self_eq_true, runDef_eq, start3, finR, sSeq, sSet, sExpr, sRet, sRetN, sIf, sPar2, sAsg, sSetIx, sNil, RS.andThen_nx, RS.andThen_rt, RS.andThen_exn, R.toS_ok, R.toS_exn, kv, kc, k1, k2, kA0, kA1, kF, kM, kIf, kTr, kTb, tAnd3, tOr3, tNot3, kAndV, kOrV, kNotV, kChain, R.bind_ok, R.bind_exn, gN, gT, gs0, gs1, List.map_cons, List.map_nil, List.length_cons, List.length_nil, List.replicate, List.cons_append, List.nil_append, List.getElem?_cons_zero, List.getElem?_cons_succ, List.set_cons_zero, List.set_cons_succ, Nat.reduceAdd, Nat.reduceSub, if_true, if_false, Bool.false_eq_true, Bool.true_eq_false, reduceIte, Bool.not_true, Bool.not_false, Option.bind_some, decide_true, decide_false, pow29, pow30, negD, ai, lstF, ← hsides, f1, hp1, hp2, tupF, ← hthirds, f2, hp3, listF, hr4, hr5, hr6, ← hys, f3, hr7, ← hzs, f4, ad, hf]
end K01

namespace K01
open PySem L2 L3
def WellS (r : L3.Run) : Prop := ∀ (st : Sto) (n : Nat), DieAt n st → ∃ st', r [.loc n] st = .ok (.bl true) st' ∧ Step n st st'
theorem pd_bools (st : Sto) (n : Nat) : ∀ is : List Bool, allO ((is.map D.bl).map (pd st n)) = some (is.map PyData.bool)
  | [] => rfl
  | i :: is => by
    show (pd st n (.bl i)).bind (fun a => (allO ((is.map D.bl).map (pd st n))).bind fun l => some (a :: l)) = _
    rw [pd_bools st n is]
    cases n <;> rfl
theorem pd_lst_bools {st : Sto} {m : Nat} {bs : List Bool} (h : st[m]? = some (.lst (bs.map D.bl))) : pd st 40 (.loc m) = some (.list (bs.map PyData.bool)) := by
  unfold pd
  rw [h]
  show (allO ((bs.map D.bl).map (pd _ 39))).bind _ = _
  rw [pd_bools]; rfl
/-- all of a row looked at -/
theorem look_all {r : L3.Run} {f : D → Bool} (hr : LookS r f) {vs : List Nat} {g : KG} {it : KI} {i : Nat} {ρ : Env3} {st : Sto} {n : Nat} {xs : List D} (hd : DieAt n st) (hi : it ρ st = .ok (.its xs) st) (hx : xs.length < 16777215) (hp : ∀ x ∈ xs, Pl n st x)
    (hg : ∀ d, ∃ ρ1, g d (wipeD ρ vs) = some ρ1 ∧ ρ1[i]? = some (some d)) :
    ∃ st', kLc vs g it kTrue (kF r (kA1 (kv i) kA0)) ρ st = .ok (.loc st'.length) (st' ++ [.lst ((xs.map f).map D.bl)]) ∧ Step n st st' := by
  obtain ⟨acc, st', h1, ⟨h2, h3⟩, h4⟩ := lc_inv (g := g) (cnd := kTrue) (elt := kF r (kA1 (kv i) kA0)) (src := .its xs) (ρ := wipeD ρ vs) (xs := xs) (fun i s acc => Step n st s ∧ acc = ((xs.take i).map f).map D.bl) (fun i s acc h => rfl)
    (fun j d s acc hd ⟨q, ha⟩ => by
      obtain ⟨ρ1, e1, e2⟩ := hg d
      obtain ⟨s', e3, q'⟩ := hr s n d q.die ((hp d (List.mem_of_getElem? hd)).step q)
      have et : xs.take (j + 1) = xs.take j ++ [d] := by rw [List.take_succ, hd]; rfl
      exact ⟨ρ1, true, s, e1, rfl, fun _ => ⟨.bl (f d), s', by simp only [Nat.reduceLeDiff, beq_self_eq_true, runDef_eq, start3, finR, sSeq, sSet, sExpr, sRet, sRetN, sIf, sPar2, sAsg, sSetIx, sNil, RS.andThen_nx, RS.andThen_rt, RS.andThen_exn, R.toS_ok, R.toS_exn, kv, kc, k1, k2, kA0, kA1, kF, kM, kIf, kTr, kTb, tAnd3, tOr3, tNot3, kAndV, kOrV, kNotV, kChain, R.bind_ok, R.bind_exn, gN, gT, gs0, gs1, List.map_cons, List.map_nil, List.length_cons, List.length_nil, List.replicate, List.cons_append, List.nil_append, List.getElem?_cons_zero, List.getElem?_cons_succ, List.set_cons_zero, List.set_cons_succ, Nat.reduceAdd, Nat.reduceSub, if_true, if_false, Bool.false_eq_true, Bool.true_eq_false, reduceIte, Bool.not_true, Bool.not_false, Option.bind_some, decide_true, decide_false, e2, e3], q.trans q', by rw [et, ha]; simp⟩, fun h => nomatch h⟩)
    xs.length 0 st [] (xs.length + 1) (by omega) (by omega) (by omega) (by simp) hx ⟨.refl hd, rfl⟩
  refine ⟨st', ?_, h2⟩
  unfold kLc
  rw [hi, R.bind_ok]
  show (lcGo g kTrue _ (.its xs) (wipeD ρ vs) (xs.length + 1) 0 st []).bind _ = _
  rw [h1, R.bind_ok, h3, List.take_length]
theorem law_ok {rnum rwr rsr rn rs : L3.Run} (h1 : NumsS rnum) (h2 : WellS rwr) (h3 : WellS rsr) (h4 : LookS rn wordB) (h5 : LookS rs threeB) (ns : List Int) (hns : ns.length ≤ 63) :
    ∃ st', runDef 7 1 (b_law rnum rwr rsr rn rs) [.frz (ns.map D.int)] [] = .ok (.bl true) st' := by
  obtain ⟨cs, hcs⟩ : ∃ cs, D.frz (ns.map D.int) = cs := ⟨_, rfl⟩
  -- the inner loop
  obtain ⟨G, hG⟩ : ∃ F, sFor (gN 4) (iR1 (kA1 (kc (.int 5)) kA0)) (sIf (tOr3 (tNot3 (kTr (kF rwr (kA1 (kv 3) kA0)))) (tNot3 (kTr (kF rsr (kA1 (kv 3) kA0))))) (sRet (kc (.bl false))) sNil) = F := ⟨_, rfl⟩
  have inner : ∀ (a d : Option D) (st : Sto) (n : Nat), DieAt n st → ∃ d' st', G [some cs, a, none, some (.loc n), d, none, none] st = .nx [some cs, a, none, some (.loc n), d', none, none] st' ∧ Step n st st' := by
    intro a d st n hd
    obtain ⟨ρ', st8, q1, q2, d', q3⟩ := for_inv (g := gN 4) (body := sIf (tOr3 (tNot3 (kTr (kF rwr (kA1 (kv 3) kA0)))) (tNot3 (kTr (kF rsr (kA1 (kv 3) kA0))))) (sRet (kc (.bl false))) sNil) (src := .its (rngIts 0 5)) (xs := rngIts 0 5)
      (fun i ρ s => Step n st s ∧ ∃ d, ρ = [some cs, a, none, some (.loc n), d, none, none]) (fun i ρ s h => rfl)
      (fun i x ρ s hd ⟨q, d0, hρ⟩ => by
        subst hρ
        obtain ⟨sa, ha, ta⟩ := h2 s n q.die
        obtain ⟨sb, hb, tb⟩ := h3 sa n ta.die
        refine ⟨_, _, sb, rfl, .inl ?_, (q.trans ta).trans tb, some x, rfl⟩
        simp only [Nat.reduceLeDiff, beq_self_eq_true, runDef_eq, start3, finR, sSeq, sSet, sExpr, sRet, sRetN, sIf, sPar2, sAsg, sSetIx, sNil, RS.andThen_nx, RS.andThen_rt, RS.andThen_exn, R.toS_ok, R.toS_exn, kv, kc, k1, k2, kA0, kA1, kF, kM, kIf, kTr, kTb, tAnd3, tOr3, tNot3, kAndV, kOrV, kNotV, kChain, R.bind_ok, R.bind_exn, gN, gT, gs0, gs1, List.map_cons, List.map_nil, List.length_cons, List.length_nil, List.replicate, List.cons_append, List.nil_append, List.getElem?_cons_zero, List.getElem?_cons_succ, List.set_cons_zero, List.set_cons_succ, Nat.reduceAdd, Nat.reduceSub, if_true, if_false, Bool.false_eq_true, Bool.true_eq_false, reduceIte, Bool.not_true, Bool.not_false, Option.bind_some, decide_true, decide_false, ha, hb, truD])
      5 0 _ st 6 rfl (by omega) (by omega) ⟨.refl hd, d, rfl⟩
    refine ⟨d', st8, ?_, q2⟩
    rw [← hG, ← q3]
    exact q1
  -- the outer one
  obtain ⟨k, k1, k8, hk⟩ : ∃ k : Int, 1 ≤ k ∧ k ≤ 8 ∧ kF maxF (kA1 (kc (.int 1)) (kA1 (kF minF (kA1 (kc (.int 8)) (kA1 (kF lenF (kA1 (kv 0) kA0)) kA0))) kA0)) [some cs, none, none, none, none, none, none] [] = .ok (.int k) [] := by
    refine ⟨max 1 (min 8 (ns.length : Int)), by omega, by omega, ?_⟩
    rw [← hcs]
    simp only [Nat.reduceLeDiff, beq_self_eq_true, runDef_eq, start3, finR, sSeq, sSet, sExpr, sRet, sRetN, sIf, sPar2, sAsg, sSetIx, sNil, RS.andThen_nx, RS.andThen_rt, RS.andThen_exn, R.toS_ok, R.toS_exn, kv, kc, k1, k2, kA0, kA1, kF, kM, kIf, kTr, kTb, tAnd3, tOr3, tNot3, kAndV, kOrV, kNotV, kChain, R.bind_ok, R.bind_exn, gN, gT, gs0, gs1, List.map_cons, List.map_nil, List.length_cons, List.length_nil, List.replicate, List.cons_append, List.nil_append, List.getElem?_cons_zero, List.getElem?_cons_succ, List.set_cons_zero, List.set_cons_succ, Nat.reduceAdd, Nat.reduceSub, if_true, if_false, Bool.false_eq_true, Bool.true_eq_false, reduceIte, Bool.not_true, Bool.not_false, Option.bind_some, decide_true, decide_false, lenF, minF, maxF, List.length_map]
    congr 2
    omega
  have rl : (rngIts 0 k.toNat).length = k.toNat := by unfold rngIts; simp
  obtain ⟨M, hM⟩ : ∃ M, kF maxF (kA1 (kc (.int 1)) (kA1 (kF minF (kA1 (kc (.int 8)) (kA1 (kF lenF (kA1 (kv 0) kA0)) kA0))) kA0)) = M := ⟨_, rfl⟩
  rw [hM] at hk
  obtain ⟨F, hF⟩ : ∃ F, sFor (gN 1) (iR1 (kA1 M kA0)) (sSeq (sSet 3 (kF rnum (kA1 (kv 0) (kA1 (kv 1) kA0)))) G) = F := ⟨_, rfl⟩
  have outer : ∃ a b c st' n, F [some cs, none, none, none, none, none, none] [] = .nx [some cs, a, none, b, c, none, none] st' ∧ DieAt n st' := by
    obtain ⟨ρ', st8, q1, ⟨a, b, c, q2⟩, q3⟩ := for_inv (g := gN 1) (body := sSeq (sSet 3 (kF rnum (kA1 (kv 0) (kA1 (kv 1) kA0)))) G) (src := .its (rngIts 0 k.toNat)) (xs := rngIts 0 k.toNat)
      (fun i ρ s => (∃ a b c, ρ = [some cs, a, none, b, c, none, none]) ∧ (0 < i → ∃ n, DieAt n s)) (fun i ρ s h => rfl)
      (fun i x ρ s hd ⟨⟨a, b, c, hρ⟩, _⟩ => by
        subst hρ
        have hx : ∃ j : Int, 0 ≤ j ∧ x = .int j := by
          have := List.mem_of_getElem? hd
          unfold rngIts at this
          obtain ⟨j, _, rfl⟩ := List.mem_map.mp this
          exact ⟨_, by omega, rfl⟩
        obtain ⟨j, hj, rfl⟩ := hx
        obtain ⟨p, q, hn⟩ := h1 s ns j hj
        rw [hcs] at hn
        obtain ⟨d', s', hg, sg⟩ := inner (some (.int j)) c (s ++ [.lst [.int p, .int q, .int 0]]) s.length ⟨p, q, 0, by rw [stA0]; rfl⟩
        refine ⟨_, [some cs, some (.int j), none, some (.loc s.length), d', none, none], s', rfl, .inl ?_, ⟨_, _, _, rfl⟩, fun _ => ⟨_, sg.die⟩⟩
        simp only [Nat.reduceLeDiff, beq_self_eq_true, runDef_eq, start3, finR, sSeq, sSet, sExpr, sRet, sRetN, sIf, sPar2, sAsg, sSetIx, sNil, RS.andThen_nx, RS.andThen_rt, RS.andThen_exn, R.toS_ok, R.toS_exn, kv, kc, k1, k2, kA0, kA1, kF, kM, kIf, kTr, kTb, tAnd3, tOr3, tNot3, kAndV, kOrV, kNotV, kChain, R.bind_ok, R.bind_exn, gN, gT, gs0, gs1, List.map_cons, List.map_nil, List.length_cons, List.length_nil, List.replicate, List.cons_append, List.nil_append, List.getElem?_cons_zero, List.getElem?_cons_succ, List.set_cons_zero, List.set_cons_succ, Nat.reduceAdd, Nat.reduceSub, if_true, if_false, Bool.false_eq_true, Bool.true_eq_false, reduceIte, Bool.not_true, Bool.not_false, Option.bind_some, decide_true, decide_false, hn]
        exact hg)
      (rngIts 0 k.toNat).length 0 _ [] ((rngIts 0 k.toNat).length + 1) (by omega) (by omega) (by omega) ⟨⟨none, none, none, rfl⟩, fun h => nomatch h⟩
    obtain ⟨n, hn⟩ := q3 (by omega)
    refine ⟨a, b, c, st8, n, ?_, hn⟩
    rw [← q2, ← hF]
    have e : iR1 (kA1 M kA0) [some cs, none, none, none, none, none, none] [] = .ok (.its (rngIts 0 k.toNat)) [] := by
      simp only [iR1, Nat.reduceLeDiff, beq_self_eq_true, runDef_eq, start3, finR, sSeq, sSet, sExpr, sRet, sRetN, sIf, sPar2, sAsg, sSetIx, sNil, RS.andThen_nx, RS.andThen_rt, RS.andThen_exn, R.toS_ok, R.toS_exn, kv, kc, k1, k2, kA0, kA1, kF, kM, kIf, kTr, kTb, tAnd3, tOr3, tNot3, kAndV, kOrV, kNotV, kChain, R.bind_ok, R.bind_exn, gN, gT, gs0, gs1, List.map_cons, List.map_nil, List.length_cons, List.length_nil, List.replicate, List.cons_append, List.nil_append, List.getElem?_cons_zero, List.getElem?_cons_succ, List.set_cons_zero, List.set_cons_succ, Nat.reduceAdd, Nat.reduceSub, if_true, if_false, Bool.false_eq_true, Bool.true_eq_false, reduceIte, Bool.not_true, Bool.not_false, Option.bind_some, decide_true, decide_false, hk, rngF1]
      rw [if_pos (by omega)]
    unfold sFor
    rw [e]
    exact q1
  obtain ⟨a, b, c, st, n, hf, hd⟩ := outer
  -- the names
  obtain ⟨ws, hws⟩ : ∃ l : List D, l = [.str "a", .str "zzzzzzzz", .str "aaaaaaaaa", .str "", .str "floor", .str "Bar", .str "a1", .str "upright"] := ⟨_, rfl⟩
  have pws : ∀ x ∈ ws, Pl n st x := by
    rw [hws]
    repeat first
      | exact all_nil
      | refine all_cons (Pl.strD (by decide +kernel)) ?_
  have bws : ws.map wordB = [true, true, false, false, true, false, false, true] := by rw [hws]; decide +kernel
  obtain ⟨L1, hL1⟩ : ∃ L, kLc [5] (gN 5) (iT (kF tupF (kA1 (kc (.str "a")) (kA1 (kc (.str "zzzzzzzz")) (kA1 (kc (.str "aaaaaaaaa")) (kA1 (kc (.str "")) (kA1 (kc (.str "floor")) (kA1 (kc (.str "Bar")) (kA1 (kc (.str "a1")) (kA1 (kc (.str "upright")) kA0)))))))))) kTrue (kF rn (kA1 (kv 5) kA0)) = L := ⟨_, rfl⟩
  obtain ⟨st1, e1, s1⟩ := look_all h4 (vs := [5]) (g := gN 5) (i := 5) (it := iT (kF tupF (kA1 (kc (.str "a")) (kA1 (kc (.str "zzzzzzzz")) (kA1 (kc (.str "aaaaaaaaa")) (kA1 (kc (.str "")) (kA1 (kc (.str "floor")) (kA1 (kc (.str "Bar")) (kA1 (kc (.str "a1")) (kA1 (kc (.str "upright")) kA0)))))))))) (ρ := [some cs, a, none, b, c, none, none]) (xs := ws) hd (by rw [hws]; rfl) (by rw [hws]; decide) pws (fun d => ⟨_, rfl, rfl⟩)
  rw [hL1, bws] at e1
  obtain ⟨bs, hbs⟩ : ∃ l : List Bool, l = [true, true, false, false, true, false, false, true] := ⟨_, rfl⟩
  rw [← hbs] at e1
  have ne : neD (.loc st1.length) (.loc (st1.length + 1)) (st1 ++ [.lst (bs.map D.bl), .lst (bs.map D.bl)]) = .ok (.bl false) (st1 ++ [.lst (bs.map D.bl), .lst (bs.map D.bl)]) := by
    have q1 := pd_lst_bools (st := st1 ++ [.lst (bs.map D.bl), .lst (bs.map D.bl)]) (m := st1.length) (bs := bs) (by rw [stA0]; rfl)
    have q2 := pd_lst_bools (st := st1 ++ [.lst (bs.map D.bl), .lst (bs.map D.bl)]) (m := st1.length + 1) (bs := bs) (by rw [stA]; rfl)
    have sh : SeqAt.shaped (.list (bs.map PyData.bool)) = true := by rw [hbs]; decide +kernel
    have ev : PyData.eqv (.list (bs.map PyData.bool)) (.list (bs.map PyData.bool)) = true := by rw [hbs]; decide +kernel
    simp only [neD, q1, q2]
    rw [if_pos ⟨sh, sh⟩, ev]
    rfl
  -- the sizes
  obtain ⟨m1, hm1⟩ : ∃ l, st1 ++ [O.lst (bs.map D.bl), .lst (bs.map D.bl)] = l := ⟨_, rfl⟩
  have g1 : Step n st1 m1 := by rw [← hm1]; exact Step.grow s1.die _
  rw [hm1] at ne
  obtain ⟨zs, hzs⟩ : ∃ l : List D, l = [.tup [.int 1, .int 1, .int 2], .tup [.int 1, .int 1, .int 1], .tup [.int 1000000000000000000000000000000, .int 1, .int 1000000000000000000000000000000], .tup [.int 1000000000000000000000000000001, .int 1, .int 2], .tup [.int 0, .int 1, .int 2]] := ⟨_, rfl⟩
  have pzs : ∀ x ∈ zs, Pl n m1 x := by
    rw [hzs]
    repeat first
      | exact all_nil
      | refine all_cons (.tup (by simp) (all_cons (.int _) (all_cons (.int _) (all_cons (.int _) all_nil)))) ?_
  have bzs : zs.map threeB = [true, false, true, false, false] := by rw [hzs]; decide +kernel
  have itz : iT (kF tupF (kA1 (kF tupF (kA1 (kc (.int 1)) (kA1 (kc (.int 1)) (kA1 (kc (.int 2)) kA0)))) (kA1 (kF tupF (kA1 (kc (.int 1)) (kA1 (kc (.int 1)) (kA1 (kc (.int 1)) kA0)))) (kA1 (kF tupF (kA1 (k2 powD (kc (.int 10)) (kc (.int 30))) (kA1 (kc (.int 1)) (kA1 (k2 powD (kc (.int 10)) (kc (.int 30))) kA0)))) (kA1 (kF tupF (kA1 (k2 addD (k2 powD (kc (.int 10)) (kc (.int 30))) (kc (.int 1))) (kA1 (kc (.int 1)) (kA1 (kc (.int 2)) kA0)))) (kA1 (kF tupF (kA1 (kc (.int 0)) (kA1 (kc (.int 1)) (kA1 (kc (.int 2)) kA0)))) kA0))))))
      [some cs, a, some (.loc st1.length), b, c, none, none] m1 = .ok (.its zs) m1 := by
    rw [hzs]
    simp only [iT, Nat.reduceLeDiff, beq_self_eq_true, runDef_eq, start3, finR, sSeq, sSet, sExpr, sRet, sRetN, sIf, sPar2, sAsg, sSetIx, sNil, RS.andThen_nx, RS.andThen_rt, RS.andThen_exn, R.toS_ok, R.toS_exn, kv, kc, k1, k2, kA0, kA1, kF, kM, kIf, kTr, kTb, tAnd3, tOr3, tNot3, kAndV, kOrV, kNotV, kChain, R.bind_ok, R.bind_exn, gN, gT, gs0, gs1, List.map_cons, List.map_nil, List.length_cons, List.length_nil, List.replicate, List.cons_append, List.nil_append, List.getElem?_cons_zero, List.getElem?_cons_succ, List.set_cons_zero, List.set_cons_succ, Nat.reduceAdd, Nat.reduceSub, if_true, if_false, Bool.false_eq_true, Bool.true_eq_false, reduceIte, Bool.not_true, Bool.not_false, Option.bind_some, decide_true, decide_false, tupF, pow30, addD]
    rfl
  obtain ⟨L2, hL2⟩ : ∃ L, kLc [6] (gN 6) (iT (kF tupF (kA1 (kF tupF (kA1 (kc (.int 1)) (kA1 (kc (.int 1)) (kA1 (kc (.int 2)) kA0)))) (kA1 (kF tupF (kA1 (kc (.int 1)) (kA1 (kc (.int 1)) (kA1 (kc (.int 1)) kA0)))) (kA1 (kF tupF (kA1 (k2 powD (kc (.int 10)) (kc (.int 30))) (kA1 (kc (.int 1)) (kA1 (k2 powD (kc (.int 10)) (kc (.int 30))) kA0)))) (kA1 (kF tupF (kA1 (k2 addD (k2 powD (kc (.int 10)) (kc (.int 30))) (kc (.int 1))) (kA1 (kc (.int 1)) (kA1 (kc (.int 2)) kA0)))) (kA1 (kF tupF (kA1 (kc (.int 0)) (kA1 (kc (.int 1)) (kA1 (kc (.int 2)) kA0)))) kA0))))))) kTrue (kF rs (kA1 (kv 6) kA0)) = L := ⟨_, rfl⟩
  obtain ⟨st2, e2, s2⟩ := look_all h5 (vs := [6]) (g := gN 6) (i := 6) (xs := zs) g1.die itz (by rw [hzs]; decide) pzs (fun d => ⟨_, rfl, rfl⟩)
  rw [hL2, bzs] at e2
  obtain ⟨cc, hcc⟩ : ∃ l : List Bool, l = [true, false, true, false, false] := ⟨_, rfl⟩
  rw [← hcc] at e2
  have eq : eqD (.loc st2.length) (.loc (st2.length + 1)) (st2 ++ [.lst (cc.map D.bl), .lst (cc.map D.bl)]) = .ok (.bl true) (st2 ++ [.lst (cc.map D.bl), .lst (cc.map D.bl)]) := by
    have q1 := pd_lst_bools (st := st2 ++ [.lst (cc.map D.bl), .lst (cc.map D.bl)]) (m := st2.length) (bs := cc) (by rw [stA0]; rfl)
    have q2 := pd_lst_bools (st := st2 ++ [.lst (cc.map D.bl), .lst (cc.map D.bl)]) (m := st2.length + 1) (bs := cc) (by rw [stA]; rfl)
    have sh : SeqAt.shaped (.list (cc.map PyData.bool)) = true := by rw [hcc]; decide +kernel
    have ev : PyData.eqv (.list (cc.map PyData.bool)) (.list (cc.map PyData.bool)) = true := by rw [hcc]; decide +kernel
    simp only [eqD, q1, q2]
    rw [if_pos ⟨sh, sh⟩, ev]
  have lb : [D.bl true, .bl true, .bl false, .bl false, .bl true, .bl false, .bl false, .bl true] = bs.map D.bl := by rw [hbs]; rfl
  have lc : [D.bl true, .bl false, .bl true, .bl false, .bl false] = cc.map D.bl := by rw [hcc]; rfl
  have f1 : (bs.map D.bl).length ≤ 16777216 := by rw [hbs]; decide
  have f2 : (cc.map D.bl).length ≤ 16777216 := by rw [hcc]; decide
  refine ⟨st2 ++ [.lst (cc.map D.bl), .lst (cc.map D.bl)], ?_⟩
  unfold b_law
  rw [hG, hM, hF, hL1, hL2, hcs]
  simp only [Nat.reduceLeDiff, beq_self_eq_true, runDef_eq, start3, finR, sSeq, sSet, sExpr, sRet, sRetN, sIf, sPar2, sAsg, sSetIx, sNil, RS.andThen_nx, RS.andThen_rt, RS.andThen_exn, R.toS_ok, R.toS_exn, kv, kc, k1, k2, kA0, kA1, kF, kM, kIf, kTr, kTb, tAnd3, tOr3, tNot3, kAndV, kOrV, kNotV, kChain, R.bind_ok, R.bind_exn, gN, gT, gs0, gs1, List.map_cons, List.map_nil, List.length_cons, List.length_nil, List.replicate, List.cons_append, List.nil_append, List.getElem?_cons_zero, List.getElem?_cons_succ, List.set_cons_zero, List.set_cons_succ, Nat.reduceAdd, Nat.reduceSub, if_true, if_false, Bool.false_eq_true, Bool.true_eq_false, reduceIte, Bool.not_true, Bool.not_false, Option.bind_some, decide_true, decide_false, hf, e1, lstF, lb, f1, List.append_assoc, List.length_append, hm1, ne, truD, e2, lc, f2, eq]
end K01

namespace K01
open PySem L2 L3
theorem main_run (ns : List Int) (hns : ns.length ≤ 63) : ∃ st', callT 12 13 [.frz (ns.map D.int)] [] = .ok (.bl true) st' := by
  have cast : ∀ n, CastS (callT (n + 1) 4) := fun n => cast_ok
  have pick : ∀ n, PickS (callT (n + 2) 5) := fun n => pick_ok (cast n)
  have odd : ∀ n, OddS (callT (n + 3) 9) := fun n => odd_ok (pick n)
  have bent : ∀ n, BentS (callT (n + 3) 6) := fun n => bent_ok (cast (n + 1)) (pick n)
  have name : ∀ n, LookS (callT (n + 1) 1) wordB := fun n st m d hd h => name_ok hd h
  have word : ∀ n, LookS (callT (n + 1) 7) wordB := fun n st m d hd h => word_ok hd h
  have number : ∀ n, NumberS (callT (n + 1) 8) := fun n => number_ok
  have three : ∀ n, LookS (callT (n + 2) 10) threeB := fun n st m d hd h => ⟨st, three_ok (number n) h, .refl hd⟩
  have size : ∀ n, LookS (callT (n + 2) 2) threeB := fun n st m d hd h => size_ok (fun h => whole_ok h) hd h
  have words : ∀ n, WellS (callT (n + 4) 11) := fun n st m hd => words_ok (cast (n + 2)) (pick (n + 1)) (odd n) (name (n + 2)) (word (n + 2)) hd
  have sizes : ∀ n, WellS (callT (n + 4) 12) := fun n st m hd => sizes_ok (pick (n + 1)) (bent n) (odd n) (size (n + 1)) (three (n + 1)) hd
  exact law_ok (rnum := callT 11 3) (rwr := callT 11 11) (rsr := callT 11 12) (rn := callT 11 1) (rs := callT 11 2) numbers_ok (words 7) (sizes 7) (name 10) (size 9) ns hns
end K01

set_option maxHeartbeats 4000000
namespace K01
open PySem PySem.Spec PyProof.Rows L2 L3
def top (i : Nat) : Stmt := PySem.Challenge.pw_bondfloors_k01_names_and_sizes.main.body.getD i (.Pass ⟨0, 0, 0, 0⟩)
abbrev s_is_whole : Stmt := top 1
abbrev N_is_whole : List Str := ["value"]
theorem sc_is_whole : FnScope N_is_whole ["value"] (defScope s_is_whole) := ⟨rfl, rfl, rfl, by decide +kernel, rfl, by decide +kernel, by decide +kernel⟩
abbrev s_is_name : Stmt := top 6
abbrev N_is_name : List Str := ["value", "letter"]
theorem sc_is_name : FnScope N_is_name ["value"] (defScope s_is_name) := ⟨rfl, rfl, rfl, by decide +kernel, rfl, by decide +kernel, by decide +kernel⟩
abbrev s_is_size : Stmt := top 7
abbrev N_is_size : List Str := ["value", "width", "height", "length", "item"]
theorem sc_is_size : FnScope N_is_size ["value"] (defScope s_is_size) := ⟨rfl, rfl, rfl, by decide +kernel, rfl, by decide +kernel, by decide +kernel⟩
abbrev s_law_numbers : Stmt := top 9
abbrev N_law_numbers : List Str := ["script", "at", "cell", "whole", "mixed"]
theorem sc_law_numbers : FnScope N_law_numbers ["script", "at"] (defScope s_law_numbers) := ⟨rfl, rfl, rfl, by decide +kernel, rfl, by decide +kernel, by decide +kernel⟩
abbrev s_law_cast : Stmt := top 10
abbrev N_law_cast : List Str := ["die", "total", "one", "two", "found"]
theorem sc_law_cast : FnScope N_law_cast ["die", "total"] (defScope s_law_cast) := ⟨rfl, rfl, rfl, by decide +kernel, rfl, by decide +kernel, by decide +kernel⟩
abbrev s_law_pick : Stmt := top 11
abbrev N_law_pick : List Str := ["die", "items"]
theorem sc_law_pick : FnScope N_law_pick ["die", "items"] (defScope s_law_pick) := ⟨rfl, rfl, rfl, by decide +kernel, rfl, by decide +kernel, by decide +kernel⟩
abbrev s_law_bent_tuple : Stmt := top 12
abbrev N_law_bent_tuple : List Str := ["die", "items", "odd", "at", "some"]
theorem sc_law_bent_tuple : FnScope N_law_bent_tuple ["die", "items", "odd"] (defScope s_law_bent_tuple) := ⟨rfl, rfl, rfl, by decide +kernel, rfl, by decide +kernel, by decide +kernel⟩
abbrev s_law_is_word : Stmt := top 13
abbrev N_law_is_word : List Str := ["value", "one"]
theorem sc_law_is_word : FnScope N_law_is_word ["value"] (defScope s_law_is_word) := ⟨rfl, rfl, rfl, by decide +kernel, rfl, by decide +kernel, by decide +kernel⟩
abbrev s_law_is_number : Stmt := top 14
abbrev N_law_is_number : List Str := ["value", "low", "high"]
theorem sc_law_is_number : FnScope N_law_is_number ["value", "low", "high"] (defScope s_law_is_number) := ⟨rfl, rfl, rfl, by decide +kernel, rfl, by decide +kernel, by decide +kernel⟩
abbrev s_law_odd_one : Stmt := top 15
abbrev N_law_odd_one : List Str := ["die", "some"]
theorem sc_law_odd_one : FnScope N_law_odd_one ["die"] (defScope s_law_odd_one) := ⟨rfl, rfl, rfl, by decide +kernel, rfl, by decide +kernel, by decide +kernel⟩
abbrev s_law_is_three : Stmt := top 16
abbrev N_law_is_three : List Str := ["value"]
theorem sc_law_is_three : FnScope N_law_is_three ["value"] (defScope s_law_is_three) := ⟨rfl, rfl, rfl, by decide +kernel, rfl, by decide +kernel, by decide +kernel⟩
abbrev s_law_words_right : Stmt := top 17
abbrev N_law_words_right : List Str := ["die", "letters", "word", "at", "odd", "some", "value", "turn"]
theorem sc_law_words_right : FnScope N_law_words_right ["die"] (defScope s_law_words_right) := ⟨rfl, rfl, rfl, by decide +kernel, rfl, by decide +kernel, by decide +kernel⟩
abbrev s_law_sizes_right : Stmt := top 18
abbrev N_law_sizes_right : List Str := ["die", "sides", "size", "some", "value"]
theorem sc_law_sizes_right : FnScope N_law_sizes_right ["die"] (defScope s_law_sizes_right) := ⟨rfl, rfl, rfl, by decide +kernel, rfl, by decide +kernel, by decide +kernel⟩
abbrev s_law : Stmt := top 19
abbrev N_law : List Str := ["script", "at", "told", "die", "turn", "word", "value"]
theorem sc_law : FnScope N_law ["script"] (defScope s_law) := ⟨rfl, rfl, rfl, by decide +kernel, rfl, by decide +kernel, by decide +kernel⟩
structure Tx (K : PySem.W.Frag) (mg : Str → Option Value) where
  a_is_whole : Addr
  d_is_whole : FuncData
  F_is_whole : Fun K "is_whole" "is_whole" s_is_whole a_is_whole d_is_whole
  b_is_whole : Binds K d_is_whole ["value"] []
  g_is_whole : mg "is_whole" = some (.ref a_is_whole)
  a_is_name : Addr
  d_is_name : FuncData
  F_is_name : Fun K "is_name" "is_name" s_is_name a_is_name d_is_name
  b_is_name : Binds K d_is_name ["value"] []
  g_is_name : mg "is_name" = some (.ref a_is_name)
  a_is_size : Addr
  d_is_size : FuncData
  F_is_size : Fun K "is_size" "is_size" s_is_size a_is_size d_is_size
  b_is_size : Binds K d_is_size ["value"] []
  g_is_size : mg "is_size" = some (.ref a_is_size)
  a_law_numbers : Addr
  d_law_numbers : FuncData
  F_law_numbers : Fun K "_law_numbers" "_law_numbers" s_law_numbers a_law_numbers d_law_numbers
  b_law_numbers : Binds K d_law_numbers ["script", "at"] []
  g_law_numbers : mg "_law_numbers" = some (.ref a_law_numbers)
  a_law_cast : Addr
  d_law_cast : FuncData
  F_law_cast : Fun K "_law_cast" "_law_cast" s_law_cast a_law_cast d_law_cast
  b_law_cast : Binds K d_law_cast ["die", "total"] []
  g_law_cast : mg "_law_cast" = some (.ref a_law_cast)
  a_law_pick : Addr
  d_law_pick : FuncData
  F_law_pick : Fun K "_law_pick" "_law_pick" s_law_pick a_law_pick d_law_pick
  b_law_pick : Binds K d_law_pick ["die", "items"] []
  g_law_pick : mg "_law_pick" = some (.ref a_law_pick)
  a_law_bent_tuple : Addr
  d_law_bent_tuple : FuncData
  F_law_bent_tuple : Fun K "_law_bent_tuple" "_law_bent_tuple" s_law_bent_tuple a_law_bent_tuple d_law_bent_tuple
  b_law_bent_tuple : Binds K d_law_bent_tuple ["die", "items", "odd"] []
  g_law_bent_tuple : mg "_law_bent_tuple" = some (.ref a_law_bent_tuple)
  a_law_is_word : Addr
  d_law_is_word : FuncData
  F_law_is_word : Fun K "_law_is_word" "_law_is_word" s_law_is_word a_law_is_word d_law_is_word
  b_law_is_word : Binds K d_law_is_word ["value"] []
  g_law_is_word : mg "_law_is_word" = some (.ref a_law_is_word)
  a_law_is_number : Addr
  d_law_is_number : FuncData
  F_law_is_number : Fun K "_law_is_number" "_law_is_number" s_law_is_number a_law_is_number d_law_is_number
  b_law_is_number : Binds K d_law_is_number ["value", "low", "high"] []
  g_law_is_number : mg "_law_is_number" = some (.ref a_law_is_number)
  a_law_odd_one : Addr
  d_law_odd_one : FuncData
  F_law_odd_one : Fun K "_law_odd_one" "_law_odd_one" s_law_odd_one a_law_odd_one d_law_odd_one
  b_law_odd_one : Binds K d_law_odd_one ["die"] []
  g_law_odd_one : mg "_law_odd_one" = some (.ref a_law_odd_one)
  a_law_is_three : Addr
  d_law_is_three : FuncData
  F_law_is_three : Fun K "_law_is_three" "_law_is_three" s_law_is_three a_law_is_three d_law_is_three
  b_law_is_three : Binds K d_law_is_three ["value"] []
  g_law_is_three : mg "_law_is_three" = some (.ref a_law_is_three)
  a_law_words_right : Addr
  d_law_words_right : FuncData
  F_law_words_right : Fun K "_law_words_right" "_law_words_right" s_law_words_right a_law_words_right d_law_words_right
  b_law_words_right : Binds K d_law_words_right ["die"] []
  g_law_words_right : mg "_law_words_right" = some (.ref a_law_words_right)
  a_law_sizes_right : Addr
  d_law_sizes_right : FuncData
  F_law_sizes_right : Fun K "_law_sizes_right" "_law_sizes_right" s_law_sizes_right a_law_sizes_right d_law_sizes_right
  b_law_sizes_right : Binds K d_law_sizes_right ["die"] []
  g_law_sizes_right : mg "_law_sizes_right" = some (.ref a_law_sizes_right)
  a_law : Addr
  d_law : FuncData
  F_law : Fun K "law" "law" s_law a_law d_law
  b_law : Binds K d_law ["script"] []
  g_law : mg "law" = some (.ref a_law)
  m_abs : mg "abs" = none
  m_all : mg "all" = none
  m_bool : mg "bool" = none
  m_int : mg "int" = none
  m_isinstance : mg "isinstance" = none
  m_len : mg "len" = none
  m_list : mg "list" = none
  m_max : mg "max" = none
  m_min : mg "min" = none
  m_range : mg "range" = none
  m_repr : mg "repr" = none
  m_str : mg "str" = none
  m_tuple : mg "tuple" = none
  t_LETTERS : Tok
  c_LETTERS : mg "LETTERS" = some (.str "abcdefghijklmnopqrstuvwxyz" t_LETTERS)
  t_MAX_LETTERS : Tok
  c_MAX_LETTERS : mg "MAX_LETTERS" = some (.int 8 t_MAX_LETTERS)
  t_MAX_SIDE : Tok
  c_MAX_SIDE : mg "MAX_SIDE" = some (.int 1000000000000000000000000000000 t_MAX_SIDE)
section
variable {P : Program} {w : World} {K : PySem.W.Frag} {mg : Str → Option Value} {base : Heap}
structure OkAll (P : Program) (w : World) (K : PySem.W.Frag) (mg : Str → Option Value) (base : Heap) (T : Tx K mg) (n : Nat) : Prop where
  is_whole : FnOk P w K mg base (L2.CX P w) n T.a_is_whole T.d_is_whole ["value"] (spOf K mg 1 (callT n 0))
  is_name : FnOk P w K mg base (L2.CX P w) n T.a_is_name T.d_is_name ["value"] (spOf K mg 1 (callT n 1))
  is_size : FnOk P w K mg base (L2.CX P w) n T.a_is_size T.d_is_size ["value"] (spOf K mg 1 (callT n 2))
  law_numbers : FnOk P w K mg base (L2.CX P w) n T.a_law_numbers T.d_law_numbers ["script", "at"] (spOf K mg 2 (callT n 3))
  law_cast : FnOk P w K mg base (L2.CX P w) n T.a_law_cast T.d_law_cast ["die", "total"] (spOf K mg 2 (callT n 4))
  law_pick : FnOk P w K mg base (L2.CX P w) n T.a_law_pick T.d_law_pick ["die", "items"] (spOf K mg 2 (callT n 5))
  law_bent_tuple : FnOk P w K mg base (L2.CX P w) n T.a_law_bent_tuple T.d_law_bent_tuple ["die", "items", "odd"] (spOf K mg 3 (callT n 6))
  law_is_word : FnOk P w K mg base (L2.CX P w) n T.a_law_is_word T.d_law_is_word ["value"] (spOf K mg 1 (callT n 7))
  law_is_number : FnOk P w K mg base (L2.CX P w) n T.a_law_is_number T.d_law_is_number ["value", "low", "high"] (spOf K mg 3 (callT n 8))
  law_odd_one : FnOk P w K mg base (L2.CX P w) n T.a_law_odd_one T.d_law_odd_one ["die"] (spOf K mg 1 (callT n 9))
  law_is_three : FnOk P w K mg base (L2.CX P w) n T.a_law_is_three T.d_law_is_three ["value"] (spOf K mg 1 (callT n 10))
  law_words_right : FnOk P w K mg base (L2.CX P w) n T.a_law_words_right T.d_law_words_right ["die"] (spOf K mg 1 (callT n 11))
  law_sizes_right : FnOk P w K mg base (L2.CX P w) n T.a_law_sizes_right T.d_law_sizes_right ["die"] (spOf K mg 1 (callT n 12))
  law : FnOk P w K mg base (L2.CX P w) n T.a_law T.d_law ["script"] (spOf K mg 1 (callT n 13))
theorem ok_is_whole (T : Tx K mg) {n : Nat} (hh : OkAll P w K mg base T n) : FnOk P w K mg base (L2.CX P w) (n + 1) T.a_is_whole T.d_is_whole ["value"] (spOf K mg 1 (callT (n + 1) 0)) := by
  refine Fun.ok3 (n := 1) T.F_is_whole sc_is_whole rfl rfl fun cdv A outer s H E hr => ?_
  have hu64 := hr.units
  have hu65 : (A.deeper (envOfC "is_whole" (defScope s_is_whole) s.heap.objs.size T.a_is_whole cdv)).units + 65 < cLine := by have := hr.un; omega
  have tk : Takes (cxOf (L2.CX P w) P w K mg base N_is_whole "is_whole" (defScope s_is_whole) T.a_is_whole cdv A outer s H E) (fun cls d _ H => E cls d H) := takes_of rfl rfl rfl rfl
  exact (s_one (s_ret (q_andV (q_isi (by rfl) T.m_isinstance (by rfl) T.m_int bt_int (q_v (i := 0))) (q_one (q_notV (q_isi (by rfl) T.m_isinstance (by rfl) T.m_bool bt_bool (q_v (i := 0))))))))
theorem ok_is_name (T : Tx K mg) {n : Nat} (hh : OkAll P w K mg base T n) : FnOk P w K mg base (L2.CX P w) (n + 1) T.a_is_name T.d_is_name ["value"] (spOf K mg 1 (callT (n + 1) 1)) := by
  refine Fun.ok3 (n := 2) T.F_is_name sc_is_name rfl rfl fun cdv A outer s H E hr => ?_
  have hu64 := hr.units
  have hu65 : (A.deeper (envOfC "is_name" (defScope s_is_name) s.heap.objs.size T.a_is_name cdv)).units + 65 < cLine := by have := hr.un; omega
  have tk : Takes (cxOf (L2.CX P w) P w K mg base N_is_name "is_name" (defScope s_is_name) T.a_is_name cdv A outer s H E) (fun cls d _ H => E cls d H) := takes_of rfl rfl rfl rfl
  exact (s_cons (s_if (PW.pt (w_or (q_tnot (q_tr (q_isi (by rfl) T.m_isinstance (by rfl) T.m_str bt_str (q_v (i := 0))))) (w_or1 (q_tnot (q_tchain o_le o_le q_int (q_callB f_len (by rfl) T.m_len bt_len (q_cons (q_v (i := 0)) q_nil)) (q_gint (by rfl) T.c_MAX_LETTERS)))))) (s_one (s_ret q_bl)) s_nil)
    (s_one (s_ret (q_callB (f_all rfl) (by rfl) T.m_all bt_all (q_cons (q_lc (own := [("letter", 1)]) rfl sc_is_name.nd (i_str (q_v (i := 0))) (blkOk_by (own := [("letter", 1)]) (N := N_is_name) (sc := defScope s_is_name) (by decide +kernel)) (fun _ _ _ _ _ => (pg_name (i := 1) sc_is_name.nd rfl (Or.inl rfl))) (kg_name) (by decide) (fun _ _ _ _ _ => c_nil) (fun _ _ _ _ _ => (q_cmp (o_in hu65) (q_v (i := 1)) (q_gstr (by rfl) T.c_LETTERS) (by rfl)))) q_nil)))))
theorem ok_is_size (T : Tx K mg) {n : Nat} (hh : OkAll P w K mg base T n) : FnOk P w K mg base (L2.CX P w) (n + 1) T.a_is_size T.d_is_size ["value"] (spOf K mg 1 (callT (n + 1) 2)) := by
  refine Fun.ok3 (n := 5) T.F_is_size sc_is_size rfl rfl fun cdv A outer s H E hr => ?_
  have hu64 := hr.units
  have hu65 : (A.deeper (envOfC "is_size" (defScope s_is_size) s.heap.objs.size T.a_is_size cdv)).units + 65 < cLine := by have := hr.un; omega
  have tk : Takes (cxOf (L2.CX P w) P w K mg base N_is_size "is_size" (defScope s_is_size) T.a_is_size cdv A outer s H E) (fun cls d _ H => E cls d H) := takes_of rfl rfl rfl rfl
  exact (s_cons (s_if (PW.pt (w_or (q_tnot (q_tr (q_isi (by rfl) T.m_isinstance (by rfl) T.m_tuple bt_tuple (q_v (i := 0))))) (w_or1 (q_tcmp (o_ne hu64) (q_callB f_len (by rfl) T.m_len bt_len (q_cons (q_v (i := 0)) q_nil)) q_int (nomark _))))) (s_one (s_ret q_bl)) s_nil)
    (s_cons (s_if (q_tnot (q_tr (q_callB (f_all rfl) (by rfl) T.m_all bt_all (q_cons (q_lc (own := [("item", 4)]) rfl sc_is_size.nd (i_tup (q_v (i := 0))) (blkOk_by (own := [("item", 4)]) (N := N_is_size) (sc := defScope s_is_size) (by decide +kernel)) (fun _ _ _ _ _ => (pg_name (i := 4) sc_is_size.nd rfl (Or.inl rfl))) (kg_name) (by decide) (fun _ _ _ _ _ => c_nil) (fun _ _ _ _ _ => (q_call takes0 hh.is_whole hr (by rfl) T.g_is_whole T.F_is_whole.kp T.b_is_whole (q_cons (q_v (i := 4)) q_nil) rfl (kA1_len kA0_len)))) q_nil)))) (s_one (s_ret q_bl)) s_nil)
    (s_cons (s_asg (t_tup rfl (ts_cons (t_name (i := 1) sc_is_size.nd rfl (by first | exact Or.inl rfl | exact Or.inr rfl)) (ts_cons (t_name (i := 2) sc_is_size.nd rfl (by first | exact Or.inl rfl | exact Or.inr rfl)) (ts_cons (t_name (i := 3) sc_is_size.nd rfl (by first | exact Or.inl rfl | exact Or.inr rfl)) ts_nil)))) (q_v (i := 0)))
    (s_one (s_ret (q_andV (q_chain o_le o_le q_int (q_v (i := 1)) (q_gint (by rfl) T.c_MAX_SIDE)) (q_andV (q_chain o_le o_le q_int (q_v (i := 2)) (q_gint (by rfl) T.c_MAX_SIDE)) (q_one (q_chain o_le o_le q_int (q_v (i := 3)) (q_gint (by rfl) T.c_MAX_SIDE))))))))))
theorem ok_law_numbers (T : Tx K mg) {n : Nat} (hh : OkAll P w K mg base T n) : FnOk P w K mg base (L2.CX P w) (n + 1) T.a_law_numbers T.d_law_numbers ["script", "at"] (spOf K mg 2 (callT (n + 1) 3)) := by
  refine Fun.ok3 (n := 5) T.F_law_numbers sc_law_numbers rfl rfl fun cdv A outer s H E hr => ?_
  have hu64 := hr.units
  have hu65 : (A.deeper (envOfC "_law_numbers" (defScope s_law_numbers) s.heap.objs.size T.a_law_numbers cdv)).units + 65 < cLine := by have := hr.un; omega
  have tk : Takes (cxOf (L2.CX P w) P w K mg base N_law_numbers "_law_numbers" (defScope s_law_numbers) T.a_law_numbers cdv A outer s H E) (fun cls d _ H => E cls d H) := takes_of rfl rfl rfl rfl
  exact (s_cons (s_set (i := 2) sc_law_numbers.nd rfl (by first | exact Or.inl rfl | exact Or.inr rfl) (q_if (q_tcmp o_lt (q_v (i := 1)) (q_callB f_len (by rfl) T.m_len bt_len (q_cons (q_v (i := 0)) q_nil)) (nomark _)) (q_ix x_ix (q_v (i := 0)) (q_v (i := 1)) (fun _ _ => rfl)) (q_op o_add (q_op o_mul q_int (q_v (i := 1))) q_int)))
    (s_cons (s_set (i := 3) sc_law_numbers.nd rfl (by first | exact Or.inl rfl | exact Or.inr rfl) (q_op o_mod (q_callTy f_int (by rfl) T.m_int bt_int (q_cons (q_callB f_abs (by rfl) T.m_abs bt_abs (q_cons (q_v (i := 2)) q_nil)) q_nil)) (q_op o_pow (q_op o_pow q_int q_int) q_int)))
    (s_cons (s_set (i := 4) sc_law_numbers.nd rfl (by first | exact Or.inl rfl | exact Or.inr rfl) (q_op o_add (q_op o_add (q_op o_add (q_op o_mul (q_v (i := 3)) q_int) (q_op o_mul q_int (q_v (i := 1)))) (q_op o_mul q_int (q_callTy f_int (by rfl) T.m_int bt_int (q_cons (q_cmp o_lt (q_v (i := 2)) q_int (nomark _)) q_nil)))) q_int))
    (s_one (s_ret (q_lst (q_cons (q_callB (f_max rfl) (by rfl) T.m_max bt_max (q_cons q_int (q_cons (q_op o_sub (q_v (i := 3)) (q_op o_pow q_int q_int)) q_nil))) (q_cons (q_op o_mod (q_callTy f_int (by rfl) T.m_int bt_int (q_cons (q_v (i := 4)) q_nil)) q_int) (q_cons q_int q_nil)))))))))
theorem ok_law_cast (T : Tx K mg) {n : Nat} (hh : OkAll P w K mg base T n) : FnOk P w K mg base (L2.CX P w) (n + 1) T.a_law_cast T.d_law_cast ["die", "total"] (spOf K mg 2 (callT (n + 1) 4)) := by
  refine Fun.ok3 (n := 5) T.F_law_cast sc_law_cast rfl rfl fun cdv A outer s H E hr => ?_
  have hu64 := hr.units
  have hu65 : (A.deeper (envOfC "_law_cast" (defScope s_law_cast) s.heap.objs.size T.a_law_cast cdv)).units + 65 < cLine := by have := hr.un; omega
  have tk : Takes (cxOf (L2.CX P w) P w K mg base N_law_cast "_law_cast" (defScope s_law_cast) T.a_law_cast cdv A outer s H E) (fun cls d _ H => E cls d H) := takes_of rfl rfl rfl rfl
  exact (s_cons (s_if (q_tcmp o_gt (q_ix x_ix (q_v (i := 0)) q_int (fun _ _ => rfl)) q_int (nomark _)) (s_cons (s_set (i := 4) sc_law_cast.nd rfl (by first | exact Or.inl rfl | exact Or.inr rfl) (q_op o_mod (q_callTy f_int (by rfl) T.m_int bt_int (q_cons (q_ix x_ix (q_v (i := 0)) q_int (fun _ _ => rfl)) q_nil)) (q_v (i := 1))))
    (s_cons (s_setix set_list setL_ok (q_v (i := 0)) q_int (q_op o_fdiv (q_ix x_ix (q_v (i := 0)) q_int (fun _ _ => rfl)) (q_v (i := 1))))
    (s_one (s_ret (q_v (i := 4)))))) s_nil)
    (s_cons (s_setix set_list setL_ok (q_v (i := 0)) q_int (q_op o_add (q_ix x_ix (q_v (i := 0)) q_int (fun _ _ => rfl)) q_int))
    (s_cons (s_set (i := 2) sc_law_cast.nd rfl (by first | exact Or.inl rfl | exact Or.inr rfl) (q_op o_mod (q_callTy f_int (by rfl) T.m_int bt_int (q_cons (q_op o_add (q_ix x_ix (q_v (i := 0)) q_int (fun _ _ => rfl)) (q_op o_mul q_int (q_ix x_ix (q_v (i := 0)) q_int (fun _ _ => rfl)))) q_nil)) q_int))
    (s_cons (s_set (i := 3) sc_law_cast.nd rfl (by first | exact Or.inl rfl | exact Or.inr rfl) (q_op o_add (q_op o_mul (q_op o_mod (q_callTy f_int (by rfl) T.m_int bt_int (q_cons (q_op o_mul (q_v (i := 2)) (q_v (i := 2))) q_nil)) q_int) (q_v (i := 2))) (q_op o_mul q_int (q_ix x_ix (q_v (i := 0)) q_int (fun _ _ => rfl)))))
    (s_one (s_ret (q_op o_mod (q_callTy f_int (by rfl) T.m_int bt_int (q_cons (q_op o_fdiv (q_op o_mod (q_callTy f_int (by rfl) T.m_int bt_int (q_cons (q_op o_add (q_v (i := 3)) (q_ix x_ix (q_v (i := 0)) q_int (fun _ _ => rfl))) q_nil)) q_int) q_int) q_nil)) (q_v (i := 1)))))))))
theorem ok_law_pick (T : Tx K mg) {n : Nat} (hh : OkAll P w K mg base T n) : FnOk P w K mg base (L2.CX P w) (n + 1) T.a_law_pick T.d_law_pick ["die", "items"] (spOf K mg 2 (callT (n + 1) 5)) := by
  refine Fun.ok3 (n := 2) T.F_law_pick sc_law_pick rfl rfl fun cdv A outer s H E hr => ?_
  have hu64 := hr.units
  have hu65 : (A.deeper (envOfC "_law_pick" (defScope s_law_pick) s.heap.objs.size T.a_law_pick cdv)).units + 65 < cLine := by have := hr.un; omega
  have tk : Takes (cxOf (L2.CX P w) P w K mg base N_law_pick "_law_pick" (defScope s_law_pick) T.a_law_pick cdv A outer s H E) (fun cls d _ H => E cls d H) := takes_of rfl rfl rfl rfl
  exact (s_one (s_ret (q_ix x_ix (q_v (i := 1)) (q_call tk hh.law_cast hr (by rfl) T.g_law_cast T.F_law_cast.kp T.b_law_cast (q_cons (q_v (i := 0)) (q_cons (q_callB f_len (by rfl) T.m_len bt_len (q_cons (q_v (i := 1)) q_nil)) q_nil)) rfl (kA1_len (kA1_len kA0_len))) (fun _ _ => rfl))))
theorem ok_law_bent_tuple (T : Tx K mg) {n : Nat} (hh : OkAll P w K mg base T n) : FnOk P w K mg base (L2.CX P w) (n + 1) T.a_law_bent_tuple T.d_law_bent_tuple ["die", "items", "odd"] (spOf K mg 3 (callT (n + 1) 6)) := by
  refine Fun.ok3 (n := 5) T.F_law_bent_tuple sc_law_bent_tuple rfl rfl fun cdv A outer s H E hr => ?_
  have hu64 := hr.units
  have hu65 : (A.deeper (envOfC "_law_bent_tuple" (defScope s_law_bent_tuple) s.heap.objs.size T.a_law_bent_tuple cdv)).units + 65 < cLine := by have := hr.un; omega
  have tk : Takes (cxOf (L2.CX P w) P w K mg base N_law_bent_tuple "_law_bent_tuple" (defScope s_law_bent_tuple) T.a_law_bent_tuple cdv A outer s H E) (fun cls d _ H => E cls d H) := takes_of rfl rfl rfl rfl
  exact (s_cons (s_set (i := 3) sc_law_bent_tuple.nd rfl (by first | exact Or.inl rfl | exact Or.inr rfl) (q_if (q_tcmp (o_ne hu64) (q_v (i := 1)) (q_tup q_nil) (nomark _)) (q_call tk hh.law_cast hr (by rfl) T.g_law_cast T.F_law_cast.kp T.b_law_cast (q_cons (q_v (i := 0)) (q_cons (q_callB f_len (by rfl) T.m_len bt_len (q_cons (q_v (i := 1)) q_nil)) q_nil)) rfl (kA1_len (kA1_len kA0_len))) q_int))
    (s_cons (s_set (i := 4) sc_law_bent_tuple.nd rfl (by first | exact Or.inl rfl | exact Or.inr rfl) (q_lst (q_cons (q_op o_add (q_op o_add (q_slice (q_v (i := 1)) o_none (o_some (q_v (i := 3)))) (q_tup (q_cons (q_v (i := 2)) q_nil))) (q_slice (q_v (i := 1)) (o_some (q_op o_add (q_v (i := 3)) q_int)) o_none)) q_nil)))
    (s_cons (s_expr (q_bm PySem.F.plainAttrs_list PySem.F.slot_list_append PySem.F.type_list_append m_append (q_v (i := 4)) (q_cons (q_op o_add (q_slice (q_v (i := 1)) o_none (o_some (q_v (i := 3)))) (q_slice (q_v (i := 1)) (o_some (q_op o_add (q_v (i := 3)) q_int)) o_none)) q_nil)))
    (s_cons (s_set (i := 4) sc_law_bent_tuple.nd rfl (by first | exact Or.inl rfl | exact Or.inr rfl) (q_op o_add (q_v (i := 4)) (q_lst (q_cons (q_op o_add (q_slice (q_v (i := 1)) o_none (o_some (q_op o_add (q_v (i := 3)) q_int))) (q_slice (q_v (i := 1)) (o_some (q_v (i := 3))) o_none)) (q_cons (q_rev (q_v (i := 1))) (q_cons (q_callTy f_list (by rfl) T.m_list bt_list (q_cons (q_v (i := 1)) q_nil)) q_nil))))))
    (s_cons (s_set (i := 4) sc_law_bent_tuple.nd rfl (by first | exact Or.inl rfl | exact Or.inr rfl) (q_op o_add (q_v (i := 4)) (q_lst (q_cons (q_op o_add (q_v (i := 1)) (q_tup (q_cons (q_v (i := 2)) q_nil))) (q_cons (q_op o_add (q_tup (q_cons (q_v (i := 2)) q_nil)) (q_v (i := 1))) (q_cons (q_v (i := 2)) q_nil))))))
    (s_one (s_ret (q_call tk hh.law_pick hr (by rfl) T.g_law_pick T.F_law_pick.kp T.b_law_pick (q_cons (q_v (i := 0)) (q_cons (q_v (i := 4)) q_nil)) rfl (kA1_len (kA1_len kA0_len))))))))))
theorem ok_law_is_word (T : Tx K mg) {n : Nat} (hh : OkAll P w K mg base T n) : FnOk P w K mg base (L2.CX P w) (n + 1) T.a_law_is_word T.d_law_is_word ["value"] (spOf K mg 1 (callT (n + 1) 7)) := by
  refine Fun.ok3 (n := 2) T.F_law_is_word sc_law_is_word rfl rfl fun cdv A outer s H E hr => ?_
  have hu64 := hr.units
  have hu65 : (A.deeper (envOfC "_law_is_word" (defScope s_law_is_word) s.heap.objs.size T.a_law_is_word cdv)).units + 65 < cLine := by have := hr.un; omega
  have tk : Takes (cxOf (L2.CX P w) P w K mg base N_law_is_word "_law_is_word" (defScope s_law_is_word) T.a_law_is_word cdv A outer s H E) (fun cls d _ H => E cls d H) := takes_of rfl rfl rfl rfl
  exact (s_cons (s_if (PW.pt (w_or (q_tnot (q_tr (q_isi (by rfl) T.m_isinstance (by rfl) T.m_str bt_str (q_v (i := 0))))) (w_or1 (q_tnot (q_tchain o_le o_le q_int (q_callB f_len (by rfl) T.m_len bt_len (q_cons (q_v (i := 0)) q_nil)) q_int))))) (s_one (s_ret q_bl)) s_nil)
    (s_one (s_ret (q_cmp (o_eq hu64) (q_lc (own := [("one", 1)]) rfl sc_law_is_word.nd (i_str (q_v (i := 0))) (blkOk_by (own := [("one", 1)]) (N := N_law_is_word) (sc := defScope s_law_is_word) (by decide +kernel)) (fun _ _ _ _ _ => (pg_name (i := 1) sc_law_is_word.nd rfl (Or.inl rfl))) (kg_name) (by decide) (fun _ _ _ _ _ => c_one (q_tnot (q_tchain o_le o_le q_str (q_v (i := 1)) q_str))) (fun _ _ _ _ _ => (q_v (i := 1)))) (q_lst q_nil) (nomark _)))))
theorem ok_law_is_number (T : Tx K mg) {n : Nat} (hh : OkAll P w K mg base T n) : FnOk P w K mg base (L2.CX P w) (n + 1) T.a_law_is_number T.d_law_is_number ["value", "low", "high"] (spOf K mg 3 (callT (n + 1) 8)) := by
  refine Fun.ok3 (n := 3) T.F_law_is_number sc_law_is_number rfl rfl fun cdv A outer s H E hr => ?_
  have hu64 := hr.units
  have hu65 : (A.deeper (envOfC "_law_is_number" (defScope s_law_is_number) s.heap.objs.size T.a_law_is_number cdv)).units + 65 < cLine := by have := hr.un; omega
  have tk : Takes (cxOf (L2.CX P w) P w K mg base N_law_is_number "_law_is_number" (defScope s_law_is_number) T.a_law_is_number cdv A outer s H E) (fun cls d _ H => E cls d H) := takes_of rfl rfl rfl rfl
  exact (s_one (s_ret (q_andV (q_isi (by rfl) T.m_isinstance (by rfl) T.m_int bt_int (q_v (i := 0))) (q_andV (q_notV (q_isi (by rfl) T.m_isinstance (by rfl) T.m_bool bt_bool (q_v (i := 0)))) (q_one (q_chain o_le o_le (q_v (i := 1)) (q_v (i := 0)) (q_v (i := 2))))))))
theorem ok_law_odd_one (T : Tx K mg) {n : Nat} (hh : OkAll P w K mg base T n) : FnOk P w K mg base (L2.CX P w) (n + 1) T.a_law_odd_one T.d_law_odd_one ["die"] (spOf K mg 1 (callT (n + 1) 9)) := by
  refine Fun.ok3 (n := 2) T.F_law_odd_one sc_law_odd_one rfl rfl fun cdv A outer s H E hr => ?_
  have hu64 := hr.units
  have hu65 : (A.deeper (envOfC "_law_odd_one" (defScope s_law_odd_one) s.heap.objs.size T.a_law_odd_one cdv)).units + 65 < cLine := by have := hr.un; omega
  have tk : Takes (cxOf (L2.CX P w) P w K mg base N_law_odd_one "_law_odd_one" (defScope s_law_odd_one) T.a_law_odd_one cdv A outer s H E) (fun cls d _ H => E cls d H) := takes_of rfl rfl rfl rfl
  exact (s_cons (s_set (i := 1) sc_law_odd_one.nd rfl (by first | exact Or.inl rfl | exact Or.inr rfl) (q_lst (q_cons q_non (q_cons q_int (q_cons q_int (q_cons q_int (q_cons q_int (q_cons (q_un o_neg q_int) (q_cons q_bl (q_cons q_bl (q_cons q_str (q_cons q_str (q_cons q_str (q_cons q_str (q_cons (q_tup q_nil) (q_cons (q_tup (q_cons q_int q_nil)) (q_cons (q_tup (q_cons q_int (q_cons q_int q_nil))) (q_cons (q_tup (q_cons q_int (q_cons q_int q_nil))) (q_cons (q_lst (q_cons q_int q_nil)) (q_cons q_dict0 (q_cons q_str q_nil)))))))))))))))))))))
    (s_cons (s_set (i := 1) sc_law_odd_one.nd rfl (by first | exact Or.inl rfl | exact Or.inr rfl) (q_op o_add (q_v (i := 1)) (q_lst (q_cons (q_op o_pow q_int q_int) (q_cons (q_tup (q_cons q_non q_nil)) (q_cons (q_tup (q_cons q_int (q_cons q_int (q_cons q_str q_nil)))) (q_cons (q_tup (q_cons q_int (q_cons q_int (q_cons q_str q_nil)))) (q_cons (q_tup (q_cons q_int (q_cons q_int (q_cons q_int q_nil)))) (q_cons (q_tup (q_cons q_int (q_cons q_int (q_cons q_int q_nil)))) (q_cons (q_tup (q_cons q_str (q_cons q_int q_nil))) (q_cons (q_lst (q_cons (q_tup (q_cons q_int (q_cons q_int q_nil))) q_nil)) q_nil)))))))))))
    (s_one (s_ret (q_call tk hh.law_pick hr (by rfl) T.g_law_pick T.F_law_pick.kp T.b_law_pick (q_cons (q_v (i := 0)) (q_cons (q_v (i := 1)) q_nil)) rfl (kA1_len (kA1_len kA0_len)))))))
theorem ok_law_is_three (T : Tx K mg) {n : Nat} (hh : OkAll P w K mg base T n) : FnOk P w K mg base (L2.CX P w) (n + 1) T.a_law_is_three T.d_law_is_three ["value"] (spOf K mg 1 (callT (n + 1) 10)) := by
  refine Fun.ok3 (n := 1) T.F_law_is_three sc_law_is_three rfl rfl fun cdv A outer s H E hr => ?_
  have hu64 := hr.units
  have hu65 : (A.deeper (envOfC "_law_is_three" (defScope s_law_is_three) s.heap.objs.size T.a_law_is_three cdv)).units + 65 < cLine := by have := hr.un; omega
  have tk : Takes (cxOf (L2.CX P w) P w K mg base N_law_is_three "_law_is_three" (defScope s_law_is_three) T.a_law_is_three cdv A outer s H E) (fun cls d _ H => E cls d H) := takes_of rfl rfl rfl rfl
  exact (s_cons (s_if (PW.pt (w_or (q_tnot (q_tr (q_isi (by rfl) T.m_isinstance (by rfl) T.m_tuple bt_tuple (q_v (i := 0))))) (w_or1 (q_tcmp (o_ne hu64) (q_callB f_len (by rfl) T.m_len bt_len (q_cons (q_v (i := 0)) q_nil)) q_int (nomark _))))) (s_one (s_ret q_bl)) s_nil)
    (s_cons (s_if (PW.pt (w_or (q_tnot (q_tr (q_call tk hh.law_is_number hr (by rfl) T.g_law_is_number T.F_law_is_number.kp T.b_law_is_number (q_cons (q_ix x_ix (q_v (i := 0)) q_int (fun _ _ => rfl)) (q_cons q_int (q_cons (q_op o_pow q_int q_int) q_nil))) rfl (kA1_len (kA1_len (kA1_len kA0_len)))))) (w_or1 (q_tnot (q_tr (q_call tk hh.law_is_number hr (by rfl) T.g_law_is_number T.F_law_is_number.kp T.b_law_is_number (q_cons (q_ix x_ix (q_v (i := 0)) q_int (fun _ _ => rfl)) (q_cons q_int (q_cons (q_op o_pow q_int q_int) q_nil))) rfl (kA1_len (kA1_len (kA1_len kA0_len))))))))) (s_one (s_ret q_bl)) s_nil)
    (s_one (s_ret (q_call tk hh.law_is_number hr (by rfl) T.g_law_is_number T.F_law_is_number.kp T.b_law_is_number (q_cons (q_ix x_ix (q_v (i := 0)) q_int (fun _ _ => rfl)) (q_cons q_int (q_cons (q_op o_pow q_int q_int) q_nil))) rfl (kA1_len (kA1_len (kA1_len kA0_len))))))))
theorem ok_law_words_right (T : Tx K mg) {n : Nat} (hh : OkAll P w K mg base T n) : FnOk P w K mg base (L2.CX P w) (n + 1) T.a_law_words_right T.d_law_words_right ["die"] (spOf K mg 1 (callT (n + 1) 11)) := by
  refine Fun.ok3 (n := 8) T.F_law_words_right sc_law_words_right rfl rfl fun cdv A outer s H E hr => ?_
  have hu64 := hr.units
  have hu65 : (A.deeper (envOfC "_law_words_right" (defScope s_law_words_right) s.heap.objs.size T.a_law_words_right cdv)).units + 65 < cLine := by have := hr.un; omega
  have tk : Takes (cxOf (L2.CX P w) P w K mg base N_law_words_right "_law_words_right" (defScope s_law_words_right) T.a_law_words_right cdv A outer s H E) (fun cls d _ H => E cls d H) := takes_of rfl rfl rfl rfl
  exact (s_cons (s_set (i := 1) sc_law_words_right.nd rfl (by first | exact Or.inl rfl | exact Or.inr rfl) q_str)
    (s_cons (s_set (i := 2) sc_law_words_right.nd rfl (by first | exact Or.inl rfl | exact Or.inr rfl) (q_bm PySem.F.plainAttrs_str PySem.F.slot_str_join PySem.F.type_str_join m_join q_str (q_cons (q_lc (own := [("turn", 7)]) rfl sc_law_words_right.nd (i_rng1 (by rfl) T.m_range (q_cons (q_call tk hh.law_cast hr (by rfl) T.g_law_cast T.F_law_cast.kp T.b_law_cast (q_cons (q_v (i := 0)) (q_cons q_int q_nil)) rfl (kA1_len (kA1_len kA0_len))) q_nil)) (blkOk_by (own := [("turn", 7)]) (N := N_law_words_right) (sc := defScope s_law_words_right) (by decide +kernel)) (fun _ _ _ _ _ => (pg_name (i := 7) sc_law_words_right.nd rfl (Or.inl rfl))) (kg_name) (by decide) (fun _ _ _ _ _ => c_nil) (fun _ _ _ _ _ => (q_call takes0 hh.law_pick hr (by rfl) T.g_law_pick T.F_law_pick.kp T.b_law_pick (q_cons (q_v (i := 0)) (q_cons (q_v (i := 1)) q_nil)) rfl (kA1_len (kA1_len kA0_len))))) q_nil)))
    (s_cons (s_par2 (i := 3) (j := 4) rfl sc_law_words_right.nd rfl rfl (by decide) rfl rfl (q_call tk hh.law_cast hr (by rfl) T.g_law_cast T.F_law_cast.kp T.b_law_cast (q_cons (q_v (i := 0)) (q_cons (q_op o_add (q_callB f_len (by rfl) T.m_len bt_len (q_cons (q_v (i := 2)) q_nil)) q_int) q_nil)) rfl (kA1_len (kA1_len kA0_len))) (q_call tk hh.law_pick hr (by rfl) T.g_law_pick T.F_law_pick.kp T.b_law_pick (q_cons (q_v (i := 0)) (q_cons (q_lst (q_cons q_str (q_cons q_str (q_cons q_str (q_cons q_str (q_cons q_str (q_cons q_str (q_cons q_str (q_cons q_str (q_cons q_str (q_cons q_str q_nil))))))))))) q_nil)) rfl (kA1_len (kA1_len kA0_len))))
    (s_cons (s_set (i := 5) sc_law_words_right.nd rfl (by first | exact Or.inl rfl | exact Or.inr rfl) (q_lst (q_cons (q_v (i := 2)) (q_cons (q_op o_add (q_op o_add (q_slice (q_v (i := 2)) o_none (o_some (q_v (i := 3)))) (q_v (i := 4))) (q_slice (q_v (i := 2)) (o_some (q_v (i := 3))) o_none)) (q_cons (q_slice (q_v (i := 2)) o_none (o_some (q_v (i := 3)))) (q_cons (q_bm0 PySem.F.plainAttrs_str PySem.F.slot_str_upper PySem.F.type_str_upper m_upper (q_v (i := 2))) (q_cons (q_op o_add (q_v (i := 2)) (q_v (i := 2))) (q_cons (q_lst (q_cons (q_v (i := 2)) q_nil)) (q_cons (q_tup (q_cons (q_v (i := 2)) q_nil)) (q_cons (q_call tk hh.law_odd_one hr (by rfl) T.g_law_odd_one T.F_law_odd_one.kp T.b_law_odd_one (q_cons (q_v (i := 0)) q_nil) rfl (kA1_len kA0_len)) q_nil))))))))))
    (s_cons (s_for (passes_of rfl) rfl (i_list (q_v (i := 5))) (t_name (i := 6) sc_law_words_right.nd rfl (by first | exact Or.inl rfl | exact Or.inr rfl)) (s_one (s_if (q_tcmp (o_ne hu64) (q_callB f_repr (by rfl) T.m_repr bt_repr (q_cons (q_call tk hh.is_name hr (by rfl) T.g_is_name T.F_is_name.kp T.b_is_name (q_cons (q_v (i := 6)) q_nil) rfl (kA1_len kA0_len)) q_nil)) (q_callB f_repr (by rfl) T.m_repr bt_repr (q_cons (q_call tk hh.law_is_word hr (by rfl) T.g_law_is_word T.F_law_is_word.kp T.b_law_is_word (q_cons (q_v (i := 6)) q_nil) rfl (kA1_len kA0_len)) q_nil)) (nomark _)) (s_one (s_ret q_bl)) s_nil)))
    (s_one (s_ret q_bl)))))))
theorem ok_law_sizes_right (T : Tx K mg) {n : Nat} (hh : OkAll P w K mg base T n) : FnOk P w K mg base (L2.CX P w) (n + 1) T.a_law_sizes_right T.d_law_sizes_right ["die"] (spOf K mg 1 (callT (n + 1) 12)) := by
  refine Fun.ok3 (n := 5) T.F_law_sizes_right sc_law_sizes_right rfl rfl fun cdv A outer s H E hr => ?_
  have hu64 := hr.units
  have hu65 : (A.deeper (envOfC "_law_sizes_right" (defScope s_law_sizes_right) s.heap.objs.size T.a_law_sizes_right cdv)).units + 65 < cLine := by have := hr.un; omega
  have tk : Takes (cxOf (L2.CX P w) P w K mg base N_law_sizes_right "_law_sizes_right" (defScope s_law_sizes_right) T.a_law_sizes_right cdv A outer s H E) (fun cls d _ H => E cls d H) := takes_of rfl rfl rfl rfl
  exact (s_cons (s_set (i := 1) sc_law_sizes_right.nd rfl (by first | exact Or.inl rfl | exact Or.inr rfl) (q_lst (q_cons q_int (q_cons q_int (q_cons q_int (q_cons q_int (q_cons (q_op o_pow q_int q_int) (q_cons (q_op o_add (q_op o_pow q_int q_int) q_int) (q_cons q_int (q_cons (q_un o_neg q_int) (q_cons (q_op o_add (q_op o_pow q_int q_int) q_int) q_nil)))))))))))
    (s_cons (s_set (i := 2) sc_law_sizes_right.nd rfl (by first | exact Or.inl rfl | exact Or.inr rfl) (q_tup (q_cons (q_call tk hh.law_pick hr (by rfl) T.g_law_pick T.F_law_pick.kp T.b_law_pick (q_cons (q_v (i := 0)) (q_cons (q_v (i := 1)) q_nil)) rfl (kA1_len (kA1_len kA0_len))) (q_cons (q_call tk hh.law_pick hr (by rfl) T.g_law_pick T.F_law_pick.kp T.b_law_pick (q_cons (q_v (i := 0)) (q_cons (q_v (i := 1)) q_nil)) rfl (kA1_len (kA1_len kA0_len))) (q_cons (q_call tk hh.law_pick hr (by rfl) T.g_law_pick T.F_law_pick.kp T.b_law_pick (q_cons (q_v (i := 0)) (q_cons (q_lst (q_cons q_int (q_cons q_int (q_cons q_int (q_cons q_int (q_cons (q_op o_pow q_int q_int) (q_cons (q_op o_add (q_op o_pow q_int q_int) q_int) (q_cons q_int q_nil)))))))) q_nil)) rfl (kA1_len (kA1_len kA0_len))) q_nil)))))
    (s_cons (s_set (i := 3) sc_law_sizes_right.nd rfl (by first | exact Or.inl rfl | exact Or.inr rfl) (q_lst (q_cons (q_v (i := 2)) (q_cons (q_callTy f_list (by rfl) T.m_list bt_list (q_cons (q_v (i := 2)) q_nil)) (q_cons (q_call tk hh.law_bent_tuple hr (by rfl) T.g_law_bent_tuple T.F_law_bent_tuple.kp T.b_law_bent_tuple (q_cons (q_v (i := 0)) (q_cons (q_v (i := 2)) (q_cons (q_call tk hh.law_odd_one hr (by rfl) T.g_law_odd_one T.F_law_odd_one.kp T.b_law_odd_one (q_cons (q_v (i := 0)) q_nil) rfl (kA1_len kA0_len)) q_nil))) rfl (kA1_len (kA1_len (kA1_len kA0_len)))) (q_cons (q_call tk hh.law_bent_tuple hr (by rfl) T.g_law_bent_tuple T.F_law_bent_tuple.kp T.b_law_bent_tuple (q_cons (q_v (i := 0)) (q_cons (q_tup (q_cons q_int (q_cons q_int (q_cons q_int q_nil)))) (q_cons q_non q_nil))) rfl (kA1_len (kA1_len (kA1_len kA0_len)))) q_nil))))))
    (s_cons (s_set (i := 3) sc_law_sizes_right.nd rfl (by first | exact Or.inl rfl | exact Or.inr rfl) (q_op o_add (q_v (i := 3)) (q_lst (q_cons (q_tup (q_cons q_int (q_cons q_int (q_cons q_int (q_cons q_int q_nil))))) (q_cons (q_tup (q_cons q_int (q_cons q_bl (q_cons q_int q_nil)))) (q_cons (q_tup (q_cons q_str (q_cons q_int (q_cons q_int q_nil)))) (q_cons (q_call tk hh.law_odd_one hr (by rfl) T.g_law_odd_one T.F_law_odd_one.kp T.b_law_odd_one (q_cons (q_v (i := 0)) q_nil) rfl (kA1_len kA0_len)) q_nil)))))))
    (s_cons (s_for (passes_of rfl) rfl (i_list (q_v (i := 3))) (t_name (i := 4) sc_law_sizes_right.nd rfl (by first | exact Or.inl rfl | exact Or.inr rfl)) (s_one (s_if (q_tcmp (o_ne hu64) (q_callB f_repr (by rfl) T.m_repr bt_repr (q_cons (q_call tk hh.is_size hr (by rfl) T.g_is_size T.F_is_size.kp T.b_is_size (q_cons (q_v (i := 4)) q_nil) rfl (kA1_len kA0_len)) q_nil)) (q_callB f_repr (by rfl) T.m_repr bt_repr (q_cons (q_call tk hh.law_is_three hr (by rfl) T.g_law_is_three T.F_law_is_three.kp T.b_law_is_three (q_cons (q_v (i := 4)) q_nil) rfl (kA1_len kA0_len)) q_nil)) (nomark _)) (s_one (s_ret q_bl)) s_nil)))
    (s_one (s_ret q_bl)))))))
theorem ok_law (T : Tx K mg) {n : Nat} (hh : OkAll P w K mg base T n) : FnOk P w K mg base (L2.CX P w) (n + 1) T.a_law T.d_law ["script"] (spOf K mg 1 (callT (n + 1) 13)) := by
  refine Fun.ok3 (n := 7) T.F_law sc_law rfl rfl fun cdv A outer s H E hr => ?_
  have hu64 := hr.units
  have hu65 : (A.deeper (envOfC "law" (defScope s_law) s.heap.objs.size T.a_law cdv)).units + 65 < cLine := by have := hr.un; omega
  have tk : Takes (cxOf (L2.CX P w) P w K mg base N_law "law" (defScope s_law) T.a_law cdv A outer s H E) (fun cls d _ H => E cls d H) := takes_of rfl rfl rfl rfl
  exact (s_cons (s_for (passes_of rfl) rfl (i_rng1 (by rfl) T.m_range (q_cons (q_callB (f_max rfl) (by rfl) T.m_max bt_max (q_cons q_int (q_cons (q_callB (f_min rfl) (by rfl) T.m_min bt_min (q_cons q_int (q_cons (q_callB f_len (by rfl) T.m_len bt_len (q_cons (q_v (i := 0)) q_nil)) q_nil))) q_nil))) q_nil)) (t_name (i := 1) sc_law.nd rfl (by first | exact Or.inl rfl | exact Or.inr rfl)) (s_cons (s_set (i := 3) sc_law.nd rfl (by first | exact Or.inl rfl | exact Or.inr rfl) (q_call tk hh.law_numbers hr (by rfl) T.g_law_numbers T.F_law_numbers.kp T.b_law_numbers (q_cons (q_v (i := 0)) (q_cons (q_v (i := 1)) q_nil)) rfl (kA1_len (kA1_len kA0_len))))
    (s_one (s_for (passes_of rfl) rfl (i_rng1 (by rfl) T.m_range (q_cons q_int q_nil)) (t_name (i := 4) sc_law.nd rfl (by first | exact Or.inl rfl | exact Or.inr rfl)) (s_one (s_if (PW.pt (w_or (q_tnot (q_tr (q_call tk hh.law_words_right hr (by rfl) T.g_law_words_right T.F_law_words_right.kp T.b_law_words_right (q_cons (q_v (i := 3)) q_nil) rfl (kA1_len kA0_len)))) (w_or1 (q_tnot (q_tr (q_call tk hh.law_sizes_right hr (by rfl) T.g_law_sizes_right T.F_law_sizes_right.kp T.b_law_sizes_right (q_cons (q_v (i := 3)) q_nil) rfl (kA1_len kA0_len))))))) (s_one (s_ret q_bl)) s_nil))))))
    (s_cons (s_setLc (i := 2) (own := [("word", 5)]) rfl sc_law.nd rfl rfl (sw_true rfl rfl rfl (by decide +kernel)) (i_tup (q_tup (q_cons q_str (q_cons q_str (q_cons q_str (q_cons q_str (q_cons q_str (q_cons q_str (q_cons q_str (q_cons q_str q_nil)))))))))) (blkOk_by (own := [("word", 5)]) (N := N_law) (sc := defScope s_law) (by decide +kernel)) (fun _ _ _ _ _ => (pg_name (i := 5) sc_law.nd rfl (Or.inl rfl))) (kg_name) (by decide) (fun _ _ _ _ _ => c_nil) (fun _ _ _ _ _ => (q_call takes0 hh.is_name hr (by rfl) T.g_is_name T.F_is_name.kp T.b_is_name (q_cons (q_v (i := 5)) q_nil) rfl (kA1_len kA0_len))))
    (s_cons (s_if (q_tcmp (o_ne hu64) (q_v (i := 2)) (q_lst (q_cons q_bl (q_cons q_bl (q_cons q_bl (q_cons q_bl (q_cons q_bl (q_cons q_bl (q_cons q_bl (q_cons q_bl q_nil))))))))) (nomark _)) (s_one (s_ret q_bl)) s_nil)
    (s_cons (s_setLc (i := 2) (own := [("value", 6)]) rfl sc_law.nd rfl rfl (sw_true rfl rfl rfl (by decide +kernel)) (i_tup (q_tup (q_cons (q_tup (q_cons q_int (q_cons q_int (q_cons q_int q_nil)))) (q_cons (q_tup (q_cons q_int (q_cons q_int (q_cons q_int q_nil)))) (q_cons (q_tup (q_cons (q_op o_pow q_int q_int) (q_cons q_int (q_cons (q_op o_pow q_int q_int) q_nil)))) (q_cons (q_tup (q_cons (q_op o_add (q_op o_pow q_int q_int) q_int) (q_cons q_int (q_cons q_int q_nil)))) (q_cons (q_tup (q_cons q_int (q_cons q_int (q_cons q_int q_nil)))) q_nil))))))) (blkOk_by (own := [("value", 6)]) (N := N_law) (sc := defScope s_law) (by decide +kernel)) (fun _ _ _ _ _ => (pg_name (i := 6) sc_law.nd rfl (Or.inl rfl))) (kg_name) (by decide) (fun _ _ _ _ _ => c_nil) (fun _ _ _ _ _ => (q_call takes0 hh.is_size hr (by rfl) T.g_is_size T.F_is_size.kp T.b_is_size (q_cons (q_v (i := 6)) q_nil) rfl (kA1_len kA0_len))))
    (s_one (s_ret (q_cmp (o_eq hu64) (q_v (i := 2)) (q_lst (q_cons q_bl (q_cons q_bl (q_cons q_bl (q_cons q_bl (q_cons q_bl q_nil)))))) (nomark _))))))))
theorem all_ok (T : Tx K mg) : ∀ n, OkAll P w K mg base T n
  | 0 => ⟨ok_bad rfl, ok_bad rfl, ok_bad rfl, ok_bad rfl, ok_bad rfl, ok_bad rfl, ok_bad rfl, ok_bad rfl, ok_bad rfl, ok_bad rfl, ok_bad rfl, ok_bad rfl, ok_bad rfl, ok_bad rfl⟩
  | n + 1 => have hh := all_ok T n
    ⟨ok_is_whole T hh, ok_is_name T hh, ok_is_size T hh, ok_law_numbers T hh, ok_law_cast T hh, ok_law_pick T hh, ok_law_bent_tuple T hh, ok_law_is_word T hh, ok_law_is_number T hh, ok_law_odd_one T hh, ok_law_is_three T hh, ok_law_words_right T hh, ok_law_sizes_right T hh, ok_law T hh⟩
end
theorem all_mk {l : PySem.W.OpenLaw} {w : World} {K : PySem.W.Frag} {h : Heap} {mg : Str → Option Value} {fa : Addr} (X : K.In h) (G : h.Ns mainGlobals mg) (hfa : mg "law" = some (.ref fa))
    {f0 f1 f2 f3 f4 f5 f6 f7 f8 f9 f10 f11 f12 f13 : Addr} {od0 an0 od1 an1 od2 an2 od3 an3 od4 an4 od5 an5 od6 an6 od7 an7 od8 an8 od9 an9 od10 an10 od11 an11 od12 an12 od13 an13 : Option Addr} {sl0 sl1 sl2 sl3 sl4 sl5 sl6 sl7 sl8 sl9 sl10 sl11 sl12 sl13 : Array (Option Value)} {oc0 kV0 dc0 pm0 cd0 ct0 oc1 kV1 dc1 pm1 cd1 ct1 oc2 kV2 dc2 pm2 cd2 ct2 oc3 kV3 dc3 pm3 cd3 ct3 oc4 kV4 dc4 pm4 cd4 ct4 oc5 kV5 dc5 pm5 cd5 ct5 oc6 kV6 dc6 pm6 cd6 ct6 oc7 kV7 dc7 pm7 cd7 ct7 oc8 kV8 dc8 pm8 cd8 ct8 oc9 kV9 dc9 pm9 cd9 ct9 oc10 kV10 dc10 pm10 cd10 ct10 oc11 kV11 dc11 pm11 cd11 ct11 oc12 kV12 dc12 pm12 cd12 ct12 oc13 kV13 dc13 pm13 cd13 ct13 : Value}
    (a0 : PySem.W.nsIn K mainGlobals "is_whole" = some (some (.ref f0))) (l0 : K.lookup f0 = some ⟨oc0, od0, .func (PySem.W.fnOf "is_whole" "is_whole" (defArgs s_is_whole) (defBody s_is_whole) (defScope s_is_whole) .none kV0 dc0 pm0 an0 cd0 ct0), sl0⟩) (c0 : PySem.W.codeIn K cd0 "is_whole" = true) (k0 : PySem.W.keepIn K (.ref f0) = true)
    (a1 : PySem.W.nsIn K mainGlobals "is_name" = some (some (.ref f1))) (l1 : K.lookup f1 = some ⟨oc1, od1, .func (PySem.W.fnOf "is_name" "is_name" (defArgs s_is_name) (defBody s_is_name) (defScope s_is_name) .none kV1 dc1 pm1 an1 cd1 ct1), sl1⟩) (c1 : PySem.W.codeIn K cd1 "is_name" = true) (k1 : PySem.W.keepIn K (.ref f1) = true)
    (a2 : PySem.W.nsIn K mainGlobals "is_size" = some (some (.ref f2))) (l2 : K.lookup f2 = some ⟨oc2, od2, .func (PySem.W.fnOf "is_size" "is_size" (defArgs s_is_size) (defBody s_is_size) (defScope s_is_size) .none kV2 dc2 pm2 an2 cd2 ct2), sl2⟩) (c2 : PySem.W.codeIn K cd2 "is_size" = true) (k2 : PySem.W.keepIn K (.ref f2) = true)
    (a3 : PySem.W.nsIn K mainGlobals "_law_numbers" = some (some (.ref f3))) (l3 : K.lookup f3 = some ⟨oc3, od3, .func (PySem.W.fnOf "_law_numbers" "_law_numbers" (defArgs s_law_numbers) (defBody s_law_numbers) (defScope s_law_numbers) .none kV3 dc3 pm3 an3 cd3 ct3), sl3⟩) (c3 : PySem.W.codeIn K cd3 "_law_numbers" = true) (k3 : PySem.W.keepIn K (.ref f3) = true)
    (a4 : PySem.W.nsIn K mainGlobals "_law_cast" = some (some (.ref f4))) (l4 : K.lookup f4 = some ⟨oc4, od4, .func (PySem.W.fnOf "_law_cast" "_law_cast" (defArgs s_law_cast) (defBody s_law_cast) (defScope s_law_cast) .none kV4 dc4 pm4 an4 cd4 ct4), sl4⟩) (c4 : PySem.W.codeIn K cd4 "_law_cast" = true) (k4 : PySem.W.keepIn K (.ref f4) = true)
    (a5 : PySem.W.nsIn K mainGlobals "_law_pick" = some (some (.ref f5))) (l5 : K.lookup f5 = some ⟨oc5, od5, .func (PySem.W.fnOf "_law_pick" "_law_pick" (defArgs s_law_pick) (defBody s_law_pick) (defScope s_law_pick) .none kV5 dc5 pm5 an5 cd5 ct5), sl5⟩) (c5 : PySem.W.codeIn K cd5 "_law_pick" = true) (k5 : PySem.W.keepIn K (.ref f5) = true)
    (a6 : PySem.W.nsIn K mainGlobals "_law_bent_tuple" = some (some (.ref f6))) (l6 : K.lookup f6 = some ⟨oc6, od6, .func (PySem.W.fnOf "_law_bent_tuple" "_law_bent_tuple" (defArgs s_law_bent_tuple) (defBody s_law_bent_tuple) (defScope s_law_bent_tuple) .none kV6 dc6 pm6 an6 cd6 ct6), sl6⟩) (c6 : PySem.W.codeIn K cd6 "_law_bent_tuple" = true) (k6 : PySem.W.keepIn K (.ref f6) = true)
    (a7 : PySem.W.nsIn K mainGlobals "_law_is_word" = some (some (.ref f7))) (l7 : K.lookup f7 = some ⟨oc7, od7, .func (PySem.W.fnOf "_law_is_word" "_law_is_word" (defArgs s_law_is_word) (defBody s_law_is_word) (defScope s_law_is_word) .none kV7 dc7 pm7 an7 cd7 ct7), sl7⟩) (c7 : PySem.W.codeIn K cd7 "_law_is_word" = true) (k7 : PySem.W.keepIn K (.ref f7) = true)
    (a8 : PySem.W.nsIn K mainGlobals "_law_is_number" = some (some (.ref f8))) (l8 : K.lookup f8 = some ⟨oc8, od8, .func (PySem.W.fnOf "_law_is_number" "_law_is_number" (defArgs s_law_is_number) (defBody s_law_is_number) (defScope s_law_is_number) .none kV8 dc8 pm8 an8 cd8 ct8), sl8⟩) (c8 : PySem.W.codeIn K cd8 "_law_is_number" = true) (k8 : PySem.W.keepIn K (.ref f8) = true)
    (a9 : PySem.W.nsIn K mainGlobals "_law_odd_one" = some (some (.ref f9))) (l9 : K.lookup f9 = some ⟨oc9, od9, .func (PySem.W.fnOf "_law_odd_one" "_law_odd_one" (defArgs s_law_odd_one) (defBody s_law_odd_one) (defScope s_law_odd_one) .none kV9 dc9 pm9 an9 cd9 ct9), sl9⟩) (c9 : PySem.W.codeIn K cd9 "_law_odd_one" = true) (k9 : PySem.W.keepIn K (.ref f9) = true)
    (a10 : PySem.W.nsIn K mainGlobals "_law_is_three" = some (some (.ref f10))) (l10 : K.lookup f10 = some ⟨oc10, od10, .func (PySem.W.fnOf "_law_is_three" "_law_is_three" (defArgs s_law_is_three) (defBody s_law_is_three) (defScope s_law_is_three) .none kV10 dc10 pm10 an10 cd10 ct10), sl10⟩) (c10 : PySem.W.codeIn K cd10 "_law_is_three" = true) (k10 : PySem.W.keepIn K (.ref f10) = true)
    (a11 : PySem.W.nsIn K mainGlobals "_law_words_right" = some (some (.ref f11))) (l11 : K.lookup f11 = some ⟨oc11, od11, .func (PySem.W.fnOf "_law_words_right" "_law_words_right" (defArgs s_law_words_right) (defBody s_law_words_right) (defScope s_law_words_right) .none kV11 dc11 pm11 an11 cd11 ct11), sl11⟩) (c11 : PySem.W.codeIn K cd11 "_law_words_right" = true) (k11 : PySem.W.keepIn K (.ref f11) = true)
    (a12 : PySem.W.nsIn K mainGlobals "_law_sizes_right" = some (some (.ref f12))) (l12 : K.lookup f12 = some ⟨oc12, od12, .func (PySem.W.fnOf "_law_sizes_right" "_law_sizes_right" (defArgs s_law_sizes_right) (defBody s_law_sizes_right) (defScope s_law_sizes_right) .none kV12 dc12 pm12 an12 cd12 ct12), sl12⟩) (c12 : PySem.W.codeIn K cd12 "_law_sizes_right" = true) (k12 : PySem.W.keepIn K (.ref f12) = true)
    (a13 : PySem.W.nsIn K mainGlobals "law" = some (some (.ref f13))) (l13 : K.lookup f13 = some ⟨oc13, od13, .func (PySem.W.fnOf "law" "law" (defArgs s_law) (defBody s_law) (defScope s_law) .none kV13 dc13 pm13 an13 cd13 ct13), sl13⟩) (c13 : PySem.W.codeIn K cd13 "law" = true) (k13 : PySem.W.keepIn K (.ref f13) = true)
    (z0 : PySem.W.nsIn K mainGlobals "abs" = some none)
    (z1 : PySem.W.nsIn K mainGlobals "all" = some none)
    (z2 : PySem.W.nsIn K mainGlobals "bool" = some none)
    (z3 : PySem.W.nsIn K mainGlobals "int" = some none)
    (z4 : PySem.W.nsIn K mainGlobals "isinstance" = some none)
    (z5 : PySem.W.nsIn K mainGlobals "len" = some none)
    (z6 : PySem.W.nsIn K mainGlobals "list" = some none)
    (z7 : PySem.W.nsIn K mainGlobals "max" = some none)
    (z8 : PySem.W.nsIn K mainGlobals "min" = some none)
    (z9 : PySem.W.nsIn K mainGlobals "range" = some none)
    (z10 : PySem.W.nsIn K mainGlobals "repr" = some none)
    (z11 : PySem.W.nsIn K mainGlobals "str" = some none)
    (z12 : PySem.W.nsIn K mainGlobals "tuple" = some none)
    {tc0 : Tok} (n0 : PySem.W.nsIn K mainGlobals "LETTERS" = some (some (.str "abcdefghijklmnopqrstuvwxyz" tc0)))
    {tc1 : Tok} (n1 : PySem.W.nsIn K mainGlobals "MAX_LETTERS" = some (some (.int 8 tc1)))
    {tc2 : Tok} (n2 : PySem.W.nsIn K mainGlobals "MAX_SIDE" = some (some (.int 1000000000000000000000000000000 tc2)))
    (hrun : ∀ ns : List Int, ns.length ≤ 63 → ∃ st', callT 12 13 [.frz (ns.map D.int)] [] = .ok (.bl true) st') :
    ∃ fd : FuncData, (∀ (s : Shared) (v : Value), BindsTo s fd ⟨[v], []⟩ [("script", v)]) ∧ ∀ base : Heap, K.In base → base.Ns mainGlobals mg → FnOk l.prog w K mg base (L2.CX l.prog w) 12 fa fd ["script"] (spLaw3 K) := by
  have e := hfa.symm.trans (PySem.W.mg_of X G a13)
  cases e
  have F0 := fun_mk (st := s_is_whole) l0 c0 k0
  have b0 := F0.binds (ps := ["value"]) fun _ _ _ _ _ _ us hl => match us, hl with | [_], _ => rfl
  have F1 := fun_mk (st := s_is_name) l1 c1 k1
  have b1 := F1.binds (ps := ["value"]) fun _ _ _ _ _ _ us hl => match us, hl with | [_], _ => rfl
  have F2 := fun_mk (st := s_is_size) l2 c2 k2
  have b2 := F2.binds (ps := ["value"]) fun _ _ _ _ _ _ us hl => match us, hl with | [_], _ => rfl
  have F3 := fun_mk (st := s_law_numbers) l3 c3 k3
  have b3 := F3.binds (ps := ["script", "at"]) fun _ _ _ _ _ _ us hl => match us, hl with | [_, _], _ => rfl
  have F4 := fun_mk (st := s_law_cast) l4 c4 k4
  have b4 := F4.binds (ps := ["die", "total"]) fun _ _ _ _ _ _ us hl => match us, hl with | [_, _], _ => rfl
  have F5 := fun_mk (st := s_law_pick) l5 c5 k5
  have b5 := F5.binds (ps := ["die", "items"]) fun _ _ _ _ _ _ us hl => match us, hl with | [_, _], _ => rfl
  have F6 := fun_mk (st := s_law_bent_tuple) l6 c6 k6
  have b6 := F6.binds (ps := ["die", "items", "odd"]) fun _ _ _ _ _ _ us hl => match us, hl with | [_, _, _], _ => rfl
  have F7 := fun_mk (st := s_law_is_word) l7 c7 k7
  have b7 := F7.binds (ps := ["value"]) fun _ _ _ _ _ _ us hl => match us, hl with | [_], _ => rfl
  have F8 := fun_mk (st := s_law_is_number) l8 c8 k8
  have b8 := F8.binds (ps := ["value", "low", "high"]) fun _ _ _ _ _ _ us hl => match us, hl with | [_, _, _], _ => rfl
  have F9 := fun_mk (st := s_law_odd_one) l9 c9 k9
  have b9 := F9.binds (ps := ["die"]) fun _ _ _ _ _ _ us hl => match us, hl with | [_], _ => rfl
  have F10 := fun_mk (st := s_law_is_three) l10 c10 k10
  have b10 := F10.binds (ps := ["value"]) fun _ _ _ _ _ _ us hl => match us, hl with | [_], _ => rfl
  have F11 := fun_mk (st := s_law_words_right) l11 c11 k11
  have b11 := F11.binds (ps := ["die"]) fun _ _ _ _ _ _ us hl => match us, hl with | [_], _ => rfl
  have F12 := fun_mk (st := s_law_sizes_right) l12 c12 k12
  have b12 := F12.binds (ps := ["die"]) fun _ _ _ _ _ _ us hl => match us, hl with | [_], _ => rfl
  have F13 := fun_mk (st := s_law) l13 c13 k13
  have b13 := F13.binds (ps := ["script"]) fun _ _ _ _ _ _ us hl => match us, hl with | [_], _ => rfl
  let T : Tx K mg := ⟨_, _, F0, b0, PySem.W.mg_of X G a0, _, _, F1, b1, PySem.W.mg_of X G a1, _, _, F2, b2, PySem.W.mg_of X G a2, _, _, F3, b3, PySem.W.mg_of X G a3, _, _, F4, b4, PySem.W.mg_of X G a4, _, _, F5, b5, PySem.W.mg_of X G a5, _, _, F6, b6, PySem.W.mg_of X G a6, _, _, F7, b7, PySem.W.mg_of X G a7, _, _, F8, b8, PySem.W.mg_of X G a8, _, _, F9, b9, PySem.W.mg_of X G a9, _, _, F10, b10, PySem.W.mg_of X G a10, _, _, F11, b11, PySem.W.mg_of X G a11, _, _, F12, b12, PySem.W.mg_of X G a12, _, _, F13, b13, PySem.W.mg_of X G a13, PySem.W.mg_none_of X G z0, PySem.W.mg_none_of X G z1, PySem.W.mg_none_of X G z2, PySem.W.mg_none_of X G z3, PySem.W.mg_none_of X G z4, PySem.W.mg_none_of X G z5, PySem.W.mg_none_of X G z6, PySem.W.mg_none_of X G z7, PySem.W.mg_none_of X G z8, PySem.W.mg_none_of X G z9, PySem.W.mg_none_of X G z10, PySem.W.mg_none_of X G z11, PySem.W.mg_none_of X G z12, tc0, PySem.W.mg_of X G n0, tc1, PySem.W.mg_of X G n1, tc2, PySem.W.mg_of X G n2⟩
  exact ⟨_, fun s v => .of_eq rfl, fun base _ _ => law_of (all_ok (base := base) T 12).law rfl hrun⟩
end K01
open PySem PySem.W PyProof.Rows
set_option maxRecDepth 100000 in
set_option maxHeartbeats 0 in
theorem PySem.Challenge.cw_bondfloors_k01_names_and_sizes_holds : PySem.Challenge.rw_bondfloors_k01_names_and_sizes.Holds := by
  w_on; o_law; k_head; (case hw => w_witness2)
  k_fill
  refine L2.walk_of (l := PySem.Challenge.rw_bondfloors_k01_names_and_sizes) (n := 63) (k := 12) (x := "script") (CX := fun w => L2.CX PySem.Challenge.rw_bondfloors_k01_names_and_sizes.prog w) (sp := fun w => L3.spLaw3 _) rfl (by decide) rfl ⟨rfl, by decide, by decide⟩ (fun w h Y => PySem.W.kIn_of Y) ?F (fun _ _ a ns hl ho hS => ⟨a, ns, rfl, hS, hl, ho, fun _ => rfl⟩) (fun w H s e s' h => L3.cx_end H s e s' h)
  case F =>
    intro w mg fa h KX G hmg
    refine' K01.all_mk KX G hmg ?a0 ?l0 ?c0 ?k0 ?a1 ?l1 ?c1 ?k1 ?a2 ?l2 ?c2 ?k2 ?a3 ?l3 ?c3 ?k3 ?a4 ?l4 ?c4 ?k4 ?a5 ?l5 ?c5 ?k5 ?a6 ?l6 ?c6 ?k6 ?a7 ?l7 ?c7 ?k7 ?a8 ?l8 ?c8 ?k8 ?a9 ?l9 ?c9 ?k9 ?a10 ?l10 ?c10 ?k10 ?a11 ?l11 ?c11 ?k11 ?a12 ?l12 ?c12 ?k12 ?a13 ?l13 ?c13 ?k13 ?z0 ?z1 ?z2 ?z3 ?z4 ?z5 ?z6 ?z7 ?z8 ?z9 ?z10 ?z11 ?z12 ?n0 ?n1 ?n2 K01.main_run
    (case a0 => k_is)
    (case l0 => k_is)
    (case c0 => k_is)
    (case k0 => k_is)
    (case a1 => k_is)
    (case l1 => k_is)
    (case c1 => k_is)
    (case k1 => k_is)
    (case a2 => k_is)
    (case l2 => k_is)
    (case c2 => k_is)
    (case k2 => k_is)
    (case a3 => k_is)
    (case l3 => k_is)
    (case c3 => k_is)
    (case k3 => k_is)
    (case a4 => k_is)
    (case l4 => k_is)
    (case c4 => k_is)
    (case k4 => k_is)
    (case a5 => k_is)
    (case l5 => k_is)
    (case c5 => k_is)
    (case k5 => k_is)
    (case a6 => k_is)
    (case l6 => k_is)
    (case c6 => k_is)
    (case k6 => k_is)
    (case a7 => k_is)
    (case l7 => k_is)
    (case c7 => k_is)
    (case k7 => k_is)
    (case a8 => k_is)
    (case l8 => k_is)
    (case c8 => k_is)
    (case k8 => k_is)
    (case a9 => k_is)
    (case l9 => k_is)
    (case c9 => k_is)
    (case k9 => k_is)
    (case a10 => k_is)
    (case l10 => k_is)
    (case c10 => k_is)
    (case k10 => k_is)
    (case a11 => k_is)
    (case l11 => k_is)
    (case c11 => k_is)
    (case k11 => k_is)
    (case a12 => k_is)
    (case l12 => k_is)
    (case c12 => k_is)
    (case k12 => k_is)
    (case a13 => k_is)
    (case l13 => k_is)
    (case c13 => k_is)
    (case k13 => k_is)
    (case z0 => k_is)
    (case z1 => k_is)
    (case z2 => k_is)
    (case z3 => k_is)
    (case z4 => k_is)
    (case z5 => k_is)
    (case z6 => k_is)
    (case z7 => k_is)
    (case z8 => k_is)
    (case z9 => k_is)
    (case z10 => k_is)
    (case z11 => k_is)
    (case z12 => k_is)
    (case n0 => k_is)
    (case n1 => k_is)
    (case n2 => k_is)
