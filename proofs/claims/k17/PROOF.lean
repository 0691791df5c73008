import PyProof.Rows.All
import Wide.All
import OpenK.AllK
import Wide.FinOn
import HandS.ForMost
import HandS.Exc
import HandS.WordsExc
import HandS.TupAny
import HandS.Flow
import HandS.Wide
import HandS.IsInst
import HandS.Lambda
import HandS.CallSlots
import HandS.Deep
import HandS.Style
import HandS.RaiseMore
import HandS.Property
import HandS.ClsMeth
import HandS.Star
import HandS.Dict
import HandS.Small
import HandS.TupLen
import HandS.SortRule
import HandS.SortOrd
import HandS.Sort
import HandS.NoneIn
import KE.DataMinMax
import KE.DataEq
import HandS.SortInts
import HandS.Iter
import KE.GoesEnum
import HandS.Comp
import HandS.List
import KE.KTupSum
import HandS.TryMany
import HandS.ExcField
import HandS.ExcInit
import KE.KExcInit
import HandS.EndTab
import HandS.NestedK
import PyProof.ReprRoads
import HandS.DictTup
import HandS.DictComp
import KE.KNestM
import PySem.Challenge.RW_bondfloors_k17_errors_of_sizes
set_option Elab.async false
set_option linter.all false
set_option maxRecDepth 100000
/-! The third layer: values as data, a store of one's own, a meaning for each construct as a function; each is sound over the hand layer. -/
namespace L3
open PySem PySem.Spec PyProof.Rows L2

inductive D where
  | non | bl (b : Bool) | int (i : Int) | str (x : Str)
  | tup (xs : List D) | frz (xs : List D) | loc (n : Nat) | cls (a : Addr)
  | lam (f c : Addr) (q : Str) | fn (x : Str) (a : Addr) | fdk (ks : List Key) (ds : List D)

inductive O where
  | lst (xs : List D)
  | dK (kvs : List (Key × D))
  | dT (kvs : List (List Key × D))
  | ins (c : Str) (fs : List (Str × D))
  | tb (P : Addr) (q : Str)

abbrev Sto := List O
structure XN where
  cls : Str
  fs : List (Str × D)

inductive R (α : Type) where
  | ok (a : α) (st : Sto) | exn (x : XN) (st : Sto) | bad

def R.bind {α β : Type} (m : R α) (f : α → Sto → R β) : R β := match m with
  | .ok a st => f a st
  | .exn x st => .exn x st
  | .bad => .bad
@[simp] theorem R.bind_ok {α β : Type} (a : α) (st : Sto) (f : α → Sto → R β) : (R.ok a st).bind f = f a st := rfl
@[simp] theorem R.bind_exn {α β : Type} (x : XN) (st : Sto) (f : α → Sto → R β) : (R.exn x st : R α).bind f = .exn x st := rfl
@[simp] theorem R.bind_bad {α β : Type} (f : α → Sto → R β) : (R.bad : R α).bind f = .bad := rfl

/-! ### the relation to the hand layer's heap -/
/-- a list that never changes -/
def FzL (K : PySem.W.Frag) (H : Hp) (a : Addr) (xs : List V) : Prop :=
  (∃ o, H a = some (.frz o (.lst xs))) ∨
    ∃ (o : Obj) (its : Array Value) (n : Nat), K.lookup a = some o ∧ o.cls = .type "list" ∧ o.dict = none ∧ o.data = .seq its n ∧ its.size ≤ sizeLine ∧ Vals xs its.toList
theorem FzL.sq {K : PySem.W.Frag} {H : Hp} {a : Addr} {xs : List V} (h : FzL K H a xs) : SqL K H a xs := by
  rcases h with h | h
  · exact .inl (.inr h)
  · exact .inr h

mutual
def VR (K : PySem.W.Frag) (β : List Addr) (H : Hp) : D → V → Prop
  | .non, v => v = .non
  | .bl b, v => v = .bl b
  | .int i, v => v = .int i
  | .str x, v => v = .str x
  | .tup xs, v => ∃ a vs, v = .ref a ∧ H a = some (.tup vs) ∧ VRs K β H xs vs
  | .frz xs, v => ∃ a vs, v = .ref a ∧ FzL K H a vs ∧ VRs K β H xs vs
  | .loc n, v => ∃ a, β[n]? = some a ∧ v = .ref a
  | .cls a, v => v = .ref a
  | .lam f c q, v => v = .ref f ∧ H c = some (LamX.CodeO c q)
  | .fn _ a, v => v = .ref a
  | .fdk ks ds, v => ∃ a o vs, v = .ref a ∧ H a = some (.frz o (.dK (ks.zip vs))) ∧ ks.length = vs.length ∧ VRs K β H ds vs
def VRs (K : PySem.W.Frag) (β : List Addr) (H : Hp) : List D → List V → Prop
  | [], vs => vs = []
  | d :: ds, vs => ∃ v r, vs = v :: r ∧ VR K β H d v ∧ VRs K β H ds r
end

theorem lst_code {xs : List V} {a : Addr} {q : Str} (z : HO.lst xs = LamX.CodeO a q) : False := by unfold LamX.CodeO at z; cases z
/-- what stays -/
structure Ext0 (β : List Addr) (H : Hp) (β' : List Addr) (H' : Hp) : Prop where
  pre : ∃ t, β' = β ++ t
  tups : ∀ a xs, H a = some (.tup xs) → H' a = some (.tup xs)
  frzs : ∀ a o u, H a = some (.frz o u) → H' a = some (.frz o u)
  exts : ∀ a q, H a = some (LamX.CodeO a q) → H' a = some (LamX.CodeO a q)
structure Ext (β : List Addr) (H : Hp) (β' : List Addr) (H' : Hp) : Prop extends Ext0 β H β' H' where
  keep : ∀ a u, H a = some u → a ∉ β → (∀ ps, u ≠ .tbl ps) → H' a = some u
  new : ∀ a, a ∈ β' → a ∈ β ∨ H a = none ∨ ∃ ps, H a = some (.tbl ps)
theorem Ext.refl (β : List Addr) (H : Hp) : Ext β H β H := ⟨⟨⟨[], by simp⟩, fun _ _ h => h, fun _ _ _ h => h, fun _ _ h => h⟩, fun _ _ h _ _ => h, fun _ h => .inl h⟩
theorem Ext.trans {β β1 β2 : List Addr} {H H1 H2 : Hp} (a : Ext β H β1 H1) (b : Ext β1 H1 β2 H2) : Ext β H β2 H2 := by
  obtain ⟨t, et⟩ := a.pre
  obtain ⟨u, eu⟩ := b.pre
  refine ⟨⟨⟨t ++ u, by rw [eu, et]; simp⟩, fun c xs h => b.tups c xs (a.tups c xs h), fun c o u h => b.frzs c o u (a.frzs c o u h), fun c u h => b.exts c u (a.exts c u h)⟩, fun c w h hn ht => b.keep c w (a.keep c w h hn ht) (fun z => ?_) ht, fun c h => ?_⟩
  · rcases a.new c z with z | z | ⟨ps, z⟩
    · exact hn z
    · rw [h] at z; cases z
    · rw [h] at z; exact ht ps (Option.some.inj z)
  · rcases b.new c h with z | z
    · exact a.new c z
    · cases q : H c with
      | none => exact .inr (.inl rfl)
      | some w =>
        by_cases hc : c ∈ β
        · exact .inl hc
        · by_cases hw : ∃ ps, w = .tbl ps
          · obtain ⟨ps, rfl⟩ := hw
            exact .inr (.inr ⟨ps, rfl⟩)
          · have k := a.keep c w q hc fun ps e => hw ⟨ps, e⟩
            rcases z with z | ⟨ps, z⟩
            · rw [z] at k; cases k
            · rw [z] at k; exact (hw ⟨ps, (Option.some.inj k).symm⟩).elim
theorem Ext0.get {β β' : List Addr} {H H' : Hp} (e : Ext0 β H β' H') {n : Nat} {a : Addr} (h : β[n]? = some a) : β'[n]? = some a := by
  obtain ⟨t, rfl⟩ := e.pre
  have hl : n < β.length := (List.getElem?_eq_some_iff.mp h).1
  rw [List.getElem?_append_left hl]; exact h
theorem Ext0.sqT {K : PySem.W.Frag} {β β' : List Addr} {H H' : Hp} (e : Ext0 β H β' H') {a : Addr} {xs : List V} (h : SqT K H a xs) : SqT K H' a xs := by
  rcases h with (h | ⟨o, h⟩) | h
  · exact .inl (.inl (e.tups _ _ h))
  · exact .inl (.inr ⟨o, e.frzs _ _ _ h⟩)
  · exact .inr h
theorem Ext0.fzL {K : PySem.W.Frag} {β β' : List Addr} {H H' : Hp} (e : Ext0 β H β' H') {a : Addr} {xs : List V} (h : FzL K H a xs) : FzL K H' a xs := by
  rcases h with ⟨o, h⟩ | h
  · exact .inl ⟨o, e.frzs _ _ _ h⟩
  · exact .inr h
mutual
theorem VR.mono0 {K : PySem.W.Frag} {β β' : List Addr} {H H' : Hp} (e : Ext0 β H β' H') : ∀ (d : D) (v : V), VR K β H d v → VR K β' H' d v
  | .non, _, h => by unfold VR at h ⊢; exact h
  | .bl b, _, h => by unfold VR at h ⊢; exact h
  | .int i, _, h => by unfold VR at h ⊢; exact h
  | .str x, _, h => by unfold VR at h ⊢; exact h
  | .tup xs, v, h => by
    unfold VR at h ⊢
    obtain ⟨a, vs, e1, h1, h2⟩ := h
    exact ⟨a, vs, e1, e.tups _ _ h1, VRs.mono0 e xs vs h2⟩
  | .frz xs, v, h => by
    unfold VR at h ⊢
    obtain ⟨a, vs, e1, h1, h2⟩ := h
    exact ⟨a, vs, e1, e.fzL h1, VRs.mono0 e xs vs h2⟩
  | .loc n, v, h => by
    unfold VR at h ⊢
    obtain ⟨a, h1, h2⟩ := h
    exact ⟨a, e.get h1, h2⟩
  | .cls a, _, h => by unfold VR at h ⊢; exact h
  | .lam f c q, _, h => by unfold VR at h ⊢; exact ⟨h.1, e.exts _ _ h.2⟩
  | .fn _ a, _, h => by unfold VR at h ⊢; exact h
  | .fdk ks ds, v, h => by
    unfold VR at h ⊢
    obtain ⟨a, o, vs, e1, h1, h2, h3⟩ := h
    exact ⟨a, o, vs, e1, e.frzs _ _ _ h1, h2, VRs.mono0 e ds vs h3⟩
theorem VRs.mono0 {K : PySem.W.Frag} {β β' : List Addr} {H H' : Hp} (e : Ext0 β H β' H') : ∀ (ds : List D) (vs : List V), VRs K β H ds vs → VRs K β' H' ds vs
  | [], _, h => by unfold VRs at h ⊢; exact h
  | d :: ds, vs, h => by
    unfold VRs at h ⊢
    obtain ⟨v, r, e1, h1, h2⟩ := h
    exact ⟨v, r, e1, VR.mono0 e d v h1, VRs.mono0 e ds r h2⟩
end
theorem VR.mono {K : PySem.W.Frag} {β β' : List Addr} {H H' : Hp} (e : Ext β H β' H') (d : D) (v : V) (h : VR K β H d v) : VR K β' H' d v := VR.mono0 e.toExt0 d v h
theorem VRs.mono {K : PySem.W.Frag} {β β' : List Addr} {H H' : Hp} (e : Ext β H β' H') (ds : List D) (vs : List V) (h : VRs K β H ds vs) : VRs K β' H' ds vs := VRs.mono0 e.toExt0 ds vs h
section
variable {K : PySem.W.Frag} {β : List Addr} {H : Hp}
theorem VR.non {v} : VR K β H .non v ↔ v = .non := by unfold VR; exact Iff.rfl
theorem VR.bl {b v} : VR K β H (.bl b) v ↔ v = .bl b := by unfold VR; exact Iff.rfl
theorem VR.int {i v} : VR K β H (.int i) v ↔ v = .int i := by unfold VR; exact Iff.rfl
theorem VR.str {x v} : VR K β H (.str x) v ↔ v = .str x := by unfold VR; exact Iff.rfl
theorem VR.tup {xs v} : VR K β H (.tup xs) v ↔ ∃ a vs, v = .ref a ∧ H a = some (.tup vs) ∧ VRs K β H xs vs := by conv => lhs; unfold VR
theorem VR.tupS {xs v} (h : VR K β H (.tup xs) v) : ∃ a vs, v = .ref a ∧ SqT K H a vs ∧ VRs K β H xs vs := let ⟨a, vs, e, h1, h2⟩ := VR.tup.mp h; ⟨a, vs, e, .inl (.inl h1), h2⟩
theorem VR.frz {xs v} : VR K β H (.frz xs) v ↔ ∃ a vs, v = .ref a ∧ FzL K H a vs ∧ VRs K β H xs vs := by conv => lhs; unfold VR
theorem VR.loc {n v} : VR K β H (.loc n) v ↔ ∃ a, β[n]? = some a ∧ v = .ref a := by conv => lhs; unfold VR
theorem VR.cls {a v} : VR K β H (.cls a) v ↔ v = .ref a := by unfold VR; exact Iff.rfl
theorem VR.lam {f c q v} : VR K β H (.lam f c q) v ↔ v = .ref f ∧ H c = some (LamX.CodeO c q) := by conv => lhs; unfold VR
theorem VR.fn {x a v} : VR K β H (.fn x a) v ↔ v = .ref a := by unfold VR; exact Iff.rfl
theorem VR.fdk {ks ds v} : VR K β H (.fdk ks ds) v ↔ ∃ a o vs, v = .ref a ∧ H a = some (.frz o (.dK (ks.zip vs))) ∧ ks.length = vs.length ∧ VRs K β H ds vs := by conv => lhs; unfold VR
theorem VRs.nil {vs} : VRs K β H [] vs ↔ vs = [] := by unfold VRs; exact Iff.rfl
theorem VRs.cons {d ds vs} : VRs K β H (d :: ds) vs ↔ ∃ v r, vs = v :: r ∧ VR K β H d v ∧ VRs K β H ds r := by conv => lhs; unfold VRs
theorem VRs.length : ∀ {ds : List D} {vs : List V}, VRs K β H ds vs → vs.length = ds.length
  | [], vs, h => by rw [VRs.nil.mp h]; rfl
  | d :: ds, vs, h => by
    obtain ⟨v, r, rfl, _, h2⟩ := VRs.cons.mp h
    simp [VRs.length h2]
theorem VRs.get : ∀ {ds : List D} {vs : List V} {i : Nat} {v : V}, VRs K β H ds vs → vs[i]? = some v → ∃ d, ds[i]? = some d ∧ VR K β H d v
  | [], vs, i, v, h, e => by rw [VRs.nil.mp h] at e; simp at e
  | d :: ds, vs, i, v, h, e => by
    obtain ⟨w, r, rfl, h1, h2⟩ := VRs.cons.mp h
    cases i with
    | zero => simp at e; subst e; exact ⟨d, rfl, h1⟩
    | succ i => simpa using VRs.get (i := i) h2 (by simpa using e)
theorem VRs.getD : ∀ {ds : List D} {vs : List V} {i : Nat} {d : D}, VRs K β H ds vs → ds[i]? = some d → ∃ v, vs[i]? = some v ∧ VR K β H d v
  | [], vs, i, d, h, e => by simp at e
  | d' :: ds, vs, i, d, h, e => by
    obtain ⟨w, r, rfl, h1, h2⟩ := VRs.cons.mp h
    cases i with
    | zero => simp at e; subst e; exact ⟨w, rfl, h1⟩
    | succ i => simpa using VRs.getD (i := i) h2 (by simpa using e)
theorem VRs.append : ∀ {ds es : List D} {vs us : List V}, VRs K β H ds vs → VRs K β H es us → VRs K β H (ds ++ es) (vs ++ us)
  | [], es, vs, us, h, g => by rw [VRs.nil.mp h]; exact g
  | d :: ds, es, vs, us, h, g => by
    obtain ⟨w, r, rfl, h1, h2⟩ := VRs.cons.mp h
    exact VRs.cons.mpr ⟨w, r ++ us, rfl, h1, VRs.append h2 g⟩
theorem VRs.take : ∀ {ds : List D} {vs : List V} (n : Nat), VRs K β H ds vs → VRs K β H (ds.take n) (vs.take n)
  | ds, vs, 0, h => VRs.nil.mpr (by simp)
  | [], vs, n + 1, h => by rw [VRs.nil.mp h]; exact VRs.nil.mpr (by simp)
  | d :: ds, vs, n + 1, h => by
    obtain ⟨w, r, rfl, h1, h2⟩ := VRs.cons.mp h
    exact VRs.cons.mpr ⟨w, r.take n, by simp, h1, VRs.take n h2⟩
theorem VRs.drop : ∀ {ds : List D} {vs : List V} (n : Nat), VRs K β H ds vs → VRs K β H (ds.drop n) (vs.drop n)
  | ds, vs, 0, h => by simpa using h
  | [], vs, n + 1, h => by rw [VRs.nil.mp h]; exact VRs.nil.mpr (by simp)
  | d :: ds, vs, n + 1, h => by
    obtain ⟨w, r, rfl, h1, h2⟩ := VRs.cons.mp h
    simpa using VRs.drop n h2
theorem VRs.set : ∀ {ds : List D} {vs : List V} {d : D} {v : V} (i : Nat), VRs K β H ds vs → VR K β H d v → VRs K β H (ds.set i d) (vs.set i v)
  | [], vs, d, v, i, h, g => by rw [VRs.nil.mp h]; exact VRs.nil.mpr (by simp)
  | e :: ds, vs, d, v, i, h, g => by
    obtain ⟨w, r, rfl, h1, h2⟩ := VRs.cons.mp h
    cases i with
    | zero => exact VRs.cons.mpr ⟨v, r, rfl, g, h2⟩
    | succ i => exact VRs.cons.mpr ⟨w, r.set i v, rfl, h1, VRs.set i h2 g⟩
theorem VRs.reverse {ds : List D} {vs : List V} (h : VRs K β H ds vs) : VRs K β H ds.reverse vs.reverse := by
  induction ds generalizing vs with
  | nil => rw [VRs.nil.mp h]; exact VRs.nil.mpr (by simp)
  | cons d ds ih =>
    obtain ⟨w, r, rfl, h1, h2⟩ := VRs.cons.mp h
    rw [List.reverse_cons, List.reverse_cons]
    exact VRs.append (ih h2) (VRs.cons.mpr ⟨w, [], rfl, h1, VRs.nil.mpr rfl⟩)
theorem VRs.eraseIdx : ∀ {ds : List D} {vs : List V} (i : Nat), VRs K β H ds vs → VRs K β H (ds.eraseIdx i) (vs.eraseIdx i)
  | [], vs, i, h => by rw [VRs.nil.mp h]; exact VRs.nil.mpr (by simp)
  | e :: ds, vs, i, h => by
    obtain ⟨w, r, rfl, h1, h2⟩ := VRs.cons.mp h
    cases i with
    | zero => simpa using h2
    | succ i => exact VRs.cons.mpr ⟨w, r.eraseIdx i, rfl, h1, VRs.eraseIdx i h2⟩
end

/-- attributes -/
def FR (K : PySem.W.Frag) (β : List Addr) (H : Hp) : List (Str × D) → List (Str × V) → Prop := Paired fun p q => p.1 = q.1 ∧ VR K β H p.2 q.2
def KR {κ : Type} (K : PySem.W.Frag) (β : List Addr) (H : Hp) : List (κ × D) → List (κ × V) → Prop := Paired fun p q => p.1 = q.1 ∧ VR K β H p.2 q.2
theorem KR.mono0 {κ : Type} {K : PySem.W.Frag} {β β' : List Addr} {H H' : Hp} (e : Ext0 β H β' H') {l : List (κ × D)} {r : List (κ × V)} (h : KR K β H l r) : KR K β' H' l r :=
  Paired.mapP h fun p q z => ⟨z.1, VR.mono0 e _ _ z.2⟩

def OR (K : PySem.W.Frag) (mg : Str → Option Value) (β : List Addr) (H : Hp) : O → Addr → Prop
  | .lst xs, a => ∃ vs, H a = some (.lst vs) ∧ VRs K β H xs vs
  | .dK kvs, a => ∃ ks, H a = some (.dK ks) ∧ KR K β H kvs ks
  | .dT kvs, a => ∃ ks, H a = some (.dT ks) ∧ KR K β H kvs ks
  | .ins c fs, a => ∃ C dx gs, mg c = some (.ref C) ∧ H a = some (.ins C dx gs) ∧ FR K β H fs gs
  | .tb P q, a => a = P ∧ LamX.TabS H a q
theorem OR.mono0 {K : PySem.W.Frag} {mg : Str → Option Value} {β β' : List Addr} {H H' : Hp} (e : Ext0 β H β' H') {a : Addr} (ha : H' a = H a) : ∀ {o : O}, OR K mg β H o a → OR K mg β' H' o a
  | .lst xs, ⟨vs, h1, h2⟩ => ⟨vs, ha.trans h1, VRs.mono0 e _ _ h2⟩
  | .dK _, ⟨vs, h1, h2⟩ => ⟨vs, ha.trans h1, h2.mono0 e⟩
  | .dT _, ⟨vs, h1, h2⟩ => ⟨vs, ha.trans h1, h2.mono0 e⟩
  | .ins _ _, ⟨C, dx, gs, h0, h1, h2⟩ => ⟨C, dx, gs, h0, ha.trans h1, KR.mono0 e h2⟩
  | .tb _ _, ⟨hP, ps, h1, h2, h3⟩ => ⟨hP, ps, ha.trans h1, h2, fun pos cv hc => let ⟨c, e1, e2⟩ := h3 pos cv hc; ⟨c, e1, e.exts _ _ e2⟩⟩
theorem OR.mono {K : PySem.W.Frag} {mg : Str → Option Value} {β β' : List Addr} {H H' : Hp} (e : Ext β H β' H') {a : Addr} (ha : H' a = H a) {o : O} (h : OR K mg β H o a) : OR K mg β' H' o a := h.mono0 e.toExt0 ha
theorem OR.some {K : PySem.W.Frag} {mg : Str → Option Value} {β : List Addr} {H : Hp} {a : Addr} : ∀ {o : O}, OR K mg β H o a → ∃ u, H a = some u ∧ (∀ xs, u ≠ .tup xs) ∧ (∀ ob w, u ≠ .frz ob w) ∧ (∀ φ, u ≠ .ext φ)
  | .lst _, ⟨_, h1, _⟩ => ⟨_, h1, fun _ z => (by cases z), fun _ _ z => (by cases z), fun _ z => (by cases z)⟩
  | .dK _, ⟨_, h1, _⟩ => ⟨_, h1, fun _ z => (by cases z), fun _ _ z => (by cases z), fun _ z => (by cases z)⟩
  | .dT _, ⟨_, h1, _⟩ => ⟨_, h1, fun _ z => (by cases z), fun _ _ z => (by cases z), fun _ z => (by cases z)⟩
  | .ins _ _, ⟨_, _, _, _, h1, _⟩ => ⟨_, h1, fun _ z => (by cases z), fun _ _ z => (by cases z), fun _ z => (by cases z)⟩
  | .tb _ _, ⟨_, _, h1, _⟩ => ⟨_, h1, fun _ z => (by cases z), fun _ _ z => (by cases z), fun _ z => (by cases z)⟩

structure Sim (K : PySem.W.Frag) (mg : Str → Option Value) (β : List Addr) (st : Sto) (H : Hp) : Prop where
  len : β.length = st.length
  inj : ∀ (m n : Nat) (a : Addr), β[m]? = some a → β[n]? = some a → m = n
  ob : ∀ (n : Nat) (o : O) (a : Addr), st[n]? = some o → β[n]? = some a → OR K mg β H o a
section
variable {K : PySem.W.Frag} {mg : Str → Option Value} {β : List Addr} {st : Sto} {H : Hp}
theorem Sim.at (S : Sim K mg β st H) {n : Nat} {a : Addr} (h : β[n]? = some a) : ∃ o, st[n]? = some o ∧ OR K mg β H o a := by
  have hl : n < β.length := (List.getElem?_eq_some_iff.mp h).1
  rw [S.len] at hl
  exact ⟨st[n], List.getElem?_eq_getElem hl, S.ob n _ a (List.getElem?_eq_getElem hl) h⟩
theorem Sim.used (S : Sim K mg β st H) {n : Nat} {a : Addr} (h : β[n]? = some a) : ∃ u, H a = some u := by
  obtain ⟨o, _, r⟩ := S.at h
  obtain ⟨u, e, _⟩ := r.some
  exact ⟨u, e⟩
theorem Sim.fresh (S : Sim K mg β st H) {p : Addr} (hp : H p = none) {n : Nat} (h : β[n]? = some p) : False := by
  obtain ⟨u, e⟩ := S.used h
  rw [hp] at e; cases e
theorem ext_new {p : Addr} {o : HO} (hp : H p = none) : Ext β H (β ++ [p]) (upd H p o) :=
  ⟨⟨⟨[p], rfl⟩, fun a xs h => by rw [upd_ne (ne_of_none h hp)]; exact h, fun a ob u h => by rw [upd_ne (ne_of_none h hp)]; exact h, fun a u h => by rw [upd_ne (ne_of_none h hp)]; exact h⟩, fun a u h _ _ => by rw [upd_ne (ne_of_none h hp)]; exact h, fun a h => by
    rcases List.mem_append.mp h with h | h
    · exact .inl h
    · have e : a = p := by simpa using h
      subst e
      exact .inr (.inl hp)⟩
/-- a new object, not of the store (a tuple) -/
theorem ext_new0 {p : Addr} {o : HO} (hp : H p = none) : Ext β H β (upd H p o) :=
  ⟨⟨⟨[], by simp⟩, fun a xs h => by rw [upd_ne (ne_of_none h hp)]; exact h, fun a ob u h => by rw [upd_ne (ne_of_none h hp)]; exact h, fun a u h => by rw [upd_ne (ne_of_none h hp)]; exact h⟩, fun a u h _ _ => by rw [upd_ne (ne_of_none h hp)]; exact h, fun a h => .inl h⟩
theorem Sim.new0 (S : Sim K mg β st H) {p : Addr} {o : HO} (hp : H p = none) : Sim K mg β st (upd H p o) :=
  ⟨S.len, S.inj, fun n ob a h1 h2 => (S.ob n ob a h1 h2).mono (ext_new0 hp) (upd_ne (by obtain ⟨u, e⟩ := S.used h2; exact ne_of_none e hp))⟩
/-- a new object of the store -/
theorem Sim.push (S : Sim K mg β st H) {p : Addr} {o : HO} {ob : O} (hp : H p = none) (h : OR K mg (β ++ [p]) (upd H p o) ob p) : Sim K mg (β ++ [p]) (st ++ [ob]) (upd H p o) := by
  refine ⟨by simp [S.len], fun m n a h1 h2 => ?_, fun n q a h1 h2 => ?_⟩
  · have lm : m < β.length + 1 := by simpa using (List.getElem?_eq_some_iff.mp h1).1
    have ln : n < β.length + 1 := by simpa using (List.getElem?_eq_some_iff.mp h2).1
    by_cases hm : m < β.length
    · rw [List.getElem?_append_left hm] at h1
      by_cases hn : n < β.length
      · rw [List.getElem?_append_left hn] at h2
        exact S.inj m n a h1 h2
      · have e : n = β.length := by omega
        subst e
        simp at h2
        subst h2
        exact (S.fresh hp h1).elim
    · have e : m = β.length := by omega
      subst e
      simp at h1
      subst h1
      by_cases hn : n < β.length
      · rw [List.getElem?_append_left hn] at h2
        exact (S.fresh hp h2).elim
      · omega
  · have ln : n < β.length + 1 := by simpa using (List.getElem?_eq_some_iff.mp h2).1
    by_cases hn : n < β.length
    · rw [List.getElem?_append_left hn] at h2
      rw [List.getElem?_append_left (by rw [← S.len]; exact hn)] at h1
      obtain ⟨u, e⟩ := S.used h2
      exact (S.ob n q a h1 h2).mono (ext_new hp) (upd_ne (ne_of_none e hp))
    · have e : n = β.length := by omega
      subst e
      simp at h2
      subst h2
      rw [S.len] at h1
      simp at h1
      subst h1
      exact h
/-- an object of the store is changed -/
theorem Sim.ext (S : Sim K mg β st H) {n : Nat} {a : Addr} {o : HO} (h : β[n]? = some a) : Ext β H β (upd H a o) := by
  obtain ⟨ob, _, r⟩ := S.at h
  obtain ⟨u, e, h1, h2, h3⟩ := r.some
  refine ⟨⟨⟨[], by simp⟩, fun b xs q => ?_, fun b ob' w q => ?_, fun b w q => ?_⟩, fun b w q hn _ => ?_, fun b h => .inl h⟩
  · rw [upd_ne (fun z => by subst z; rw [e] at q; exact h1 xs (Option.some.inj q))]; exact q
  · rw [upd_ne (fun z => by subst z; rw [e] at q; exact h2 _ _ (Option.some.inj q))]; exact q
  · rw [upd_ne (fun z => by subst z; rw [e] at q; exact h3 _ (Option.some.inj q))]; exact q
  · rw [upd_ne (fun z => by subst z; exact hn (List.mem_of_getElem? h))]; exact q
theorem Sim.set (S : Sim K mg β st H) {n : Nat} {a : Addr} {o : HO} {ob : O} (h : β[n]? = some a) (hr : OR K mg β (upd H a o) ob a) : Sim K mg β (st.set n ob) (upd H a o) := by
  refine ⟨by simp [S.len], S.inj, fun m q b h1 h2 => ?_⟩
  by_cases hm : m = n
  · subst hm
    rw [h] at h2; cases h2
    have hl : m < st.length := by rw [← S.len]; exact (List.getElem?_eq_some_iff.mp h).1
    rw [List.getElem?_set_self hl] at h1
    cases h1
    exact hr
  · rw [List.getElem?_set_ne (Ne.symm hm)] at h1
    have hb : b ≠ a := fun z => by subst z; exact hm (S.inj _ _ _ h2 h)
    exact (S.ob m q b h1 h2).mono (S.ext h) (upd_ne hb)
end

/-! ### the frame's values -/
abbrev Env3 := List (Option D)
def ER (K : PySem.W.Frag) (β : List Addr) (H : Hp) (ρ : Env3) (σ : L2.St) : Prop := ρ.length = σ.length ∧ ∀ (i : Nat) (d : D), ρ[i]? = some (some d) → ∃ v, σ[i]? = some (some v) ∧ VR K β H d v
theorem ER.mono {K : PySem.W.Frag} {β β' : List Addr} {H H' : Hp} {ρ : Env3} {σ : L2.St} (e : Ext β H β' H') (h : ER K β H ρ σ) : ER K β' H' ρ σ :=
  ⟨h.1, fun i d q => let ⟨v, h1, h2⟩ := h.2 i d q; ⟨v, h1, VR.mono e _ _ h2⟩⟩
theorem ER.set {K : PySem.W.Frag} {β : List Addr} {H : Hp} {ρ : Env3} {σ : L2.St} {d : D} {v : V} (h : ER K β H ρ σ) (i : Nat) (r : VR K β H d v) : ER K β H (ρ.set i (some d)) (σ.set i (some v)) := by
  refine ⟨by simp [h.1], fun j e q => ?_⟩
  by_cases hj : j = i
  · subst hj
    have hl : j < ρ.length := by have := (List.getElem?_eq_some_iff.mp q).1; simpa using this
    rw [List.getElem?_set_self hl] at q
    cases q
    exact ⟨v, by rw [List.getElem?_set_self (by rw [← h.1]; exact hl)], r⟩
  · rw [List.getElem?_set_ne (Ne.symm hj)] at q
    rw [List.getElem?_set_ne (Ne.symm hj)]
    exact h.2 j e q
theorem ER.clear {K : PySem.W.Frag} {β : List Addr} {H : Hp} {ρ : Env3} {σ : L2.St} (h : ER K β H ρ σ) (i : Nat) (o : Option V) : ER K β H (ρ.set i none) (σ.set i o) := by
  refine ⟨by simp [h.1], fun j e q => ?_⟩
  by_cases hj : j = i
  · subst hj
    have hl : j < ρ.length := by have := (List.getElem?_eq_some_iff.mp q).1; simpa using this
    rw [List.getElem?_set_self hl] at q
    cases q
  · rw [List.getElem?_set_ne (Ne.symm hj)] at q
    rw [List.getElem?_set_ne (Ne.symm hj)]
    exact h.2 j e q

/-! ### what is wanted of a meaning -/
/-- an exception and its likeness -/
def XR (K : PySem.W.Frag) (mg : Str → Option Value) (β : List Addr) (H : Hp) (x : XN) (c : Value) (dd : Option Addr) : Prop :=
  mg x.cls = some c ∧ match dd with
    | none => x.fs = []
    | some d => ∃ gs, H d = some (.xd gs) ∧ FR K β H x.fs gs
def PostA {α : Type} (K : PySem.W.Frag) (mg : Str → Option Value) (W : WX) (σ : L2.St) (ok : α → List Addr → Hp → Prop) (β : List Addr) (H : Hp) : R α → Prop
  | .ok a st' => ∀ β' H', Ext β H β' H' → Sim K mg β' st' H' → ok a β' H'
  | .exn x st' => ∀ β' H' c dd, Ext β H β' H' → Sim K mg β' st' H' → XR K mg β' H' x c dd → W c dd σ H'
  | .bad => False
theorem PostA.mono {α : Type} {K : PySem.W.Frag} {mg : Str → Option Value} {W : WX} {σ : L2.St} {ok : α → List Addr → Hp → Prop} {β β1 : List Addr} {H H1 : Hp} (e : Ext β H β1 H1) : ∀ {r : R α}, PostA K mg W σ ok β H r → PostA K mg W σ ok β1 H1 r
  | .ok _ _, h => fun β' H' e' S => h β' H' (e.trans e') S
  | .exn _ _, h => fun β' H' c dd e' S => h β' H' c dd (e.trans e') S
  | .bad, h => h
theorem PostA.imp {α : Type} {K : PySem.W.Frag} {mg : Str → Option Value} {W : WX} {σ : L2.St} {ok ok' : α → List Addr → Hp → Prop} {β : List Addr} {H : Hp} (f : ∀ a β' H', ok a β' H' → ok' a β' H') : ∀ {r : R α}, PostA K mg W σ ok β H r → PostA K mg W σ ok' β H r
  | .ok _ _, h => fun β' H' e' S => f _ _ _ (h β' H' e' S)
  | .exn _ _, h => h
  | .bad, h => h
/-- one after another -/
theorem PostA.bind {α γ : Type} {K : PySem.W.Frag} {mg : Str → Option Value} {W : WX} {σ : L2.St} {ok : γ → List Addr → Hp → Prop} {β : List Addr} {H : Hp} {m : R α} {f : α → Sto → R γ} (h : PostA K mg W σ ok β H (m.bind f)) :
    PostA K mg W σ (fun a β' H' => ∃ st', Sim K mg β' st' H' ∧ PostA K mg W σ ok β' H' (f a st')) β H m := by
  cases m with
  | ok a st' => exact fun β' H' e S => ⟨st', S, PostA.mono e h⟩
  | exn x st' => exact h
  | bad => exact h
abbrev okE (K : PySem.W.Frag) (Q : VK) : D → List Addr → Hp → Prop := fun d β' H' => ∀ v, VR K β' H' d v → Q v H'
abbrev okA (K : PySem.W.Frag) (Q : List V → Hp → Prop) : List D → List Addr → Hp → Prop := fun ds β' H' => ∀ vs, VRs K β' H' ds vs → Q vs H'
abbrev okT (Q : Bool → Hp → Prop) : Bool → List Addr → Hp → Prop := fun b _ H' => Q b H'

abbrev KE := Env3 → Sto → R D
abbrev KA := Env3 → Sto → R (List D)
abbrev KT := Env3 → Sto → R Bool
def lift (K : PySem.W.Frag) (mg : Str → Option Value) (W : WX) (k : KE) : TE := fun σ H Q => ∃ β ρ st, Sim K mg β st H ∧ ER K β H ρ σ ∧ PostA K mg W σ (okE K Q) β H (k ρ st)
def liftA (K : PySem.W.Frag) (mg : Str → Option Value) (W : WX) (k : KA) : TA := fun σ H Q => ∃ β ρ st, Sim K mg β st H ∧ ER K β H ρ σ ∧ PostA K mg W σ (okA K Q) β H (k ρ st)
def liftT (K : PySem.W.Frag) (mg : Str → Option Value) (W : WX) (k : KT) : TT := fun σ H Q => ∃ β ρ st, Sim K mg β st H ∧ ER K β H ρ σ ∧ PostA K mg W σ (okT Q) β H (k ρ st)

theorem PE.imp {X : Cx} {e : Expr} {t t' : TE} (h : PE X e t) (i : ∀ σ H Q, t' σ H Q → t σ H Q) : PE X e t' := ⟨fun pins s σ H Q I q => h.run pins s σ H Q I (i σ H Q q)⟩
theorem PT.imp {X : Cx} {e : Expr} {t t' : TT} (h : PT X e t) (i : ∀ σ H Q, t' σ H Q → t σ H Q) : PT X e t' := ⟨fun pins s σ H Q I q => h.run pins s σ H Q I (i σ H Q q)⟩
theorem PW.imp {X : Cx} {e : Expr} {t t' : TT} (h : PW X e t) (i : ∀ σ H Q, t' σ H Q → t σ H Q) : PW X e t' := ⟨fun wh pins s σ H Q I q => h.run wh pins s σ H Q I (i σ H Q q)⟩
theorem PA.imp {X : Cx} {es : List Expr} {t t' : TA} (h : PA X es t) (i : ∀ σ H Q, t' σ H Q → t σ H Q) : PA X es t' := ⟨fun pos pins s σ H Q I q => h.run pos pins s σ H Q I (i σ H Q q)⟩
theorem PS.imp {X : Cx} {e : Stmt} {t t' : TS} (h : PS X e t) (i : ∀ D σ H, t' D σ H → t D σ H) : PS X e t' := ⟨fun pins s σ H D I q => h.run pins s σ H D I (i D σ H q)⟩
theorem PSs.imp {X : Cx} {e : List Stmt} {t t' : TS} (h : PSs X e t) (i : ∀ D σ H, t' D σ H → t D σ H) : PSs X e t' := ⟨fun pins s σ H D I q => h.run pins s σ H D I (i D σ H q)⟩

/-- a meaning's step: from (a and then f) to a's own wish -/
theorem lift.bind {α : Type} {X : Cx} {W : WX} {σ : L2.St} {ok : α → List Addr → Hp → Prop} {β : List Addr} {H : Hp} {ρ : Env3} {st : Sto} {k : KE} {f : D → Sto → R α} {Q : VK} (S : Sim X.K X.mg β st H) (E : ER X.K β H ρ σ)
    (h : PostA X.K X.mg W σ ok β H ((k ρ st).bind f))
    (hq : ∀ d v β' H' st', Ext β H β' H' → Sim X.K X.mg β' st' H' → ER X.K β' H' ρ σ → VR X.K β' H' d v → PostA X.K X.mg W σ ok β' H' (f d st') → Q v H') : lift X.K X.mg W k σ H Q := by
  refine ⟨β, ρ, st, S, E, ?_⟩
  cases hm : k ρ st with
  | ok a st' =>
    rw [hm] at h
    exact fun β' H' e S' v r => hq a v β' H' st' e S' (E.mono e) r (PostA.mono e h)
  | exn x st' => rw [hm] at h; exact h
  | bad => rw [hm] at h; exact h
theorem liftT.bind {α : Type} {X : Cx} {W : WX} {σ : L2.St} {ok : α → List Addr → Hp → Prop} {β : List Addr} {H : Hp} {ρ : Env3} {st : Sto} {k : KT} {f : Bool → Sto → R α} {Q : Bool → Hp → Prop} (S : Sim X.K X.mg β st H) (E : ER X.K β H ρ σ)
    (h : PostA X.K X.mg W σ ok β H ((k ρ st).bind f))
    (hq : ∀ b β' H' st', Ext β H β' H' → Sim X.K X.mg β' st' H' → ER X.K β' H' ρ σ → PostA X.K X.mg W σ ok β' H' (f b st') → Q b H') : liftT X.K X.mg W k σ H Q := by
  refine ⟨β, ρ, st, S, E, ?_⟩
  cases hm : k ρ st with
  | ok a st' =>
    rw [hm] at h
    exact fun β' H' e S' => hq a β' H' st' e S' (E.mono e) (PostA.mono e h)
  | exn x st' => rw [hm] at h; exact h
  | bad => rw [hm] at h; exact h
theorem liftA.bind {α : Type} {X : Cx} {W : WX} {σ : L2.St} {ok : α → List Addr → Hp → Prop} {β : List Addr} {H : Hp} {ρ : Env3} {st : Sto} {k : KA} {f : List D → Sto → R α} {Q : List V → Hp → Prop} (S : Sim X.K X.mg β st H) (E : ER X.K β H ρ σ)
    (h : PostA X.K X.mg W σ ok β H ((k ρ st).bind f))
    (hq : ∀ ds vs β' H' st', Ext β H β' H' → Sim X.K X.mg β' st' H' → ER X.K β' H' ρ σ → VRs X.K β' H' ds vs → PostA X.K X.mg W σ ok β' H' (f ds st') → Q vs H') : liftA X.K X.mg W k σ H Q := by
  refine ⟨β, ρ, st, S, E, ?_⟩
  cases hm : k ρ st with
  | ok a st' =>
    rw [hm] at h
    exact fun β' H' e S' v r => hq a v β' H' st' e S' (E.mono e) r (PostA.mono e h)
  | exn x st' => rw [hm] at h; exact h
  | bad => rw [hm] at h; exact h
end L3

namespace L3
open PySem PySem.Spec PyProof.Rows L2

/-! ### the combinators: what an expression means -/
def kv (i : Nat) : KE := fun ρ st => match ρ[i]? with
  | some (some d) => .ok d st
  | _ => .bad
def kc (d : D) : KE := fun _ st => .ok d st
def k1 (f : D → Sto → R D) (a : KE) : KE := fun ρ st => (a ρ st).bind f
def k2 (f : D → D → Sto → R D) (a b : KE) : KE := fun ρ st => (a ρ st).bind fun x st1 => (b ρ st1).bind fun y st2 => f x y st2
def kA0 : KA := fun _ st => .ok [] st
def kA1 (a : KE) (r : KA) : KA := fun ρ st => (a ρ st).bind fun x st1 => (r ρ st1).bind fun xs st2 => .ok (x :: xs) st2
def kF (f : List D → Sto → R D) (a : KA) : KE := fun ρ st => (a ρ st).bind f
def tupF (xs : List D) (st : Sto) : R D := if xs.length ≤ 16777216 then .ok (.tup xs) st else .bad
def lstF (xs : List D) (st : Sto) : R D := if xs.length ≤ 16777216 then .ok (.loc st.length) (st ++ [.lst xs]) else .bad
def kM (ty : D → Sto → Bool) (f : D → List D → Sto → R D) (o : KE) (a : KA) : KE := fun ρ st => (o ρ st).bind fun x st1 => if ty x st1 = true then (a ρ st1).bind fun xs st2 => f x xs st2 else .bad
/-- tests -/
def truD (d : D) (st : Sto) : Option Bool := match d with
  | .non => some false
  | .bl b => some b
  | .int i => some (i != 0)
  | .str x => if x.length ≤ 16777216 then some ((x.length : Int) != 0) else none
  | .tup xs => some (!xs.isEmpty)
  | .frz xs => some (!xs.isEmpty)
  | .loc n => match st[n]? with
    | some (.lst xs) => some (!xs.isEmpty)
    | some (.dK xs) => some (!xs.isEmpty)
    | _ => none
  | _ => none
def kTr (a : KE) : KT := fun ρ st => (a ρ st).bind fun d st1 => match truD d st1 with
  | some b => .ok b st1
  | none => .bad
def kTb (a : KE) : KT := fun ρ st => (a ρ st).bind fun d st1 => match d with
  | .bl b => .ok b st1
  | _ => .bad
def tAnd3 (a b : KT) : KT := fun ρ st => (a ρ st).bind fun c st1 => if c = true then b ρ st1 else .ok false st1
def tOr3 (a b : KT) : KT := fun ρ st => (a ρ st).bind fun c st1 => if c = true then .ok true st1 else b ρ st1
def tNot3 (a : KT) : KT := fun ρ st => (a ρ st).bind fun c st1 => .ok (!c) st1
def kIf (c : KT) (a b : KE) : KE := fun ρ st => (c ρ st).bind fun k st1 => if k = true then a ρ st1 else b ρ st1
def kAndV (a b : KE) : KE := fun ρ st => (a ρ st).bind fun d st1 => match truD d st1 with
  | some true => b ρ st1
  | some false => .ok d st1
  | none => .bad
def kOrV (a b : KE) : KE := fun ρ st => (a ρ st).bind fun d st1 => match truD d st1 with
  | some true => .ok d st1
  | some false => b ρ st1
  | none => .bad
def kNotV (a : KE) : KE := fun ρ st => (a ρ st).bind fun d st1 => match truD d st1 with
  | some k => .ok (.bl (!k)) st1
  | none => .bad
def kChain (f g : D → D → Sto → R D) (a b c : KE) : KE := fun ρ st => (a ρ st).bind fun x st1 => (b ρ st1).bind fun y st2 => (f x y st2).bind fun z st3 => match z with
  | .bl true => (c ρ st3).bind fun w st4 => g y w st4
  | .bl false => .ok (.bl false) st3
  | _ => .bad

/-! ### soundness of the parts -/
section
variable {X : Cx} {W : WX}

/-- an operation on two values -/
def OpS (X : Cx) (W : WX) (F : Value → Value → Sem Value) (f : D → D → Sto → R D) : Prop :=
  ∀ (pins : List (Addr × Obj)) (s : Shared) (σ : L2.St) (H : Hp) (x y : V) (v u : Value) (Q : VK) (β : List Addr) (st : Sto) (dx dy : D), Inv X pins σ H s → RelV x v → RelV y u → Sim X.K X.mg β st H → VR X.K β H dx x → VR X.K β H dy y →
    PostA X.K X.mg W σ (okE X.K Q) β H (f dx dy st) → wpAny (model X.prog X.w) X.A (F v u) (EP X pins σ Q) X.xe s
theorem OpS.of {F : Value → Value → Sem Value} {r : R2} {f : D → D → Sto → R D} (h : OpR X F r)
    (i : ∀ (σ : L2.St) (H : Hp) (x y : V) (Q : VK) (β : List Addr) (st : Sto) (dx dy : D), Sim X.K X.mg β st H → VR X.K β H dx x → VR X.K β H dy y → PostA X.K X.mg W σ (okE X.K Q) β H (f dx dy st) → r x y H Q) : OpS X W F f :=
  fun pins s σ H x y v u Q β st dx dy I rx ry S vx vy p => h pins s σ H x y v u Q I rx ry (i σ H x y Q β st dx dy S vx vy p)
def UnS (X : Cx) (W : WX) (F : Value → Sem Value) (f : D → Sto → R D) : Prop :=
  ∀ (pins : List (Addr × Obj)) (s : Shared) (σ : L2.St) (H : Hp) (x : V) (v : Value) (Q : VK) (β : List Addr) (st : Sto) (dx : D), Inv X pins σ H s → RelV x v → Sim X.K X.mg β st H → VR X.K β H dx x →
    PostA X.K X.mg W σ (okE X.K Q) β H (f dx st) → wpAny (model X.prog X.w) X.A (F v) (EP X pins σ Q) X.xe s
def CallS (X : Cx) (W : WX) (F : Value) (f : List D → Sto → R D) : Prop :=
  ∀ (pins : List (Addr × Obj)) (s : Shared) (σ : L2.St) (H : Hp) (xs : List V) (us : List Value) (Q : VK) (β : List Addr) (st : Sto) (ds : List D), Inv X pins σ H s → Vals xs us → Sim X.K X.mg β st H → VRs X.K β H ds xs →
    PostA X.K X.mg W σ (okE X.K Q) β H (f ds st) → wpAny (model X.prog X.w) X.A (call F us) (EP X pins σ Q) X.xe s
theorem CallS.of {F : Value} {r : List V → Hp → VK → Prop} {f : List D → Sto → R D} (h : CallR X F r)
    (i : ∀ (σ : L2.St) (H : Hp) (xs : List V) (Q : VK) (β : List Addr) (st : Sto) (ds : List D), Sim X.K X.mg β st H → VRs X.K β H ds xs → PostA X.K X.mg W σ (okE X.K Q) β H (f ds st) → r xs H Q) : CallS X W F f :=
  fun pins s σ H xs us Q β st ds I rx S vx p => h pins s σ H xs us Q I rx (i σ H xs Q β st ds S vx p)
def MtS3 (X : Cx) (W : WX) (id : String) (f : D → List D → Sto → R D) : Prop :=
  ∀ (pins : List (Addr × Obj)) (s : Shared) (σ : L2.St) (H : Hp) (x : V) (xs : List V) (v : Value) (us : List Value) (Q : VK) (β : List Addr) (st : Sto) (d : D) (ds : List D), Inv X pins σ H s → RelV x v → Vals xs us → Sim X.K X.mg β st H → VR X.K β H d x → VRs X.K β H ds xs →
    PostA X.K X.mg W σ (okE X.K Q) β H (f d ds st) → wpAny (model X.prog X.w) X.A (call (.builtin id) (v :: us)) (EP X pins σ Q) X.xe s
theorem MtS3.of {id : String} {r : V → List V → Hp → VK → Prop} {f : D → List D → Sto → R D} (h : MtR X id r)
    (i : ∀ (σ : L2.St) (H : Hp) (x : V) (xs : List V) (Q : VK) (β : List Addr) (st : Sto) (d : D) (ds : List D), Sim X.K X.mg β st H → VR X.K β H d x → VRs X.K β H ds xs → PostA X.K X.mg W σ (okE X.K Q) β H (f d ds st) → r x xs H Q) : MtS3 X W id f :=
  fun pins s σ H x xs v us Q β st d ds I rv rx S vd vx p => h pins s σ H x xs v us Q I rv rx (i σ H x xs Q β st d ds S vd vx p)

variable {e a b c : Expr} {es rest : List Expr} {pos : Pos} {ka kb kcc : KE} {kt kt' : KT} {kas : KA}
theorem q_v {i : Nat} {x : Str} (hN : X.N[i]? = some x := by rfl) (hv : Vis X.env.scope x := by first | exact Or.inl rfl | exact Or.inr (Or.inl rfl) | exact Or.inr (Or.inr rfl)) (hd : (x == ("__debug__" : Str)) = false := by decide)
    (hcd : (x == ("__classdict__" : Str)) = false := by decide) : PE X (.Name x pos) (lift X.K X.mg W (kv i)) :=
  PE.imp (pe_var (i := i) hN hv hd hcd) fun σ H Q ⟨β, ρ, st, S, E, p⟩ => by
    unfold kv at p
    split at p
    · rename_i d hd
      obtain ⟨v, h1, h2⟩ := E.2 i d hd
      exact ⟨v, h1, p β H (Ext.refl β H) S v h2⟩
    · exact p.elim
theorem q_c {t : TE} {d : D} {v : V} (h : PE X e (tC v)) (r : ∀ β H, VR X.K β H d v) : PE X e (lift X.K X.mg W (kc d)) :=
  PE.imp h fun σ H Q ⟨β, ρ, st, S, E, p⟩ => p β H (Ext.refl β H) S v (r β H)
theorem q_int {i j} : PE X (.Constant (.int i) j pos) (lift X.K X.mg W (kc (.int i))) := q_c (t := tC (.int i)) pe_int fun _ _ => VR.int.mpr rfl
theorem q_bl {i j} : PE X (.Constant (.bool i) j pos) (lift X.K X.mg W (kc (.bl i))) := q_c (t := tC (.bl i)) pe_bl fun _ _ => VR.bl.mpr rfl
theorem q_str {i j} : PE X (.Constant (.str i) j pos) (lift X.K X.mg W (kc (.str i))) := q_c (t := tC (.str i)) pe_str fun _ _ => VR.str.mpr rfl
theorem q_non {j} : PE X (.Constant .none j pos) (lift X.K X.mg W (kc .non)) := q_c (t := tC .non) pe_non fun _ _ => VR.non.mpr rfl
/-- a module's constant -/
theorem q_gint {x : Str} {i : Int} {t : Tok} (hg : Gl X x) (hm : X.mg x = some (.int i t)) (hd : (x == ("__debug__" : Str)) = false := by decide) : PE X (.Name x pos) (lift X.K X.mg W (kc (.int i))) := q_c (t := tC (.int i)) (pe_glob (v := .int i) hg hm ⟨t, rfl⟩ hd) fun _ _ => VR.int.mpr rfl
theorem q_gstr {x : Str} {i : Str} {t : Tok} (hg : Gl X x) (hm : X.mg x = some (.str i t)) (hd : (x == ("__debug__" : Str)) = false := by decide) : PE X (.Name x pos) (lift X.K X.mg W (kc (.str i))) := q_c (t := tC (.str i)) (pe_glob (v := .str i) hg hm ⟨t, rfl⟩ hd) fun _ _ => VR.str.mpr rfl

/-- two in a row -/
theorem run2 {α : Type} {pins : List (Addr × Obj)} {s : Shared} {σ : L2.St} {H : Hp} {β : List Addr} {ρ : Env3} {st : Sto} {ok : α → List Addr → Hp → Prop} {f : D → D → Sto → R α} (ha : PE X a (lift X.K X.mg W ka)) (hb : PE X b (lift X.K X.mg W kb)) (I : Inv X pins σ H s)
    (S : Sim X.K X.mg β st H) (E : ER X.K β H ρ σ) (p : PostA X.K X.mg W σ ok β H ((ka ρ st).bind fun x st1 => (kb ρ st1).bind fun y st2 => f x y st2)) {Z : Value → Value → Shared → Prop}
    (hf : ∀ v u s2 x y H2 β2 st2 dx dy, Inv X pins σ H2 s2 → RelV x v → RelV y u → Sim X.K X.mg β2 st2 H2 → ER X.K β2 H2 ρ σ → VR X.K β2 H2 dx x → VR X.K β2 H2 dy y → PostA X.K X.mg W σ ok β2 H2 (f dx dy st2) → Z v u s2) :
    wpAny (model X.prog X.w) X.A (eval a X.env) (fun v s₁ => wpAny (model X.prog X.w) X.A (eval b X.env) (fun u s₂ => Z v u s₂) X.xe s₁) X.xe s := by
  refine thn (ha.run pins s σ H (fun x H1 => ∃ β1 st1 dx, Sim X.K X.mg β1 st1 H1 ∧ ER X.K β1 H1 ρ σ ∧ VR X.K β1 H1 dx x ∧ PostA X.K X.mg W σ ok β1 H1 ((kb ρ st1).bind fun y st2 => f dx y st2)) I
    (lift.bind S E p fun d v β' H' st' e' S' E' r' p' => ⟨β', st', d, S', E', r', p'⟩)) fun v s1 ⟨x, H1, I1, r1, β1, st1, dx, S1, E1, v1, p1⟩ => ?_
  refine thn (hb.run pins s1 σ H1 (fun y H2 => ∃ β2 st2 dy, Ext β1 H1 β2 H2 ∧ Sim X.K X.mg β2 st2 H2 ∧ ER X.K β2 H2 ρ σ ∧ VR X.K β2 H2 dy y ∧ PostA X.K X.mg W σ ok β2 H2 (f dx dy st2)) I1
    (lift.bind S1 E1 p1 fun d v β' H' st' e' S' E' r' p' => ⟨β', st', d, e', S', E', r', p'⟩)) fun u s2 ⟨y, H2, I2, r2, β2, st2, dy, e2, S2, E2, v2, p2⟩ => ?_
  exact hf v u s2 x y H2 β2 st2 dx dy I2 r1 r2 S2 E2 (VR.mono e2 _ _ v1) v2 p2

theorem q_op {op : Operator} {f : D → D → Sto → R D} (ho : OpS X W (binaryOp op) f) (ha : PE X a (lift X.K X.mg W ka)) (hb : PE X b (lift X.K X.mg W kb)) : PE X (.BinOp a op b pos) (lift X.K X.mg W (k2 f ka kb)) := by
  refine ⟨fun pins s σ H Q I ⟨β, ρ, st, S, E, p⟩ => ?_⟩
  exact wpAny_BinOp (run2 ha hb I S E p fun v u s2 x y H2 β2 st2 dx dy I2 r1 r2 S2 E2 v1 v2 p2 => ho pins s2 σ H2 x y v u Q β2 st2 dx dy I2 r1 r2 S2 v1 v2 p2)
theorem q_cmp {op : CmpOp} {f : D → D → Sto → R D} (ho : OpS X W (compareOp op) f) (ha : PE X a (lift X.K X.mg W ka)) (hb : PE X b (lift X.K X.mg W kb)) (hm : behindInMarks op b = false) : PE X (.Compare a [op] [b] pos) (lift X.K X.mg W (k2 f ka kb)) := by
  refine ⟨fun pins s σ H Q I ⟨β, ρ, st, S, E, p⟩ => ?_⟩
  exact wpAny_Compare1 (run2 ha hb I S E p fun v u s2 x y H2 β2 st2 dx dy I2 r1 r2 S2 E2 v1 v2 p2 => ho pins s2 σ H2 x y v u Q β2 st2 dx dy I2 r1 r2 S2 v1 v2 p2) hm
theorem q_un {op : UnaryOp} {f : D → Sto → R D} (ho : UnS X W (unaryOp op) f) (ha : PE X a (lift X.K X.mg W ka)) : PE X (.UnaryOp op a pos) (lift X.K X.mg W (k1 f ka)) := by
  refine ⟨fun pins s σ H Q I ⟨β, ρ, st, S, E, p⟩ => ?_⟩
  refine UnaryOp_ (thn (ha.run pins s σ H (fun x H1 => ∃ β1 st1 dx, Sim X.K X.mg β1 st1 H1 ∧ VR X.K β1 H1 dx x ∧ PostA X.K X.mg W σ (okE X.K Q) β1 H1 (f dx st1)) I
    (lift.bind S E p fun d v β' H' st' e' S' E' r' p' => ⟨β', st', d, S', r', p'⟩)) fun v s1 ⟨x, H1, I1, r1, β1, st1, dx, S1, v1, p1⟩ => ?_)
  exact ho pins s1 σ H1 x v Q β1 st1 dx I1 r1 S1 v1 p1
/-- a subscript by values -/
def IxS (X : Cx) (W : WX) (f : D → D → Sto → R D) : Prop :=
  ∀ (value slice : Expr) (pins : List (Addr × Obj)) (s : Shared) (σ : L2.St) (H : Hp) (x y : V) (v u : Value) (Q : VK) (β : List Addr) (st : Sto) (dx dy : D), Inv X pins σ H s → RelV x v → RelV y u → Sim X.K X.mg β st H → VR X.K β H dx x → VR X.K β H dy y →
    PostA X.K X.mg W σ (okE X.K Q) β H (f dx dy st) → subscripted slice false v u = operate [v, u] (getItem v u) → wpAny (model X.prog X.w) X.A (subscriptTail value slice v u) (EP X pins σ Q) X.xe s
theorem q_ix {f : D → D → Sto → R D} (ho : IxS X W f) (ha : PE X a (lift X.K X.mg W ka)) (hb : PE X b (lift X.K X.mg W kb)) (hs : PlainIx b) : PE X (.Subscript a b pos) (lift X.K X.mg W (k2 f ka kb)) := by
  refine ⟨fun pins s σ H Q I ⟨β, ρ, st, S, E, p⟩ => ?_⟩
  exact Subscript_ (run2 ha hb I S E p fun v u s2 x y H2 β2 st2 dx dy I2 r1 r2 S2 E2 v1 v2 p2 => ho a b pins s2 σ H2 x y v u Q β2 st2 dx dy I2 r1 r2 S2 v1 v2 p2 (hs _ _))

/-! ### arguments and displays -/
theorem q_nil : PA X [] (liftA X.K X.mg W kA0) := PA.imp pa_nil fun σ H Q ⟨β, ρ, st, S, E, p⟩ => p β H (Ext.refl β H) S [] (VRs.nil.mpr rfl)
theorem q_cons (ha : PE X a (lift X.K X.mg W ka)) (hr : PA X es (liftA X.K X.mg W kas)) (hs : starEach (a :: es) X.env = (false, eval a X.env) :: starEach es X.env := by rfl) : PA X (a :: es) (liftA X.K X.mg W (kA1 ka kas)) :=
  PA.imp (pa_cons ha hr hs) fun σ H Q ⟨β, ρ, st, S, E, p⟩ => lift.bind S E p fun d v β1 H1 st1 e1 S1 E1 r1 p1 =>
    liftA.bind S1 E1 p1 fun ds vs β2 H2 st2 e2 S2 E2 r2 p2 => p2 β2 H2 (Ext.refl _ _) S2 (v :: vs) (VRs.cons.mpr ⟨v, vs, rfl, VR.mono e2 _ _ r1, r2⟩)
theorem szl {n : Nat} (h : n ≤ 16777216) : n ≤ sizeLine := by rw [sizeLine_eq]; exact h
theorem q_tup {x1} (h : PA X es (liftA X.K X.mg W kas)) : PE X (.Tuple es x1 pos) (lift X.K X.mg W (kF tupF kas)) :=
  PE.imp (pe_tup h) fun σ H Q ⟨β, ρ, st, S, E, p⟩ => liftA.bind S E p fun ds vs β1 H1 st1 e1 S1 E1 r1 p1 => by
    unfold tupF at p1
    split at p1
    · rename_i hz
      refine ⟨by rw [r1.length]; exact szl hz, fun q hq => p1 β1 _ (ext_new0 hq) (S1.new0 hq) _ (VR.tup.mpr ⟨q, vs, rfl, upd_same, VRs.mono (ext_new0 hq) _ _ r1⟩)⟩
    · exact p1.elim
theorem newLst {K : PySem.W.Frag} {mg : Str → Option Value} {β : List Addr} {st : Sto} {H : Hp} {ds : List D} {vs : List V} {q : Addr} (S : Sim K mg β st H) (r : VRs K β H ds vs) (hq : H q = none) :
    Ext β H (β ++ [q]) (upd H q (.lst vs)) ∧ Sim K mg (β ++ [q]) (st ++ [.lst ds]) (upd H q (.lst vs)) ∧ VR K (β ++ [q]) (upd H q (.lst vs)) (.loc st.length) (.ref q) :=
  ⟨ext_new hq, S.push hq ⟨vs, upd_same, VRs.mono (ext_new hq) _ _ r⟩, VR.loc.mpr ⟨q, by rw [← S.len]; simp, rfl⟩⟩
theorem q_lst (h : PA X es (liftA X.K X.mg W kas)) : PE X (.List es pos) (lift X.K X.mg W (kF lstF kas)) :=
  PE.imp (pe_lst h) fun σ H Q ⟨β, ρ, st, S, E, p⟩ => liftA.bind S E p fun ds vs β1 H1 st1 e1 S1 E1 r1 p1 => by
    unfold lstF at p1
    split at p1
    · rename_i hz
      refine ⟨by rw [r1.length]; exact szl hz, fun q hq => ?_⟩
      obtain ⟨x1, x2, x3⟩ := newLst S1 r1 hq
      exact p1 _ _ x1 x2 _ x3
    · exact p1.elim

/-! ### calls of built-ins -/
theorem q_callB {x : Str} {p : Pos} {id : String} {f : List D → Sto → R D} (hc : CallS X W (.builtin id) f) (hg : Gl X x) (hm : X.mg x = none) (hv : bootBuiltins x = some (.builtin id)) (ha : PA X (a :: es) (liftA X.K X.mg W kas)) (hn : x ≠ "__name__" := by decide) (hdb : (x == ("__debug__" : Str)) = false := by decide)
    (he : starEach (a :: es) X.env = (false, eval a X.env) :: starEach es X.env := by rfl) (hpl : (backTo pos (starEach es X.env)).any (·.1) = false := by rfl) : PE X (.Call (.Name x p) (a :: es) [] pos) (lift X.K X.mg W (kF f kas)) := by
  refine ⟨fun pins s σ H Q I ⟨β, ρ, st, S, E, q⟩ => ?_⟩
  refine wpAny_Call_Name_kw (ld_blt I hg hm hv ?_ hn hdb)
  refine PyProof.Rows.callWith_builtin1 (thn (ha.run pos pins s σ H (fun xs H1 => ∃ β1 st1 ds, Sim X.K X.mg β1 st1 H1 ∧ VRs X.K β1 H1 ds xs ∧ PostA X.K X.mg W σ (okE X.K Q) β1 H1 (f ds st1)) I
    (liftA.bind S E q fun d v β' H' st' e' S' E' r' p' => ⟨β', st', d, S', r', p'⟩)) fun us s1 ⟨vs, H1, I1, r1, β1, st1, ds, S1, v1, p1⟩ => ?_) he hpl
  exact hc pins s1 σ H1 vs us Q β1 st1 ds I1 r1 S1 v1 p1
theorem q_callTy {x : Str} {p : Pos} {T : String} {f : List D → Sto → R D} (hc : CallS X W (.type T) f) (hg : Gl X x) (hm : X.mg x = none) (hv : bootBuiltins x = some (.type T)) (ha : PA X (a :: es) (liftA X.K X.mg W kas)) (hn : x ≠ "__name__" := by decide) (hdb : (x == ("__debug__" : Str)) = false := by decide)
    (he : starEach (a :: es) X.env = (false, eval a X.env) :: starEach es X.env := by rfl) (hpl : (backTo pos (starEach es X.env)).any (·.1) = false := by rfl) : PE X (.Call (.Name x p) (a :: es) [] pos) (lift X.K X.mg W (kF f kas)) := by
  refine ⟨fun pins s σ H Q I ⟨β, ρ, st, S, E, q⟩ => ?_⟩
  refine wpAny_Call_Name_kw (ld_blt I hg hm hv ?_ hn hdb)
  refine PyProof.Rows.callWith_type1 (thn (ha.run pos pins s σ H (fun xs H1 => ∃ β1 st1 ds, Sim X.K X.mg β1 st1 H1 ∧ VRs X.K β1 H1 ds xs ∧ PostA X.K X.mg W σ (okE X.K Q) β1 H1 (f ds st1)) I
    (liftA.bind S E q fun d v β' H' st' e' S' E' r' p' => ⟨β', st', d, S', r', p'⟩)) fun us s1 ⟨vs, H1, I1, r1, β1, st1, ds, S1, v1, p1⟩ => ?_) he hpl
  exact hc pins s1 σ H1 vs us Q β1 st1 ds I1 r1 S1 v1 p1

/-! ### tests -/
theorem lineI {n : Nat} (h : n ≤ 16777216) : n ≤ sizeLine := szl h
theorem tru_rel {K : PySem.W.Frag} {mg : Str → Option Value} {β : List Addr} {st : Sto} {H : Hp} {d : D} {v : V} {k : Bool} (S : Sim K mg β st H) (r : VR K β H d v) (h : truD d st = some k) : TruV K v H k := by
  cases d with
  | non => cases VR.non.mp r; cases h; rfl
  | bl b => cases VR.bl.mp r; cases h; rfl
  | int i => cases VR.int.mp r; cases h; rfl
  | str x =>
    cases VR.str.mp r
    simp only [truD] at h
    split at h
    · rename_i hz; cases h; exact ⟨szl hz, rfl⟩
    · cases h
  | tup xs =>
    obtain ⟨a, vs, rfl, h1, h2⟩ := VR.tupS r
    cases h
    refine .inr (.inl ⟨vs, h1, ?_⟩)
    have hl := h2.length
    cases xs <;> cases vs <;> simp_all
  | cls _ => cases h
  | lam _ _ _ => cases h
  | fn _ _ => cases h
  | fdk _ _ => cases h
  | frz xs =>
    obtain ⟨a, vs, rfl, h1, h2⟩ := VR.frz.mp r
    cases h
    refine .inl ⟨vs, h1.sq, ?_⟩
    have hl := h2.length
    cases xs <;> cases vs <;> simp_all
  | loc n =>
    obtain ⟨a, h1, rfl⟩ := VR.loc.mp r
    obtain ⟨o, h2, h3⟩ := S.at h1
    simp only [truD, h2] at h
    cases o with
    | lst xs =>
      cases h
      obtain ⟨vs, h4, h5⟩ := h3
      refine .inl ⟨vs, SqL.of h4, ?_⟩
      have hl := h5.length
      cases xs <;> cases vs <;> simp_all
    | dK xs =>
      cases h
      obtain ⟨vs, h4, h5⟩ := h3
      refine .inr (.inr ⟨vs, h4, ?_⟩)
      cases h5 <;> rfl
    | dT _ => cases h
    | ins _ _ => cases h
    | tb _ _ => cases h
/-- a test of any value, by its truth -/
theorem q_tr (ha : PE X a (lift X.K X.mg W ka)) (he : ∀ whole, isTrue a X.env whole = (do let v ← whole; standAt a.pos; holding [v] (truthy v)) := by intro _; rfl) : PT X a (liftT X.K X.mg W (kTr ka)) :=
  PT.imp (pt_truth ha he) fun σ H Q ⟨β, ρ, st, S, E, p⟩ => lift.bind S E p fun d v β1 H1 st1 e1 S1 E1 r1 p1 => by
    split at p1
    · rename_i k hk
      exact ⟨k, tru_rel S1 r1 hk, p1 β1 H1 (Ext.refl _ _) S1⟩
    · exact p1.elim
/-- a comparison as a test -/
theorem q_tcmp {op : CmpOp} {f : D → D → Sto → R D} (ho : OpS X W (compareOp op) f) (ha : PE X a (lift X.K X.mg W ka)) (hb : PE X b (lift X.K X.mg W kb)) (hm : behindInMarks op b = false) : PT X (.Compare a [op] [b] pos) (liftT X.K X.mg W (kTb (k2 f ka kb))) := by
  refine ⟨fun pins s σ H Q I ⟨β, ρ, st, S, E, p⟩ => ?_⟩
  have p' : PostA X.K X.mg W σ (okT Q) β H ((ka ρ st).bind fun x st1 => (kb ρ st1).bind fun y st2 => (f x y st2).bind fun d st3 => match d with | .bl b => R.ok b st3 | _ => R.bad) := by
    unfold kTb k2 at p
    cases h1 : ka ρ st with
    | ok x st1 =>
      rw [h1] at p
      simp only [R.bind_ok] at p ⊢
      cases h2 : kb ρ st1 with
      | ok y st2 => rw [h2] at p; simpa only [R.bind_ok] using p
      | exn z st2 => rw [h2] at p; exact p
      | bad => rw [h2] at p; exact p
    | exn z st2 => rw [h1] at p; exact p
    | bad => rw [h1] at p; exact p
  refine wpAny_isTrue_Compare1 (run2 ha hb I S E p' fun v u s2 x y H2 β2 st2 dx dy I2 r1 r2 S2 E2 v1 v2 p2 => ?_) hm
  refine thn (ho pins s2 σ H2 x y v u (fun z H3 => ∃ k, z = .bl k ∧ Q k H3) β2 st2 dx dy I2 r1 r2 S2 v1 v2 ?_) fun c s3 ⟨z, H3, I3, r3, k, e, q3⟩ => ?_
  · exact PostA.imp (fun d β3 H3 ⟨st3, S3, p3⟩ v3 r3 => by
      cases d with
      | bl k => exact ⟨k, VR.bl.mp r3, p3 β3 H3 (Ext.refl _ _) S3⟩
      | _ => exact p3.elim) (PostA.bind p2)
  · subst e
    cases r3
    exact wpAny_truthy_bool ⟨H3, I3, q3⟩
end
end L3

namespace L3
open PySem PySem.Spec PyProof.Rows L2
section
variable {X : Cx} {W : WX} {e a b c : Expr} {es rest : List Expr} {pos : Pos} {ka kb kcc : KE} {kt kt' : KT} {kas : KA}

/-! ### chains, and, or, not, if -/
theorem q_chain {op op' : CmpOp} {f g : D → D → Sto → R D} (ho : OpS X W (compareOp op) f) (ho' : OpS X W (compareOp op') g) (ha : PE X a (lift X.K X.mg W ka)) (hb : PE X b (lift X.K X.mg W kb)) (hc : PE X c (lift X.K X.mg W kcc))
    (hm : lastMarks [op, op'] [b, c] = false := by with_unfolding_all rfl) : PE X (.Compare a [op, op'] [b, c] pos) (lift X.K X.mg W (kChain f g ka kb kcc)) := by
  refine ⟨fun pins s σ H Q I ⟨β, ρ, st, S, E, p⟩ => ?_⟩
  refine Compare_chain ?_ hm
  refine thn (ha.run pins s σ H (fun x H1 => ∃ β1 st1 dx, Sim X.K X.mg β1 st1 H1 ∧ ER X.K β1 H1 ρ σ ∧ VR X.K β1 H1 dx x ∧ PostA X.K X.mg W σ (okE X.K Q) β1 H1 ((kb ρ st1).bind fun y st2 => (f dx y st2).bind fun z st3 => match z with | .bl true => (kcc ρ st3).bind fun w st4 => g y w st4 | .bl false => .ok (.bl false) st3 | _ => .bad)) I
    (lift.bind S E p fun d v β' H' st' e' S' E' r' p' => ⟨β', st', d, S', E', r', p'⟩)) fun v s1 ⟨x, H1, I1, r1, β1, st1, dx, S1, E1, v1, p1⟩ => ?_
  refine chain_link (thn (hb.run pins s1 σ H1 (fun y H2 => ∃ β2 st2 dy, Ext β1 H1 β2 H2 ∧ Sim X.K X.mg β2 st2 H2 ∧ ER X.K β2 H2 ρ σ ∧ VR X.K β2 H2 dy y ∧ PostA X.K X.mg W σ (okE X.K Q) β2 H2 ((f dx dy st2).bind fun z st3 => match z with | .bl true => (kcc ρ st3).bind fun w st4 => g dy w st4 | .bl false => .ok (.bl false) st3 | _ => .bad)) I1
    (lift.bind S1 E1 p1 fun d v β' H' st' e' S' E' r' p' => ⟨β', st', d, e', S', E', r', p'⟩)) fun u s2 ⟨y, H2, I2, r2, β2, st2, dy, e2, S2, E2, v2, p2⟩ => ?_)
  refine thn (ho pins s2 σ H2 x y v u (fun z H3 => ∃ k β3 st3, z = .bl k ∧ Ext β2 H2 β3 H3 ∧ Sim X.K X.mg β3 st3 H3 ∧ PostA X.K X.mg W σ (okE X.K Q) β3 H3 (if k = true then (kcc ρ st3).bind fun w st4 => g dy w st4 else .ok (.bl false) st3)) β2 st2 dx dy I2 r1 r2 S2 (VR.mono e2 _ _ v1) v2 ?_) fun d s3 ⟨z, H3, I3, r3, k, β3, st3, e, e3, S3, p3⟩ => ?_
  · cases hf : f dx dy st2 with
    | ok z st3 =>
      rw [hf] at p2
      intro β3 H3 e3 S3 v3 r3
      cases z with
      | bl k =>
        refine ⟨k, β3, st3, VR.bl.mp r3, e3, S3, ?_⟩
        have p2' := PostA.mono e3 p2
        cases k <;> exact p2'
      | _ => exact p2.elim
    | exn z st3 => rw [hf] at p2; exact p2
    | bad => rw [hf] at p2; exact p2
  · subst e
    cases r3
    refine wpAny_truthy_bool ?_
    cases k with
    | false => exact ite_ff ⟨.bl false, H3, I3, rfl, p3 β3 H3 (Ext.refl _ _) S3 _ (VR.bl.mpr rfl)⟩
    | true =>
      refine ite_tt (chain_last (thn (hc.run pins s3 σ H3 (fun w H4 => ∃ β4 st4 dw, Ext β3 H3 β4 H4 ∧ Sim X.K X.mg β4 st4 H4 ∧ VR X.K β4 H4 dw w ∧ PostA X.K X.mg W σ (okE X.K Q) β4 H4 (g dy dw st4)) I3
        (lift.bind S3 (E2.mono e3) p3 fun d v β' H' st' e' S' E' r' p' => ⟨β', st', d, e', S', r', p'⟩)) fun w' s4 ⟨z', H4, I4, r4, β4, st4, dw, e4, S4, v4, p4⟩ => ?_))
      exact ho' pins s4 σ H4 y z' u w' Q β4 st4 dy dw I4 r2 r4 S4 (VR.mono (e3.trans e4) _ _ v2) v4 p4
/-- such a comparison as a test -/
theorem q_tchain {op op' : CmpOp} {f g : D → D → Sto → R D} (ho : OpS X W (compareOp op) f) (ho' : OpS X W (compareOp op') g) (ha : PE X a (lift X.K X.mg W ka)) (hb : PE X b (lift X.K X.mg W kb)) (hc : PE X c (lift X.K X.mg W kcc))
    (hm : lastMarks [op, op'] [b, c] = false := by with_unfolding_all rfl) : PT X (.Compare a [op, op'] [b, c] pos) (liftT X.K X.mg W (kTb (kChain f g ka kb kcc))) := by
  refine ⟨fun pins s σ H Q I ⟨β, ρ, st, S, E, p⟩ => ?_⟩
  have p0 : PostA X.K X.mg W σ (okT Q) β H ((ka ρ st).bind fun x st1 => (kb ρ st1).bind fun y st2 => (f x y st2).bind fun z st3 => match z with
    | .bl true => (kcc ρ st3).bind fun w st4 => (g y w st4).bind fun q st5 => match q with | .bl b => R.ok b st5 | _ => .bad
    | .bl false => .ok false st3
    | _ => .bad) := by
    unfold kTb kChain at p
    cases h1 : ka ρ st with
    | ok x st1 =>
      rw [h1] at p; simp only [R.bind_ok] at p ⊢
      cases h2 : kb ρ st1 with
      | ok y st2 =>
        rw [h2] at p; simp only [R.bind_ok] at p ⊢
        cases h3 : f x y st2 with
        | ok z st3 =>
          rw [h3] at p; simp only [R.bind_ok] at p ⊢
          cases z with
          | bl k =>
            cases k with
            | true =>
              cases h4 : kcc ρ st3 with
              | ok w st4 => simp only [h4, R.bind_ok] at p ⊢; exact p
              | exn _ _ => simp only [h4, R.bind_exn] at p ⊢; exact p
              | bad => simp only [h4, R.bind_bad] at p ⊢; exact p
            | false => exact p
          | _ => exact p
        | exn _ _ => rw [h3] at p; exact p
        | bad => rw [h3] at p; exact p
      | exn _ _ => rw [h2] at p; exact p
      | bad => rw [h2] at p; exact p
    | exn _ _ => rw [h1] at p; exact p
    | bad => rw [h1] at p; exact p
  refine isTrue_chain ?_ hm
  refine thn (ha.run pins s σ H (fun x H1 => ∃ β1 st1 dx, Sim X.K X.mg β1 st1 H1 ∧ ER X.K β1 H1 ρ σ ∧ VR X.K β1 H1 dx x ∧ PostA X.K X.mg W σ (okT Q) β1 H1 ((kb ρ st1).bind fun y st2 => (f dx y st2).bind fun z st3 => match z with
    | .bl true => (kcc ρ st3).bind fun w st4 => (g y w st4).bind fun q st5 => match q with | .bl b => R.ok b st5 | _ => .bad
    | .bl false => .ok false st3
    | _ => .bad)) I
    (lift.bind S E p0 fun d v β' H' st' e' S' E' r' p' => ⟨β', st', d, S', E', r', p'⟩)) fun v s1 ⟨x, H1, I1, r1, β1, st1, dx, S1, E1, v1, p1⟩ => ?_
  refine test_link (thn (hb.run pins s1 σ H1 (fun y H2 => ∃ β2 st2 dy, Ext β1 H1 β2 H2 ∧ Sim X.K X.mg β2 st2 H2 ∧ ER X.K β2 H2 ρ σ ∧ VR X.K β2 H2 dy y ∧ PostA X.K X.mg W σ (okT Q) β2 H2 ((f dx dy st2).bind fun z st3 => match z with
    | .bl true => (kcc ρ st3).bind fun w st4 => (g dy w st4).bind fun q st5 => match q with | .bl b => R.ok b st5 | _ => .bad
    | .bl false => .ok false st3
    | _ => .bad)) I1
    (lift.bind S1 E1 p1 fun d v β' H' st' e' S' E' r' p' => ⟨β', st', d, e', S', E', r', p'⟩)) fun u s2 ⟨y, H2, I2, r2, β2, st2, dy, e2, S2, E2, v2, p2⟩ => ?_)
  refine thn (ho pins s2 σ H2 x y v u (fun z H3 => ∃ k β3 st3, z = .bl k ∧ Ext β2 H2 β3 H3 ∧ Sim X.K X.mg β3 st3 H3 ∧ PostA X.K X.mg W σ (okT Q) β3 H3 (if k = true then (kcc ρ st3).bind fun w st4 => (g dy w st4).bind fun q st5 => match q with | .bl b => R.ok b st5 | _ => .bad else .ok false st3)) β2 st2 dx dy I2 r1 r2 S2 (VR.mono e2 _ _ v1) v2 ?_) fun d s3 ⟨z, H3, I3, r3, k, β3, st3, e, e3, S3, p3⟩ => ?_
  · cases hf : f dx dy st2 with
    | ok z st3 =>
      rw [hf] at p2
      intro β3 H3 e3 S3 v3 r3
      cases z with
      | bl k =>
        refine ⟨k, β3, st3, VR.bl.mp r3, e3, S3, ?_⟩
        have p2' := PostA.mono e3 p2
        cases k <;> exact p2'
      | _ => exact p2.elim
    | exn z st3 => rw [hf] at p2; exact p2
    | bad => rw [hf] at p2; exact p2
  · subst e
    cases r3
    refine wpAny_truthy_bool ?_
    cases k with
    | false => exact ite_ff ⟨H3, I3, p3 β3 H3 (Ext.refl _ _) S3⟩
    | true =>
      refine ite_tt (test_last (thn (hc.run pins s3 σ H3 (fun w H4 => ∃ β4 st4 dw, Ext β3 H3 β4 H4 ∧ Sim X.K X.mg β4 st4 H4 ∧ VR X.K β4 H4 dw w ∧ PostA X.K X.mg W σ (okT Q) β4 H4 ((g dy dw st4).bind fun q st5 => match q with | .bl b => R.ok b st5 | _ => .bad)) I3
        (lift.bind S3 (E2.mono e3) p3 fun d v β' H' st' e' S' E' r' p' => ⟨β', st', d, e', S', r', p'⟩)) fun w' s4 ⟨z', H4, I4, r4, β4, st4, dw, e4, S4, v4, p4⟩ => ?_))
      refine thn (ho' pins s4 σ H4 y z' u w' (fun z H5 => ∃ k, z = .bl k ∧ Q k H5) β4 st4 dy dw I4 r2 r4 S4 (VR.mono (e3.trans e4) _ _ v2) v4 ?_) fun d' s5 ⟨z2, H5, I5, r5, k2, e5, q5⟩ => ?_
      · exact PostA.imp (fun d β5 H5 ⟨st5, S5, p5⟩ v5 r5 => by
          cases d with
          | bl k => exact ⟨k, VR.bl.mp r5, p5 β5 H5 (Ext.refl _ _) S5⟩
          | _ => exact p5.elim) (PostA.bind p4)
      · subst e5
        cases r5
        exact wpAny_truthy_bool ⟨H5, I5, q5⟩

theorem q_tval (ha : PE X a (lift X.K X.mg W ka)) (he : ∀ whole, isTrue a X.env whole = (do let v ← whole; standAt a.pos; holding [v] (truthy v)) := by intro _; rfl) : PT X a (liftT X.K X.mg W (kTb ka)) :=
  PT.imp (pt_val ha he) fun σ H Q ⟨β, ρ, st, S, E, p⟩ => lift.bind S E p fun d v β1 H1 st1 e1 S1 E1 r1 p1 => by
    cases d with
    | bl k => exact ⟨k, VR.bl.mp r1, p1 β1 H1 (Ext.refl _ _) S1⟩
    | _ => exact p1.elim
theorem w_and1 (ha : PT X a (liftT X.K X.mg W kt)) : PW X (.BoolOp .And [a] pos) (liftT X.K X.mg W kt) := pw_and1 ha
theorem w_or1 (ha : PT X a (liftT X.K X.mg W kt)) : PW X (.BoolOp .Or [a] pos) (liftT X.K X.mg W kt) := pw_or1 ha
theorem w_and (ha : PT X a (liftT X.K X.mg W kt)) (hb : PW X (.BoolOp .And (b :: rest) pos) (liftT X.K X.mg W kt')) : PW X (.BoolOp .And (a :: b :: rest) pos) (liftT X.K X.mg W (tAnd3 kt kt')) :=
  PW.imp (pw_and ha hb) fun σ H Q ⟨β, ρ, st, S, E, p⟩ => liftT.bind S E p fun k β1 H1 st1 e1 S1 E1 p1 => by
    cases k with
    | true => exact iteT ⟨β1, ρ, st1, S1, E1, p1⟩
    | false => exact iteF (p1 β1 H1 (Ext.refl _ _) S1)
theorem w_or (ha : PT X a (liftT X.K X.mg W kt)) (hb : PW X (.BoolOp .Or (b :: rest) pos) (liftT X.K X.mg W kt')) : PW X (.BoolOp .Or (a :: b :: rest) pos) (liftT X.K X.mg W (tOr3 kt kt')) :=
  PW.imp (pw_or ha hb) fun σ H Q ⟨β, ρ, st, S, E, p⟩ => liftT.bind S E p fun k β1 H1 st1 e1 S1 E1 p1 => by
    cases k with
    | true => exact iteT (p1 β1 H1 (Ext.refl _ _) S1)
    | false => exact iteF ⟨β1, ρ, st1, S1, E1, p1⟩
theorem q_tnot (ha : PT X a (liftT X.K X.mg W kt)) : PT X (.UnaryOp .Not a pos) (liftT X.K X.mg W (tNot3 kt)) :=
  PT.imp (pt_not ha) fun σ H Q ⟨β, ρ, st, S, E, p⟩ => liftT.bind S E p fun k β1 H1 st1 e1 S1 E1 p1 => p1 β1 H1 (Ext.refl _ _) S1
theorem q_if (hc : PT X c (liftT X.K X.mg W kt)) (ha : PE X a (lift X.K X.mg W ka)) (hb : PE X b (lift X.K X.mg W kb)) : PE X (.IfExp c a b pos) (lift X.K X.mg W (kIf kt ka kb)) :=
  PE.imp (pe_ifExp hc ha hb) fun σ H Q ⟨β, ρ, st, S, E, p⟩ => liftT.bind S E p fun k β1 H1 st1 e1 S1 E1 p1 => by
    cases k with
    | true => exact iteT ⟨β1, ρ, st1, S1, E1, p1⟩
    | false => exact iteF ⟨β1, ρ, st1, S1, E1, p1⟩
theorem q_one {op} (h : PE X a (lift X.K X.mg W ka)) : PE X (.BoolOp op [a] pos) (lift X.K X.mg W ka) := pe_one h
theorem q_andV (ha : PE X a (lift X.K X.mg W ka)) (hb : PE X (.BoolOp .And (b :: rest) pos) (lift X.K X.mg W kb)) : PE X (.BoolOp .And (a :: b :: rest) pos) (lift X.K X.mg W (kAndV ka kb)) :=
  PE.imp (pe_andT ha hb) fun σ H Q ⟨β, ρ, st, S, E, p⟩ => lift.bind S E p fun d v β1 H1 st1 e1 S1 E1 r1 p1 => by
    split at p1
    · rename_i hk; exact ⟨true, tru_rel S1 r1 hk, iteT ⟨β1, ρ, st1, S1, E1, p1⟩⟩
    · rename_i hk; exact ⟨false, tru_rel S1 r1 hk, iteF (p1 β1 H1 (Ext.refl _ _) S1 v r1)⟩
    · exact p1.elim
theorem q_orV (ha : PE X a (lift X.K X.mg W ka)) (hb : PE X (.BoolOp .Or (b :: rest) pos) (lift X.K X.mg W kb)) : PE X (.BoolOp .Or (a :: b :: rest) pos) (lift X.K X.mg W (kOrV ka kb)) :=
  PE.imp (pe_orT ha hb) fun σ H Q ⟨β, ρ, st, S, E, p⟩ => lift.bind S E p fun d v β1 H1 st1 e1 S1 E1 r1 p1 => by
    split at p1
    · rename_i hk; exact ⟨true, tru_rel S1 r1 hk, iteT (p1 β1 H1 (Ext.refl _ _) S1 v r1)⟩
    · rename_i hk; exact ⟨false, tru_rel S1 r1 hk, iteF ⟨β1, ρ, st1, S1, E1, p1⟩⟩
    · exact p1.elim
theorem q_notV (ha : PE X a (lift X.K X.mg W ka)) : PE X (.UnaryOp .Not a pos) (lift X.K X.mg W (kNotV ka)) :=
  PE.imp (pe_notT ha) fun σ H Q ⟨β, ρ, st, S, E, p⟩ => lift.bind S E p fun d v β1 H1 st1 e1 S1 E1 r1 p1 => by
    split at p1
    · rename_i k hk; exact ⟨k, tru_rel S1 r1 hk, p1 β1 H1 (Ext.refl _ _) S1 _ (VR.bl.mpr rfl)⟩
    · exact p1.elim

/-! ### methods of built-in types -/
def tyD (T : String) (d : D) (st : Sto) : Bool := match d with
  | .str _ => T == "str"
  | .int _ => T == "int"
  | .frz _ => T == "list"
  | .loc n => match st[n]? with
    | some (.lst _) => T == "list"
    | some (.dK _) => T == "dict"
    | some (.dT _) => T == "dict"
    | _ => false
  | _ => false
theorem ty_rel {K : PySem.W.Frag} {mg : Str → Option Value} {β : List Addr} {st : Sto} {H : Hp} {d : D} {v : V} {T : String} (S : Sim K mg β st H) (r : VR K β H d v) (h : tyD T d st = true) : tyV K T v H := by
  cases d with
  | str x => cases VR.str.mp r; exact beq_iff_eq.mp h
  | int x => cases VR.int.mp r; exact beq_iff_eq.mp h
  | frz xs =>
    obtain ⟨a, vs, rfl, h1, h2⟩ := VR.frz.mp r
    exact .inl ⟨beq_iff_eq.mp h, vs, h1.sq⟩
  | loc n =>
    obtain ⟨a, h1, rfl⟩ := VR.loc.mp r
    obtain ⟨o, h2, h3⟩ := S.at h1
    simp only [tyD, h2] at h
    cases o with
    | lst xs => obtain ⟨vs, h4, _⟩ := h3; exact .inl ⟨beq_iff_eq.mp h, vs, SqL.of h4⟩
    | dK xs => obtain ⟨vs, h4, _⟩ := h3; exact .inr (.inr (.inl ⟨beq_iff_eq.mp h, .inl ⟨vs, h4⟩⟩))
    | dT xs => obtain ⟨vs, h4, _⟩ := h3; exact .inr (.inr (.inl ⟨beq_iff_eq.mp h, .inr ⟨vs, h4⟩⟩))
    | ins _ _ => cases h
    | tb _ _ => cases h
  | _ => cases h
theorem q_bm {o : Expr} {T id : String} {name : Str} {apos cpos : Pos} {f : D → List D → Sto → R D} (pa : PlainAttrs T) (slot : Slot T name id) (hty : typeOf (.builtin id) = pure (.type "method_descriptor")) (hm : MtS3 X W id f) (ho : PE X o (lift X.K X.mg W ka)) (ha : PA X (a :: es) (liftA X.K X.mg W kas))
    (hbase : attributeBase o name X.env (eval o X.env) = eval o X.env := by rfl)
    (hfew : ((backTo cpos (starEach (a :: es) X.env)).all (fun x => !x.1) && (backToKw cpos (keywordEach [] X.env)).all (fun x => x.1.isSome)
      && decide ((a :: es).length + ([] : List Keyword).length + (if ([] : List Keyword).isEmpty then 0 else 1) < 30)) = true := by rfl)
    (hline : (apos.endLine == cpos.line) = true := by rfl) (hs : starEach (a :: es) X.env = (false, eval a X.env) :: starEach es X.env := by rfl) (hplain : (backTo cpos (starEach es X.env)).any (·.1) = false := by rfl) :
    PE X (.Call (.Attribute o name apos) (a :: es) [] cpos) (lift X.K X.mg W (kM (tyD T) f ka kas)) := by
  refine ⟨fun pins s σ H Q I ⟨β, ρ, st, S, E, p⟩ => ?_⟩
  refine wpAny_Call_method_late hbase hfew hline rfl (thn (ho.run pins s σ H (fun x H1 => ∃ β1 st1 dx, Sim X.K X.mg β1 st1 H1 ∧ ER X.K β1 H1 ρ σ ∧ VR X.K β1 H1 dx x ∧ tyD T dx st1 = true ∧ PostA X.K X.mg W σ (okE X.K Q) β1 H1 ((kas ρ st1).bind fun xs st2 => f dx xs st2)) I
    (lift.bind S E p fun d v β' H' st' e' S' E' r' p' => by
      split at p'
      · rename_i ht; exact ⟨β', st', d, S', E', r', ht, p'⟩
      · exact p'.elim)) fun v s1 ⟨x, H1, I1, r1, β1, st1, dx, S1, E1, v1, ht, p1⟩ => ?_)
  obtain ⟨h1, h2⟩ := tyV_is I1 r1 (ty_rel S1 v1 ht)
  refine ⟨T, id, pa, slot, hty, h1, h2, ?_⟩
  have hA := ha.run cpos pins s1 σ H1 (fun xs H2 => ∃ β2 st2 ds, Ext β1 H1 β2 H2 ∧ Sim X.K X.mg β2 st2 H2 ∧ VRs X.K β2 H2 ds xs ∧ PostA X.K X.mg W σ (okE X.K Q) β2 H2 (f dx ds st2)) I1
    (liftA.bind S1 E1 p1 fun d v β' H' st' e' S' E' r' p' => ⟨β', st', d, e', S', r', p'⟩)
  rw [hs] at hA ⊢
  refine Calls.callWith_builtin (by show (false || (backTo cpos (starEach es X.env)).any (·.1)) = false; rw [hplain] <;> rfl) (Calls.evalArgs_plain ?_)
  exact thn hA fun us s2 ⟨vs, H2, I2, r2, β2, st2, ds, e2, S2, v2, p2⟩ => hm pins s2 σ H2 x vs v us Q β2 st2 dx ds I2 r1 r2 S2 (VR.mono e2 _ _ v1) v2 p2
theorem q_bm0 {o : Expr} {T id : String} {name : Str} {apos cpos : Pos} {f : D → List D → Sto → R D} (pa : PlainAttrs T) (slot : Slot T name id) (hty : typeOf (.builtin id) = pure (.type "method_descriptor")) (hm : MtS3 X W id f) (ho : PE X o (lift X.K X.mg W ka))
    (hbase : attributeBase o name X.env (eval o X.env) = eval o X.env := by rfl) (hline : (apos.endLine == cpos.line) = true := by rfl) :
    PE X (.Call (.Attribute o name apos) [] [] cpos) (lift X.K X.mg W (kM (tyD T) f ka kA0)) := by
  refine ⟨fun pins s σ H Q I ⟨β, ρ, st, S, E, p⟩ => ?_⟩
  refine wpAny_Call_method0_late hbase hline (thn (ho.run pins s σ H (fun x H1 => ∃ β1 st1 dx, Sim X.K X.mg β1 st1 H1 ∧ ER X.K β1 H1 ρ σ ∧ VR X.K β1 H1 dx x ∧ tyD T dx st1 = true ∧ PostA X.K X.mg W σ (okE X.K Q) β1 H1 ((kA0 ρ st1).bind fun xs st2 => f dx xs st2)) I
    (lift.bind S E p fun d v β' H' st' e' S' E' r' p' => by
      split at p'
      · rename_i ht; exact ⟨β', st', d, S', E', r', ht, p'⟩
      · exact p'.elim)) fun v s1 ⟨x, H1, I1, r1, β1, st1, dx, S1, E1, v1, ht, p1⟩ => ?_)
  obtain ⟨h1, h2⟩ := tyV_is I1 r1 (ty_rel S1 v1 ht)
  exact ⟨T, id, pa, slot, hty, h1, h2, Calls.callWith_builtin rfl (PySem.evalArgs_none (hm pins s1 σ H1 x [] v [] Q β1 st1 dx [] I1 r1 .nil S1 v1 (VRs.nil.mpr rfl) p1))⟩

/-! ### slices -/
def kO0 : Env3 → Sto → R (Option Int) := fun _ st => .ok none st
def kO1 (a : KE) : Env3 → Sto → R (Option Int) := fun ρ st => (a ρ st).bind fun d st1 => match d with
  | .int i => .ok (some i) st1
  | _ => .bad
def liftO (K : PySem.W.Frag) (mg : Str → Option Value) (W : WX) (k : Env3 → Sto → R (Option Int)) : TO := fun σ H Q => ∃ β ρ st, Sim K mg β st H ∧ ER K β H ρ σ ∧ PostA K mg W σ (fun o _ H' => Q o H') β H (k ρ st)
theorem o_none : PO X none (liftO X.K X.mg W kO0) := ⟨fun pins s σ H Q I ⟨β, ρ, st, S, E, p⟩ => po_none.run pins s σ H Q I (p β H (Ext.refl _ _) S)⟩
theorem o_some (h : PE X a (lift X.K X.mg W ka)) : PO X (some a) (liftO X.K X.mg W (kO1 ka)) := ⟨fun pins s σ H Q I ⟨β, ρ, st, S, E, p⟩ => (po_some h).run pins s σ H Q I (lift.bind S E p fun d v β1 H1 st1 e1 S1 E1 r1 p1 => by
    cases d with
    | int i => exact ⟨i, VR.int.mp r1, p1 β1 H1 (Ext.refl _ _) S1⟩
    | _ => exact p1.elim)⟩
theorem liftO.bind {α : Type} {σ : L2.St} {ok : α → List Addr → Hp → Prop} {β : List Addr} {H : Hp} {ρ : Env3} {st : Sto} {k : Env3 → Sto → R (Option Int)} {f : Option Int → Sto → R α} {Q : Option Int → Hp → Prop} (S : Sim X.K X.mg β st H) (E : ER X.K β H ρ σ)
    (h : PostA X.K X.mg W σ ok β H ((k ρ st).bind f))
    (hq : ∀ b β' H' st', Ext β H β' H' → Sim X.K X.mg β' st' H' → ER X.K β' H' ρ σ → PostA X.K X.mg W σ ok β' H' (f b st') → Q b H') : liftO X.K X.mg W k σ H Q := by
  refine ⟨β, ρ, st, S, E, ?_⟩
  cases hm : k ρ st with
  | ok a st' =>
    rw [hm] at h
    exact fun β' H' e S' => hq a β' H' st' e S' (E.mono e) (PostA.mono e h)
  | exn x st' => rw [hm] at h; exact h
  | bad => rw [hm] at h; exact h
def cutD (xs : List D) (lo hi : Option Int) : List D := (xs.drop (HT.sIx xs.length 0 lo)).take (HT.sIx xs.length xs.length hi - HT.sIx xs.length 0 lo)
theorem cutD_rel {K : PySem.W.Frag} {β : List Addr} {H : Hp} {ds : List D} {vs : List V} (r : VRs K β H ds vs) (lo hi : Option Int) : VRs K β H (cutD ds lo hi) (cutV vs lo hi) := by
  unfold cutD cutV
  rw [r.length]
  exact (r.drop _).take _
def slD (d : D) (lo hi : Option Int) (st : Sto) : R D := match d with
  | .tup xs => .ok (.tup (cutD xs lo hi)) st
  | .str x => if x.length ≤ 16777216 then .ok (.str (cutS x lo hi)) st else .bad
  | .frz xs => .ok (.loc st.length) (st ++ [.lst (cutD xs lo hi)])
  | .loc n => match st[n]? with
    | some (.lst xs) => .ok (.loc st.length) (st ++ [.lst (cutD xs lo hi)])
    | _ => .bad
  | _ => .bad
def kSl (a : KE) (lo hi : Env3 → Sto → R (Option Int)) : KE := fun ρ st => (a ρ st).bind fun d st1 => (lo ρ st1).bind fun l st2 => (hi ρ st2).bind fun u st3 => slD d l u st3
theorem q_slice {lo hi : Option Expr} {p2 : Pos} {kl kh : Env3 → Sto → R (Option Int)} (he : PE X a (lift X.K X.mg W ka)) (hl : PO X lo (liftO X.K X.mg W kl)) (hu : PO X hi (liftO X.K X.mg W kh)) : PE X (.Subscript a (.Slice lo hi none p2) pos) (lift X.K X.mg W (kSl ka kl kh)) :=
  PE.imp (pe_slice (sl_tupA.or (sl_list.or sl_str)) he hl hu) fun σ H Q ⟨β, ρ, st, S, E, p⟩ => lift.bind S E p fun d v β1 H1 st1 e1 S1 E1 r1 p1 =>
    liftO.bind S1 E1 p1 fun l β2 H2 st2 e2 S2 E2 p2 => liftO.bind S2 E2 p2 fun u β3 H3 st3 e3 S3 E3 p3 => by
      have r3 := VR.mono e3 _ _ (VR.mono e2 _ _ r1)
      cases d with
      | tup xs =>
        obtain ⟨q, vs, rfl, h1, h2⟩ := VR.tup.mp r3
        refine .inl ⟨q, vs, rfl, .inl (.inl h1), fun hw => ?_, fun _ z hz => ?_⟩
        · refine p3 β3 H3 (Ext.refl _ _) S3 _ (VR.tup.mpr ⟨q, vs, rfl, h1, ?_⟩)
          have hc : cutD xs l u = xs := by
            unfold cutD
            rw [← h2.length, hw.1, hw.2, List.drop_zero, Nat.sub_zero, h2.length]
            exact List.take_length
          rw [hc]; exact h2
        · exact p3 β3 _ (ext_new0 hz) (S3.new0 hz) _ (VR.tup.mpr ⟨z, _, rfl, upd_same, VRs.mono (ext_new0 hz) _ _ (cutD_rel h2 l u)⟩)
      | str x =>
        unfold slD at p3
        simp only at p3
        split at p3
        · rename_i hz
          exact .inr (.inr ⟨x, VR.str.mp r3, szl hz, p3 β3 H3 (Ext.refl _ _) S3 _ (VR.str.mpr rfl)⟩)
        · exact p3.elim
      | frz xs =>
        obtain ⟨q, vs, rfl, h1, h2⟩ := VR.frz.mp r3
        refine .inr (.inl ⟨q, vs, rfl, h1.sq, fun z hz => ?_⟩)
        obtain ⟨x1, x2, x3⟩ := newLst S3 (cutD_rel h2 l u) hz
        exact p3 _ _ x1 x2 _ x3
      | loc n =>
        obtain ⟨q, h1, rfl⟩ := VR.loc.mp r3
        obtain ⟨o, h2, h3⟩ := S3.at h1
        unfold slD at p3
        simp only [h2] at p3
        cases o with
        | lst xs =>
          obtain ⟨vs, h4, h5⟩ := h3
          refine .inr (.inl ⟨q, vs, rfl, SqL.of h4, fun z hz => ?_⟩)
          obtain ⟨x1, x2, x3⟩ := newLst S3 (cutD_rel h5 l u) hz
          exact p3 _ _ x1 x2 _ x3
        | _ => exact p3.elim
      | _ => exact p3.elim
end
end L3

namespace L3
open PySem PySem.Spec PyProof.Rows L2

/-! ### defs of the text -/
/-- what a def's call means -/
abbrev Run := List D → Sto → R D
/-- the promise «as run says» of a def of n parameters -/
def spOf (K : PySem.W.Frag) (mg : Str → Option Value) (n : Nat) (run : Run) : Sp := fun vs H Q E => vs.length = n ∧ ∃ β st ds, Sim K mg β st H ∧ VRs K β H ds vs ∧ PostA K mg (fun c dd _ H' => E c dd H') [] (okE K Q) β H (run ds st)
theorem spOf.len {K : PySem.W.Frag} {mg : Str → Option Value} {n : Nat} {run : Run} : ∀ vs H Q E, spOf K mg n run vs H Q E → vs.length = n := fun _ _ _ _ h => h.1

section
variable {X : Cx} {W : WX} {e a b c : Expr} {es rest : List Expr} {pos : Pos} {ka kb kcc : KE} {kt kt' : KT} {kas : KA}
/-- what a callee lets out comes to this context's wish -/
theorem pass3 (tk : Takes X W) (σ : L2.St) : PassesAt (L2.CX X.prog X.w) X σ (fun c dd H' => W c dd σ H') := passAt tk σ
theorem PostA.toσ {α : Type} {K : PySem.W.Frag} {mg : Str → Option Value} {W : WX} {σ : L2.St} {ok : α → List Addr → Hp → Prop} {β : List Addr} {H : Hp} : ∀ {r : R α}, PostA K mg W σ ok β H r → PostA K mg (fun c dd _ H' => W c dd σ H') [] ok β H r
  | .ok _ _, h => h
  | .exn _ _, h => h
  | .bad, h => h
theorem q_call {x : Str} {p : Pos} {k n : Nat} {f : Addr} {fd : FuncData} {ps : List Str} {run : Run} (tk : Takes X W) (F : FnOk X.prog X.w X.K X.mg X.base (L2.CX X.prog X.w) k f fd ps (spOf X.K X.mg n run)) (hr : Room k X.A) (hg : Gl X x) (hm : X.mg x = some (.ref f)) (hk : PySem.W.keepIn X.K (.ref f) = true) (hb : Binds X.K fd ps [])
    (ha : PA X (a :: es) (liftA X.K X.mg W kas)) (hn : (a :: es).length = n := by rfl) (hl : ∀ ρ st ds st', kas ρ st = .ok ds st' → ds.length = n) (hdb : (x == ("__debug__" : Str)) = false := by decide) (he : starEach (a :: es) X.env = (false, eval a X.env) :: starEach es X.env := by rfl) (hpl : (backTo pos (starEach es X.env)).any (·.1) = false := by rfl) :
    PE X (.Call (.Name x p) (a :: es) [] pos) (lift X.K X.mg W (kF run kas)) :=
  PE.imp (pe_callSD F hr hg hm hk hb .nil (fun σ => pass3 tk σ) ha hdb he hpl) fun σ H Q ⟨β, ρ, st, S, E, q⟩ => by
    refine ⟨β, ρ, st, S, E, ?_⟩
    unfold kF at q
    cases hm : kas ρ st with
    | ok ds st' =>
      rw [hm] at q
      intro β1 H1 e1 S1 vs r1
      rw [List.append_nil]
      exact ⟨by rw [r1.length]; exact hl ρ st ds st' hm, β1, st', ds, S1, r1, PostA.toσ (PostA.mono e1 q)⟩
    | exn x st' => rw [hm] at q; exact q
    | bad => rw [hm] at q; exact q
/-- the number of arguments -/
theorem kA0_len : ∀ (ρ : Env3) st ds st', kA0 ρ st = .ok ds st' → ds.length = 0 := fun ρ st ds st' h => by cases h; rfl
theorem kA1_len {ka : KE} {kr : KA} {n : Nat} (h : ∀ (ρ : Env3) st ds st', kr ρ st = .ok ds st' → ds.length = n) : ∀ (ρ : Env3) st ds st', kA1 ka kr ρ st = .ok ds st' → ds.length = n + 1 := fun ρ st ds st' q => by
  unfold kA1 at q
  cases h1 : ka ρ st with
  | ok x st1 =>
    rw [h1] at q
    simp only [R.bind_ok] at q
    cases h2 : kr ρ st1 with
    | ok xs st2 => rw [h2] at q; cases q; rw [List.length_cons, h ρ st1 xs _ h2]
    | exn _ _ => rw [h2] at q; cases q
    | bad => rw [h2] at q; cases q
  | exn _ _ => rw [h1] at q; cases q
  | bad => rw [h1] at q; cases q

/-! ### statements -/
end
inductive RS where
  | nx (ρ : Env3) (st : Sto) | rt (d : D) (st : Sto) | bk (ρ : Env3) (st : Sto) | ct (ρ : Env3) (st : Sto) | exn (x : XN) (ρ : Env3) (st : Sto) | bad
abbrev KS := Env3 → Sto → RS
def PostS (K : PySem.W.Frag) (mg : Str → Option Value) (W : WX) (Dn : Ends) (β : List Addr) (H : Hp) : RS → Prop
  | .nx ρ st => ∀ β' H' σ', Ext β H β' H' → Sim K mg β' st H' → ER K β' H' ρ σ' → Dn.nx σ' H'
  | .bk ρ st => ∀ β' H' σ', Ext β H β' H' → Sim K mg β' st H' → ER K β' H' ρ σ' → Dn.bk σ' H'
  | .ct ρ st => ∀ β' H' σ', Ext β H β' H' → Sim K mg β' st H' → ER K β' H' ρ σ' → Dn.ct σ' H'
  | .rt d st => ∀ β' H' v, Ext β H β' H' → Sim K mg β' st H' → VR K β' H' d v → Dn.rt v H'
  | .exn x ρ st => ∀ β' H' σ' c dd, Ext β H β' H' → Sim K mg β' st H' → ER K β' H' ρ σ' → XR K mg β' H' x c dd → W c dd σ' H'
  | .bad => False
theorem PostS.mono {K : PySem.W.Frag} {mg : Str → Option Value} {W : WX} {Dn : Ends} {β β1 : List Addr} {H H1 : Hp} (e : Ext β H β1 H1) : ∀ {r : RS}, PostS K mg W Dn β H r → PostS K mg W Dn β1 H1 r
  | .nx _ _, h => fun β' H' σ' e' => h β' H' σ' (e.trans e')
  | .bk _ _, h => fun β' H' σ' e' => h β' H' σ' (e.trans e')
  | .ct _ _, h => fun β' H' σ' e' => h β' H' σ' (e.trans e')
  | .rt _ _, h => fun β' H' v e' => h β' H' v (e.trans e')
  | .exn _ _ _, h => fun β' H' σ' c dd e' => h β' H' σ' c dd (e.trans e')
  | .bad, h => h
def R.toS {α : Type} (m : R α) (ρ : Env3) (f : α → Sto → RS) : RS := match m with
  | .ok a st => f a st
  | .exn x st => .exn x ρ st
  | .bad => .bad
@[simp] theorem R.toS_ok {α : Type} (a : α) (st : Sto) (ρ : Env3) (f : α → Sto → RS) : (R.ok a st).toS ρ f = f a st := rfl
@[simp] theorem R.toS_exn {α : Type} (x : XN) (st : Sto) (ρ : Env3) (f : α → Sto → RS) : (R.exn x st : R α).toS ρ f = .exn x ρ st := rfl
@[simp] theorem R.toS_bad {α : Type} (ρ : Env3) (f : α → Sto → RS) : (R.bad : R α).toS ρ f = .bad := rfl
def RS.andThen (r : RS) (f : KS) : RS := match r with
  | .nx ρ st => f ρ st
  | r => r
@[simp] theorem RS.andThen_nx (ρ : Env3) (st : Sto) (f : KS) : (RS.nx ρ st).andThen f = f ρ st := rfl
@[simp] theorem RS.andThen_rt (d : D) (st : Sto) (f : KS) : (RS.rt d st).andThen f = .rt d st := rfl
@[simp] theorem RS.andThen_bk (ρ : Env3) (st : Sto) (f : KS) : (RS.bk ρ st).andThen f = .bk ρ st := rfl
@[simp] theorem RS.andThen_ct (ρ : Env3) (st : Sto) (f : KS) : (RS.ct ρ st).andThen f = .ct ρ st := rfl
@[simp] theorem RS.andThen_exn (x : XN) (ρ : Env3) (st : Sto) (f : KS) : (RS.exn x ρ st).andThen f = .exn x ρ st := rfl
@[simp] theorem RS.andThen_bad (f : KS) : RS.bad.andThen f = .bad := rfl
def liftS (K : PySem.W.Frag) (mg : Str → Option Value) (W : WX) (k : KS) : TS := fun Dn σ H => ∃ β ρ st, Sim K mg β st H ∧ ER K β H ρ σ ∧ PostS K mg W Dn β H (k ρ st)

def sNil : KS := fun ρ st => .nx ρ st
def sSeq (a b : KS) : KS := fun ρ st => (a ρ st).andThen b
def sExpr (a : KE) : KS := fun ρ st => (a ρ st).toS ρ fun _ st1 => .nx ρ st1
def sSet (i : Nat) (a : KE) : KS := fun ρ st => (a ρ st).toS ρ fun d st1 => .nx (ρ.set i (some d)) st1
def sRet (a : KE) : KS := fun ρ st => (a ρ st).toS ρ fun d st1 => .rt d st1
def sRetN : KS := fun ρ st => .rt .non st
def sIf (c : KT) (a b : KS) : KS := fun ρ st => (c ρ st).toS ρ fun k st1 => if k = true then a ρ st1 else b ρ st1
def sBreak : KS := fun ρ st => .bk ρ st
def sCont : KS := fun ρ st => .ct ρ st
def sNever : KS := fun ρ st => .bad
def sPar2 (i j : Nat) (a b : KE) : KS := fun ρ st => (a ρ st).toS ρ fun x st1 => (b ρ st1).toS ρ fun y st2 => .nx ((ρ.set i (some x)).set j (some y)) st2
/-- targets -/
abbrev KG := D → Env3 → Option Env3
def gN (i : Nat) : KG := fun d ρ => some (ρ.set i (some d))
abbrev KGs := List D → Env3 → Option Env3
def gs0 : KGs := fun ds ρ => match ds with
  | [] => some ρ
  | _ => none
def gs1 (g : KG) (r : KGs) : KGs := fun ds ρ => match ds with
  | d :: ds => (g d ρ).bind (r ds)
  | [] => none
def gT (n : Nat) (g : KGs) : KG := fun d ρ => match d with
  | .tup ds => if ds.length = n then g ds ρ else none
  | _ => none
def sAsg (g : KG) (a : KE) : KS := fun ρ st => (a ρ st).toS ρ fun d st1 => match g d ρ with
  | some ρ' => .nx ρ' st1
  | none => .bad
/-- o[i] = e -/
def sSetIx (f : D → D → D → Sto → Option Sto) (o i a : KE) : KS := fun ρ st => (a ρ st).toS ρ fun v st1 => (o ρ st1).toS ρ fun x st2 => (i ρ st2).toS ρ fun y st3 => match f x y v st3 with
  | some st4 => .nx ρ st4
  | none => .bad

section
variable {X : Cx} {W : WX} {e a b c : Expr} {es rest : List Expr} {pos : Pos} {ka kb kcc : KE} {kt kt' : KT} {kas : KA} {st : Stmt} {sts p q : List Stmt} {ks ks' : KS}
theorem lift.toS {σ : L2.St} {Dn : Ends} {β : List Addr} {H : Hp} {ρ : Env3} {st : Sto} {k : KE} {f : D → Sto → RS} {Q : VK} (S : Sim X.K X.mg β st H) (E : ER X.K β H ρ σ) (h : PostS X.K X.mg W Dn β H ((k ρ st).toS ρ f))
    (hq : ∀ d v β' H' st', Ext β H β' H' → Sim X.K X.mg β' st' H' → ER X.K β' H' ρ σ → VR X.K β' H' d v → PostS X.K X.mg W Dn β' H' (f d st') → Q v H') : lift X.K X.mg W k σ H Q := by
  refine ⟨β, ρ, st, S, E, ?_⟩
  cases hm : k ρ st with
  | ok a st' =>
    rw [hm] at h
    exact fun β' H' e S' v r => hq a v β' H' st' e S' (E.mono e) r (PostS.mono e h)
  | exn x st' => rw [hm] at h; exact fun β' H' c dd e S' xr => h β' H' σ c dd e S' (E.mono e) xr
  | bad => rw [hm] at h; exact h
theorem liftT.toS {σ : L2.St} {Dn : Ends} {β : List Addr} {H : Hp} {ρ : Env3} {st : Sto} {k : KT} {f : Bool → Sto → RS} {Q : Bool → Hp → Prop} (S : Sim X.K X.mg β st H) (E : ER X.K β H ρ σ) (h : PostS X.K X.mg W Dn β H ((k ρ st).toS ρ f))
    (hq : ∀ d β' H' st', Ext β H β' H' → Sim X.K X.mg β' st' H' → ER X.K β' H' ρ σ → PostS X.K X.mg W Dn β' H' (f d st') → Q d H') : liftT X.K X.mg W k σ H Q := by
  refine ⟨β, ρ, st, S, E, ?_⟩
  cases hm : k ρ st with
  | ok a st' =>
    rw [hm] at h
    exact fun β' H' e S' => hq a β' H' st' e S' (E.mono e) (PostS.mono e h)
  | exn x st' => rw [hm] at h; exact fun β' H' c dd e S' xr => h β' H' σ c dd e S' (E.mono e) xr
  | bad => rw [hm] at h; exact h
theorem s_nil : PSs X [] (liftS X.K X.mg W sNil) := PSs.imp pss_nil fun Dn σ H ⟨β, ρ, st, S, E, p⟩ => p β H σ (Ext.refl _ _) S E
theorem s_cons (h1 : PS X st (liftS X.K X.mg W ks)) (h2 : PSs X sts (liftS X.K X.mg W ks')) : PSs X (st :: sts) (liftS X.K X.mg W (sSeq ks ks')) :=
  PSs.imp (pss_cons h1 h2) fun Dn σ H ⟨β, ρ, st, S, E, p⟩ => by
    refine ⟨β, ρ, st, S, E, ?_⟩
    unfold sSeq at p
    cases hm : ks ρ st with
    | nx ρ1 st1 => rw [hm] at p; exact fun β' H' σ' e S' E' => ⟨β', ρ1, st1, S', E', PostS.mono e p⟩
    | rt d st1 => rw [hm] at p; exact p
    | bk _ _ => rw [hm] at p; exact p
    | ct _ _ => rw [hm] at p; exact p
    | exn _ _ _ => rw [hm] at p; exact p
    | bad => rw [hm] at p; exact p
theorem s_one (h1 : PS X st (liftS X.K X.mg W ks)) : PSs X [st] (liftS X.K X.mg W ks) := pss_one h1
theorem s_expr (he : PE X e (lift X.K X.mg W ka)) (hs : swapsWith e none pos.line X.env = pure false := by rfl) : PS X (.Expr e pos) (liftS X.K X.mg W (sExpr ka)) :=
  PS.imp (ps_expr he hs) fun Dn σ H ⟨β, ρ, st, S, E, p⟩ => lift.toS S E p fun d v β1 H1 st1 e1 S1 E1 r1 p1 => p1 β1 H1 σ (Ext.refl _ _) S1 E1
theorem s_set {i : Nat} {x : Str} {pos' : Pos} (hN : X.N.Nodup) (hi : X.N[i]? = some x) (hx : Loc X.env.scope x) (he : PE X e (lift X.K X.mg W ka)) (hs : swapsWith e (some (.Name x pos')) pos.line X.env = pure false := by rfl) (hf : X.fn x = true ∨ X.env.scope.names.lookup x = some .local := by first | exact .inl rfl | exact .inr rfl | assumption) :
    PS X (.Assign [.Name x pos'] e pos) (liftS X.K X.mg W (sSet i ka)) :=
  PS.imp (ps_set hN hi hx he hs hf) fun Dn σ H ⟨β, ρ, st, S, E, p⟩ => lift.toS S E p fun d v β1 H1 st1 e1 S1 E1 r1 p1 => p1 β1 H1 _ (Ext.refl _ _) S1 (E1.set i r1)
theorem s_ret (he : PE X e (lift X.K X.mg W ka)) : PS X (.Return (some e) pos) (liftS X.K X.mg W (sRet ka)) :=
  PS.imp (ps_ret he) fun Dn σ H ⟨β, ρ, st, S, E, p⟩ => lift.toS S E p fun d v β1 H1 st1 e1 S1 E1 r1 p1 => p1 β1 H1 _ (Ext.refl _ _) S1 r1
theorem s_retN : PS X (.Return none pos) (liftS X.K X.mg W sRetN) :=
  PS.imp ps_retN fun Dn σ H ⟨β, ρ, st, S, E, p⟩ => p β H _ (Ext.refl _ _) S (VR.non.mpr rfl)
theorem s_if (hc : PT X c (liftT X.K X.mg W kt)) (ha : PSs X p (liftS X.K X.mg W ks)) (hb : PSs X q (liftS X.K X.mg W ks')) : PS X (.If c p q pos) (liftS X.K X.mg W (sIf kt ks ks')) :=
  PS.imp (ps_if hc ha hb) fun Dn σ H ⟨β, ρ, st, S, E, p⟩ => liftT.toS S E p fun d β1 H1 st1 e1 S1 E1 p1 => by
    cases d with
    | true => exact iteT ⟨β1, ρ, st1, S1, E1, p1⟩
    | false => exact iteF ⟨β1, ρ, st1, S1, E1, p1⟩
theorem s_pass : PS X (.Pass pos) (liftS X.K X.mg W sNil) := PS.imp ps_pass fun Dn σ H ⟨β, ρ, st, S, E, p⟩ => p β H σ (Ext.refl _ _) S E
theorem s_break : PS X (.Break pos) (liftS X.K X.mg W sBreak) := PS.imp ps_break fun Dn σ H ⟨β, ρ, st, S, E, p⟩ => p β H σ (Ext.refl _ _) S E
theorem s_cont : PS X (.Continue pos) (liftS X.K X.mg W sCont) := PS.imp ps_continue fun Dn σ H ⟨β, ρ, st, S, E, p⟩ => p β H σ (Ext.refl _ _) S E
theorem s_doc {x j pos'} : PS X (.Expr (.Constant (.str x) j pos') pos) (liftS X.K X.mg W sNil) := PS.imp ps_doc fun Dn σ H ⟨β, ρ, st, S, E, p⟩ => p β H σ (Ext.refl _ _) S E
theorem s_never : PS X st (liftS X.K X.mg W sNever) := PS.imp ps_never fun Dn σ H ⟨β, ρ, st, S, E, p⟩ => p.elim
theorem s_par2 {i j : Nat} {x y : Str} {px py pt : Pos} {kt k2 pt2} (hc : X.calm = true) (hN : X.N.Nodup) (hi : X.N[i]? = some x) (hj : X.N[j]? = some y) (hij : i ≠ j)
    (hx : X.env.scope.names.lookup x = some .local) (hy : X.env.scope.names.lookup y = some .local) (ha : PE X a (lift X.K X.mg W ka)) (hb : PE X b (lift X.K X.mg W kb)) (hst : starEach [a, b] X.env = (false, eval a X.env) :: starEach [b] X.env := by rfl) (hst2 : starEach [b] X.env = (false, eval b X.env) :: starEach [] X.env := by rfl)
    (hw : swappedStores [.Tuple [.Name x px, .Name y py] kt pt] (.Tuple [a, b] k2 pt2) X.env = pure (some [x, y]) := by rfl)
    (hs : swapsWithSole [.Tuple [.Name x px, .Name y py] kt pt] (.Tuple [a, b] k2 pt2) pos.line X.env = pure false := by rfl) :
    PS X (.Assign [.Tuple [.Name x px, .Name y py] kt pt] (.Tuple [a, b] k2 pt2) pos) (liftS X.K X.mg W (sPar2 i j ka kb)) :=
  PS.imp (ps_par hc hN hi hj hij hx hy (pa_cons ha (pa_cons hb pa_nil hst2) hst) hw hs) fun Dn σ H ⟨β, ρ, st, S, E, p⟩ => lift.toS S E p fun d v β1 H1 st1 e1 S1 E1 r1 p1 => lift.toS S1 E1 p1 fun d2 v2 β2 H2 st2 e2 S2 E2 r2 p2 =>
    ⟨v, v2, rfl, p2 β2 H2 _ (Ext.refl _ _) S2 ((E2.set i (VR.mono e2 _ _ r1)).set j r2)⟩

/-! ### targets -/
theorem wipe_set {σ : L2.St} {i : Nat} {o : Option V} : ∀ {us : List Nat}, i ∈ us → wipe (σ.set i o) us = wipe σ us
  | u :: us, h => by
    unfold wipe
    by_cases hi : i ∈ us
    · rw [wipe_set hi]
    · have e : i = u := by
        rcases List.mem_cons.mp h with h | h
        · exact h
        · exact absurd h hi
      subst e
      have : wipe (σ.set i o) us = (wipe σ us).set i o := by
        clear h
        induction us with
        | nil => rfl
        | cons v vs ih =>
          have hv : i ≠ v := fun z => hi (by rw [z]; exact List.mem_cons_self)
          have hvs : i ∉ vs := fun z => hi (List.mem_cons_of_mem _ z)
          show (wipe (σ.set i o) vs).set v none = ((wipe σ vs).set v none).set i o
          rw [ih hvs, List.set_comm _ _ hv]
      rw [this, List.set_set]
def Wip (vs : List Nat) (σ σ' : L2.St) : Prop := ∀ us, (∀ i ∈ vs, i ∈ us) → wipe σ' us = wipe σ us
def PGK (X : Cx) (vs : List Nat) (g : KG) (t : TG) : Prop := ∀ d v σ H ρ β Q ρ', VR X.K β H d v → ER X.K β H ρ σ → g d ρ = some ρ' → (∀ σ', ER X.K β H ρ' σ' → Wip vs σ σ' → Q σ' H) → t v σ H Q
def PGKs (X : Cx) (is : List Nat) (g : KGs) (t : TGs) : Prop := ∀ ds vs σ H ρ β Q ρ', VRs X.K β H ds vs → ER X.K β H ρ σ → g ds ρ = some ρ' → (∀ σ', ER X.K β H ρ' σ' → Wip is σ σ' → Q σ' H) → t vs σ H Q
structure TGt (X : Cx) (tg : Expr) (vs : List Nat) (g : KG) : Prop where
  ex : ∃ t, PG X tg t ∧ PGK X vs g t
structure TGts (X : Cx) (tgs : List Expr) (vs : List Nat) (g : KGs) : Prop where
  ex : ∃ t, PGs X tgs t ∧ PGKs X vs g t
theorem t_name {i : Nat} {x : Str} (hN : X.N.Nodup) (hi : X.N[i]? = some x) (hx : Loc X.env.scope x) (hf : X.fn x = true ∨ X.env.scope.names.lookup x = some .local := by first | exact .inl rfl | exact .inr rfl | assumption) : TGt X (.Name x pos) [i] (gN i) :=
  ⟨_, pg_name hN hi hx hf, fun d v σ H ρ β Q ρ' r E h k => by cases h; exact k _ (E.set i r) fun us hu => wipe_set (hu i List.mem_cons_self)⟩
theorem ts_nil : TGts X [] [] gs0 := ⟨_, pgs_nil, fun ds vs σ H ρ β Q ρ' r E h k => by
  cases ds with
  | nil => cases h; exact ⟨VRs.nil.mp r, k _ E fun _ _ => rfl⟩
  | cons _ _ => cases h⟩
theorem ts_cons {e : Expr} {es : List Expr} {is js : List Nat} {g : KG} {gs : KGs} (h1 : TGt X e is g) (h2 : TGts X es js gs) (hs : (assignEach (e :: es) X.env).map (·.2) = assign e X.env :: (assignEach es X.env).map (·.2) := by rfl) : TGts X (e :: es) (is ++ js) (gs1 g gs) := by
  obtain ⟨t, p, k⟩ := h1.ex
  obtain ⟨ts, ps, kks⟩ := h2.ex
  refine ⟨_, pgs_cons p ps hs, fun ds vs σ H ρ β Q ρ' r E h kq => ?_⟩
  cases ds with
  | nil => cases h
  | cons d ds =>
    obtain ⟨v, vr, rfl, r1, r2⟩ := VRs.cons.mp r
    obtain ⟨ρ1, h1, h2⟩ := Option.bind_eq_some_iff.mp (show (g d ρ).bind (gs ds) = some ρ' from h)
    exact ⟨v, vr, rfl, k d v σ H ρ β _ ρ1 r1 E h1 fun σ1 E1 w1 => kks ds vr σ1 H ρ1 β Q ρ' r2 E1 h2 fun σ2 E2 w2 => kq σ2 E2 fun us hu =>
      (w2 us fun i hi => hu i (List.mem_append_right _ hi)).trans (w1 us fun i hi => hu i (List.mem_append_left _ hi))⟩
theorem t_tup {es : List Expr} {is : List Nat} {k n : Nat} {gs : KGs} (hc : X.calm = true) (h : TGts X es is gs) (hn : (assignEach es X.env).length = n := by rfl) (hst : (assignEach es X.env).findIdx? (·.1) = none := by rfl) : TGt X (.Tuple es k pos) is (gT n gs) := by
  obtain ⟨ts, ps, kks⟩ := h.ex
  refine ⟨_, pg_tup hc ps hn hst, fun d v σ H ρ β Q ρ' r E h kq => ?_⟩
  cases d with
  | tup ds =>
    obtain ⟨q, vs, rfl, h1, h2⟩ := VR.tupS r
    unfold gT at h
    simp only at h
    split at h
    · rename_i hl
      exact ⟨q, vs, rfl, h1, by rw [h2.length]; exact hl, kks ds vs σ H ρ β Q ρ' h2 E h kq⟩
    · cases h
  | _ => cases h
theorem s_asg {tg : Expr} {is : List Nat} {g : KG} (hg : TGt X tg is g) (he : PE X e (lift X.K X.mg W ka)) (hs : swapsWithSole [tg] e pos.line X.env = pure false := by rfl) (hw : swappedStores [tg] e X.env = pure none := by rfl)
    (h1 : (assignEach [tg] X.env).map (·.2) = [assign tg X.env] := by rfl) : PS X (.Assign [tg] e pos) (liftS X.K X.mg W (sAsg g ka)) := by
  obtain ⟨t, p, k⟩ := hg.ex
  exact PS.imp (ps_asg he p hs hw h1) fun Dn σ H ⟨β, ρ, st, S, E, p⟩ => lift.toS S E p fun d v β1 H1 st1 e1 S1 E1 r1 p1 => by
    split at p1
    · rename_i ρ' hg
      exact k d v σ H1 ρ β1 _ ρ' r1 E1 hg fun σ' E' _ => p1 β1 H1 σ' (Ext.refl _ _) S1 E'
    · exact p1.elim

/-! ### o[i] = e -/
def SetS (X : Cx) (t : TSet) (f : D → D → D → Sto → Option Sto) : Prop :=
  ∀ H o i v β st dx di dv st' (Q : Hp → Prop), Sim X.K X.mg β st H → VR X.K β H dx o → VR X.K β H di i → VR X.K β H dv v → f dx di dv st = some st' → (∀ H', Ext β H β H' → Sim X.K X.mg β st' H' → Q H') → t o i v H Q
theorem s_setix {o i : Expr} {ko ki : KE} {t : TSet} {f : D → D → D → Sto → Option Sto} {tpos : Pos} (hs : PSet X t) (hf : SetS X t f) (ho : PE X o (lift X.K X.mg W ko)) (hi : PE X i (lift X.K X.mg W ki)) (he : PE X e (lift X.K X.mg W ka))
    (ha : ∀ v, assign (.Subscript o i tpos) X.env v = (do
      let ov ← holding [v] (eval o X.env)
      let iv ← holding [v, ov] (eval i X.env)
      standAt tpos
      holding [v, ov, iv] (setItem ov iv v)
      release [v, ov, iv] []) := by intro _; rfl) (hsw : swapsWithSole [.Subscript o i tpos] e pos.line X.env = pure false := by rfl) (hw : swappedStores [.Subscript o i tpos] e X.env = pure none := by rfl)
    (h1 : (assignEach [.Subscript o i tpos] X.env).map (·.2) = [assign (.Subscript o i tpos) X.env] := by rfl) : PS X (.Assign [.Subscript o i tpos] e pos) (liftS X.K X.mg W (sSetIx f ko ki ka)) :=
  PS.imp (ps_asg he (pg_sub ho hi hs ha) hsw hw h1) fun Dn σ H ⟨β, ρ, st, S, E, p⟩ => lift.toS S E p fun d v β1 H1 st1 e1 S1 E1 r1 p1 => lift.toS S1 E1 p1 fun dx x β2 H2 st2 e2 S2 E2 r2 p2 => lift.toS S2 E2 p2 fun dy y β3 H3 st3 e3 S3 E3 r3 p3 => by
    split at p3
    · rename_i st4 hg
      exact hf H3 x y v β3 st3 dx dy d st4 _ S3 (VR.mono e3 _ _ r2) r3 (VR.mono e3 _ _ (VR.mono e2 _ _ r1)) hg fun H' e' S' => p3 β3 H' σ e' S' (E3.mono e')
    · exact p3.elim
def setL (o i v : D) (st : Sto) : Option Sto := match o, i with
  | .loc n, .int k => match st[n]? with
    | some (.lst xs) => match ixN xs.length k with
      | some j => some (st.set n (.lst (xs.set j v)))
      | none => none
    | _ => none
  | _, _ => none
theorem setL_ok : SetS X rSetL setL := by
  intro H o i v β st dx di dv st' Q S r1 r2 r3 h k
  cases dx with
  | loc n =>
    cases di with
    | int j =>
      obtain ⟨a, h1, rfl⟩ := VR.loc.mp r1
      cases VR.int.mp r2
      obtain ⟨ob, h2, h3⟩ := S.at h1
      simp only [setL, h2] at h
      cases ob with
      | lst xs =>
        simp only at h
        split at h
        · rename_i m hm
          cases h
          obtain ⟨vs, h4, h5⟩ := h3
          refine ⟨a, vs, j, m, rfl, rfl, h4, by rw [h5.length]; exact hm, k _ (S.ext h1) (S.set h1 ⟨_, upd_same, VRs.mono (S.ext h1) _ _ (h5.set m r3)⟩)⟩
        · cases h
      | _ => cases h
    | _ => cases h
  | _ => cases h
end
end L3

namespace L3
open PySem PySem.Spec PyProof.Rows L2
/-! ### what is walked -/
inductive Src where
  | its (xs : List D) | lv (n : Nat)
def Src.at (s : Src) (st : Sto) (i : Nat) : Option (Option D) := match s with
  | .its xs => some xs[i]?
  | .lv n => match st[n]? with
    | some (.lst xs) => some xs[i]?
    | _ => none
def Src.fuel (s : Src) (st : Sto) : Nat := match s with
  | .its xs => xs.length + 1
  | .lv n => match st[n]? with
    | some (.lst xs) => xs.length + 1
    | _ => 0
abbrev KI := Env3 → Sto → R Src
def ItOk (K : PySem.W.Frag) (mg : Str → Option Value) (β₀ : List Addr) (H₀ : Hp) (src : Src) (J : It) : Prop :=
  ∀ i β H st, Ext β₀ H₀ β H → Sim K mg β st H →
    (∀ d, src.at st i = some (some d) → J.go i H ∧ ∀ x H', J.yld i H x H' → ∃ β', Ext β H β' H' ∧ Sim K mg β' st H' ∧ VR K β' H' d x) ∧ (src.at st i = some none → J.stop i H)
def liftI (K : PySem.W.Frag) (mg : Str → Option Value) (W : WX) (k : KI) : TI := fun σ H R => ∃ β ρ st, Sim K mg β st H ∧ ER K β H ρ σ ∧ PostA K mg W σ (fun src β' H' => ∀ J, ItOk K mg β' H' src J → R J H') β H (k ρ st)
theorem PI.imp {X : Cx} {tg e : Expr} {t t' : TI} (h : PI X tg e t) (i : ∀ σ H R, t' σ H R → t σ H R) : PI X tg e t' := ⟨fun pins s σ H R I q => h.run pins s σ H R I (i σ H R q)⟩

def iL (a : KE) : KI := fun ρ st => (a ρ st).bind fun d st1 => match d with
  | .frz xs => .ok (.its xs) st1
  | .loc n => match st1[n]? with
    | some (.lst _) => .ok (.lv n) st1
    | _ => .bad
  | _ => .bad
def iT (a : KE) : KI := fun ρ st => (a ρ st).bind fun d st1 => match d with
  | .tup xs => .ok (.its xs) st1
  | _ => .bad
def strIts (x : Str) : List D := x.cps.toList.map fun c => .str ⟨#[c]⟩
def iS (a : KE) : KI := fun ρ st => (a ρ st).bind fun d st1 => match d with
  | .str x => if x.length ≤ 16777216 then .ok (.its (strIts x)) st1 else .bad
  | _ => .bad
def rngIts (lo : Int) (n : Nat) : List D := (List.range n).map fun (i : Nat) => .int (lo + (i : Int))
def rngF1 (ds : List D) (st : Sto) : R Src := match ds with
  | [.int j] => if -(2 ^ 62) ≤ j ∧ j < 2 ^ 62 then .ok (.its (rngIts 0 j.toNat)) st else .bad
  | _ => .bad
def rngF2 (ds : List D) (st : Sto) : R Src := match ds with
  | [.int i, .int j] => if -(2 ^ 62) ≤ i ∧ i < 2 ^ 62 ∧ -(2 ^ 62) ≤ j ∧ j < 2 ^ 62 then .ok (.its (rngIts i (j - i).toNat)) st else .bad
  | _ => .bad
def iR1 (a : KA) : KI := fun ρ st => (a ρ st).bind rngF1
def iR2 (a : KA) : KI := fun ρ st => (a ρ st).bind rngF2

section
variable {X : Cx} {W : WX} {tg e a b c : Expr} {es rest : List Expr} {pos p : Pos} {ka kb kcc : KE} {kt kt' : KT} {kas : KA}
theorem i_list (h : PE X a (lift X.K X.mg W ka)) : PI X tg a (liftI X.K X.mg W (iL ka)) :=
  PI.imp (pi_list h) fun σ H R ⟨β, ρ, st, S, E, p⟩ => lift.bind S E p fun d v β1 H1 st1 e1 S1 E1 r1 p1 => by
    cases d with
    | frz xs =>
      obtain ⟨q, vs, rfl, h1, h2⟩ := VR.frz.mp r1
      refine ⟨q, rfl, ⟨vs, h1.sq⟩, p1 β1 H1 (Ext.refl _ _) S1 _ fun i β2 H2 st2 e2 S2 => ⟨fun d hd => ?_, fun hd => ?_⟩⟩
      · have h3 := e2.fzL h1
        have h4 := VRs.mono e2 _ _ h2
        obtain ⟨v, hv, rv⟩ := h4.getD (Option.some.inj hd)
        exact ⟨⟨vs, v, h3.sq, hv⟩, fun x H' ⟨eH, hx⟩ => by subst eH; exact ⟨β2, Ext.refl _ _, S2, by have := hx vs h3.sq; rw [hv] at this; cases this; exact rv⟩⟩
      · exact ⟨vs, (e2.fzL h1).sq, by rw [h2.length]; exact List.getElem?_eq_none_iff.mp (Option.some.inj hd)⟩
    | loc n =>
      obtain ⟨q, h1, rfl⟩ := VR.loc.mp r1
      obtain ⟨o, h2, h3⟩ := S1.at h1
      simp only [h2] at p1
      cases o with
      | lst xs =>
        obtain ⟨vs, h4, h5⟩ := h3
        refine ⟨q, rfl, ⟨vs, SqL.of h4⟩, p1 β1 H1 (Ext.refl _ _) S1 _ fun i β2 H2 st2 e2 S2 => ?_⟩
        have g1 := e2.get h1
        obtain ⟨o2, g2, g3⟩ := S2.at g1
        cases o2 with
        | lst ys =>
          obtain ⟨us, g4, g5⟩ := g3
          refine ⟨fun d hd => ?_, fun hd => ?_⟩
          · simp only [Src.at, g2] at hd
            obtain ⟨v, hv, rv⟩ := g5.getD (Option.some.inj hd)
            exact ⟨⟨us, v, SqL.of g4, hv⟩, fun x H' ⟨eH, hx⟩ => by subst eH; exact ⟨β2, Ext.refl _ _, S2, by have := hx us (SqL.of g4); rw [hv] at this; cases this; exact rv⟩⟩
          · simp only [Src.at, g2] at hd
            exact ⟨us, SqL.of g4, by rw [g5.length]; exact List.getElem?_eq_none_iff.mp (Option.some.inj hd)⟩
        | _ => exact ⟨fun d hd => (by simp only [Src.at, g2] at hd; cases hd), fun hd => (by simp only [Src.at, g2] at hd; cases hd)⟩
      | _ => exact p1.elim
    | _ => exact p1.elim
theorem i_tup (h : PE X a (lift X.K X.mg W ka)) : PI X tg a (liftI X.K X.mg W (iT ka)) :=
  PI.imp (pi_tup h) fun σ H R ⟨β, ρ, st, S, E, p⟩ => lift.bind S E p fun d v β1 H1 st1 e1 S1 E1 r1 p1 => by
    cases d with
    | tup xs =>
      obtain ⟨q, vs, rfl, h1, h2⟩ := VR.tupS r1
      refine ⟨q, rfl, ⟨vs, h1⟩, p1 β1 H1 (Ext.refl _ _) S1 _ fun i β2 H2 st2 e2 S2 => ⟨fun d hd => ?_, fun hd => ?_⟩⟩
      · have h3 := e2.sqT h1
        have h4 := VRs.mono e2 _ _ h2
        obtain ⟨v, hv, rv⟩ := h4.getD (Option.some.inj hd)
        exact ⟨⟨vs, v, h3, hv⟩, fun x H' ⟨eH, hx⟩ => by subst eH; exact ⟨β2, Ext.refl _ _, S2, by have := hx vs h3; rw [hv] at this; cases this; exact rv⟩⟩
      · exact ⟨vs, e2.sqT h1, by rw [h2.length]; exact List.getElem?_eq_none_iff.mp (Option.some.inj hd)⟩
    | _ => exact p1.elim
theorem str_ok {K : PySem.W.Frag} {mg : Str → Option Value} {β : List Addr} {H : Hp} (x : Str) : ItOk K mg β H (.its (strIts x)) (Its x) := fun i β2 H2 st2 e2 S2 => by
  refine ⟨fun d hd => ?_, fun hd => ?_⟩
  · have hd' := Option.some.inj hd
    unfold strIts at hd'
    rw [List.getElem?_map] at hd'
    cases hc : x.cps.toList[i]? with
    | none => rw [hc] at hd'; cases hd'
    | some c =>
      rw [hc] at hd'
      cases hd'
      have hl : i < x.cps.size := by have := (List.getElem?_eq_some_iff.mp hc).1; simpa using this
      refine ⟨hl, fun y H' ⟨eH, c', hc', hy⟩ => ?_⟩
      subst eH hy
      have : c' = c := by rw [← Array.getElem?_toList, hc] at hc'; exact (Option.some.inj hc').symm
      subst this
      exact ⟨β2, Ext.refl _ _, S2, VR.str.mpr rfl⟩
  · have hd' := Option.some.inj hd
    unfold strIts at hd'
    rw [List.getElem?_map] at hd'
    cases hc : x.cps.toList[i]? with
    | none => show x.cps.size ≤ i; have := List.getElem?_eq_none_iff.mp hc; simpa using this
    | some c => rw [hc] at hd'; cases hd'
theorem i_str (h : PE X a (lift X.K X.mg W ka)) : PI X tg a (liftI X.K X.mg W (iS ka)) :=
  PI.imp (pi_str h) fun σ H R ⟨β, ρ, st, S, E, p⟩ => lift.bind S E p fun d v β1 H1 st1 e1 S1 E1 r1 p1 => by
    cases d with
    | str x =>
      simp only at p1
      split at p1
      · exact ⟨x, VR.str.mp r1, p1 β1 H1 (Ext.refl _ _) S1 _ (str_ok x)⟩
      · exact p1.elim
    | _ => exact p1.elim
theorem rng_ok {K : PySem.W.Frag} {mg : Str → Option Value} {β : List Addr} {H : Hp} (lo : Int) (n : Nat) : ItOk K mg β H (.its (rngIts lo n)) (Itr lo n) := fun i β2 H2 st2 e2 S2 => by
  have key : ∀ j : Nat, (rngIts lo n)[j]? = if j < n then some (.int (lo + (j : Int))) else none := fun j => by
    unfold rngIts
    rw [List.getElem?_map]
    by_cases h : j < n
    · rw [List.getElem?_range h, if_pos h]; rfl
    · rw [if_neg h, List.getElem?_eq_none (by simpa using h)]; rfl
  refine ⟨fun d hd => ?_, fun hd => ?_⟩
  · have hd' := Option.some.inj hd
    rw [key] at hd'
    by_cases h : i < n
    · rw [if_pos h] at hd'
      cases hd'
      exact ⟨h, fun x H' ⟨eH, hx⟩ => by subst eH hx; exact ⟨β2, Ext.refl _ _, S2, VR.int.mpr rfl⟩⟩
    · rw [if_neg h] at hd'; cases hd'
  · have hd' := Option.some.inj hd
    rw [key] at hd'
    by_cases h : i < n
    · rw [if_pos h] at hd'; cases hd'
    · exact Nat.le_of_not_lt h
theorem i_rng1 {p : Pos} (hg : Gl X "range") (hm : X.mg "range" = none) (ha : PA X [a] (liftA X.K X.mg W kas)) (hs : starEach [a] X.env = [(false, eval a X.env)] := by rfl) : PI X tg (.Call (.Name "range" p) [a] [] pos) (liftI X.K X.mg W (iR1 kas)) :=
  PI.imp (pi_range1 hg hm ha hs) fun σ H R ⟨β, ρ, st, S, E, p⟩ => liftA.bind S E p fun ds vs β1 H1 st1 e1 S1 E1 r1 p1 => by
    unfold rngF1 at p1
    split at p1
    · rename_i j
      split at p1
      · rename_i hb
        obtain ⟨v, r, rfl, h1, h2⟩ := VRs.cons.mp r1
        cases VRs.nil.mp h2
        cases VR.int.mp h1
        exact ⟨j, rfl, hb.1, hb.2, p1 β1 H1 (Ext.refl _ _) S1 _ (rng_ok 0 _)⟩
      · exact p1.elim
    · exact p1.elim
theorem i_rng2 {p : Pos} (hg : Gl X "range") (hm : X.mg "range" = none) (ha : PA X [a, b] (liftA X.K X.mg W kas)) (hs : starEach [a, b] X.env = [(false, eval a X.env), (false, eval b X.env)] := by rfl) (hs2 : starEach [b] X.env = [(false, eval b X.env)] := by rfl) : PI X tg (.Call (.Name "range" p) [a, b] [] pos) (liftI X.K X.mg W (iR2 kas)) :=
  PI.imp (pi_range2 hg hm ha hs hs2) fun σ H R ⟨β, ρ, st, S, E, p⟩ => liftA.bind S E p fun ds vs β1 H1 st1 e1 S1 E1 r1 p1 => by
    unfold rngF2 at p1
    split at p1
    · rename_i i j
      split at p1
      · rename_i hb
        obtain ⟨v, r, rfl, h1, h2⟩ := VRs.cons.mp r1
        obtain ⟨v', r', rfl, h1', h2'⟩ := VRs.cons.mp h2
        cases VRs.nil.mp h2'
        cases VR.int.mp h1
        cases VR.int.mp h1'
        exact ⟨i, j, rfl, hb, p1 β1 H1 (Ext.refl _ _) S1 _ (rng_ok i _)⟩
      · exact p1.elim
    · exact p1.elim

/-! ### for -/
end
def forGo (g : KG) (body : KS) (src : Src) : Nat → Nat → Env3 → Sto → RS
  | 0, _, _, _ => .bad
  | f + 1, i, ρ, st => match src.at st i with
    | none => .bad
    | some none => .nx ρ st
    | some (some d) => match g d ρ with
      | none => .bad
      | some ρ1 => match body ρ1 st with
        | .nx ρ2 st2 => forGo g body src f (i + 1) ρ2 st2
        | .ct ρ2 st2 => forGo g body src f (i + 1) ρ2 st2
        | .bk ρ2 st2 => .nx ρ2 st2
        | .rt d st2 => .rt d st2
        | .exn x ρ2 st2 => .exn x ρ2 st2
        | .bad => .bad
def sFor (g : KG) (it : KI) (body : KS) : KS := fun ρ st => (it ρ st).toS ρ fun src st1 => forGo g body src (src.fuel st1) 0 ρ st1
def whileGo (c : KT) (body : KS) : Nat → Env3 → Sto → RS
  | 0, _, _ => .bad
  | f + 1, ρ, st => (c ρ st).toS ρ fun k st1 => if k = true then match body ρ st1 with
        | .nx ρ2 st2 => whileGo c body f ρ2 st2
        | .ct ρ2 st2 => whileGo c body f ρ2 st2
        | .bk ρ2 st2 => .nx ρ2 st2
        | .rt d st2 => .rt d st2
        | .exn x ρ2 st2 => .exn x ρ2 st2
        | .bad => .bad
      else .nx ρ st1
def sWhile (n : Nat) (c : KT) (body : KS) : KS := whileGo c body n
section
variable {X : Cx} {W : WX} {tg e a b c iter : Expr} {es rest : List Expr} {body : List Stmt} {pos p : Pos} {ka kb kcc : KE} {kt kt' : KT} {kas : KA} {ks : KS} {ki : KI}
theorem liftI.toS {σ : L2.St} {Dn : Ends} {β : List Addr} {H : Hp} {ρ : Env3} {st : Sto} {k : KI} {f : Src → Sto → RS} {R : It → Hp → Prop} (S : Sim X.K X.mg β st H) (E : ER X.K β H ρ σ) (h : PostS X.K X.mg W Dn β H ((k ρ st).toS ρ f))
    (hq : ∀ d β' H' st' J, Ext β H β' H' → Sim X.K X.mg β' st' H' → ER X.K β' H' ρ σ → ItOk X.K X.mg β' H' d J → PostS X.K X.mg W Dn β' H' (f d st') → R J H') : liftI X.K X.mg W k σ H R := by
  refine ⟨β, ρ, st, S, E, ?_⟩
  cases hm : k ρ st with
  | ok a st' =>
    rw [hm] at h
    exact fun β' H' e S' J hJ => hq a β' H' st' J e S' (E.mono e) hJ (PostS.mono e h)
  | exn x st' => rw [hm] at h; exact fun β' H' c dd e S' xr => h β' H' σ c dd e S' (E.mono e) xr
  | bad => rw [hm] at h; exact h
theorem s_for {is : List Nat} {g : KG} (hp : PassesOwn (model X.prog X.w) X.A X.env X.xe) (hc : X.calm = true) (hi : PI X tg iter (liftI X.K X.mg W ki)) (hg : TGt X tg is g) (hb : PSs X body (liftS X.K X.mg W ks))
    (hs : ∀ x, foldedSetIterable iter X.env x = pure x := by intro _; rfl) : PS X (.For tg iter body [] pos) (liftS X.K X.mg W (sFor g ki ks)) := by
  obtain ⟨t, pg, kg⟩ := hg.ex
  refine PS.imp (ps_for hp hc hi pg hb hs) fun Dn σ H ⟨β, ρ, st, S, E, p⟩ => liftI.toS S E p fun src β1 H1 st1 J e1 S1 E1 hJ p1 => ?_
  refine ⟨fun i m σ H => ∃ β ρ st, Ext β1 H1 β H ∧ Sim X.K X.mg β st H ∧ ER X.K β H ρ σ ∧ PostS X.K X.mg W Dn β H (forGo g ks src m i ρ st), ⟨_, β1, ρ, st1, Ext.refl _ _, S1, E1, p1⟩, ?_⟩
  rintro i m σ H ⟨β, ρ, st, ex, S, E, p⟩
  cases m with
  | zero => exact p.elim
  | succ m =>
    unfold forGo at p
    obtain ⟨j1, j2⟩ := hJ i β H st ex S
    cases hat : src.at st i with
    | none => simp only [hat] at p; exact p.elim
    | some o =>
      cases o with
      | none =>
        simp only [hat] at p
        exact .inl ⟨j2 hat, p β H σ (Ext.refl _ _) S E⟩
      | some d =>
        simp only [hat] at p
        obtain ⟨go, yl⟩ := j1 d hat
        refine .inr ⟨go, fun σ' H' => ∃ β' ρ' st', Ext β1 H1 β' H' ∧ Sim X.K X.mg β' st' H' ∧ ER X.K β' H' ρ' σ' ∧ PostS X.K X.mg W Dn β' H' (forGo g ks src m (i + 1) ρ' st'), fun σ' H' ⟨β', ρ', st', q1, q2, q3, q4⟩ => ⟨m, Nat.lt_succ_self _, β', ρ', st', q1, q2, q3, q4⟩, fun x H' y => ?_⟩
        obtain ⟨β2, e2, S2, r2⟩ := yl x H' y
        cases hgd : g d ρ with
        | none => simp only [hgd] at p; exact p.elim
        | some ρ1 =>
          simp only [hgd] at p
          refine kg d x σ H' ρ β2 _ ρ1 r2 (E.mono e2) hgd fun σ2 E2 _ => ⟨β2, ρ1, st, S2, E2, ?_⟩
          have p2 := PostS.mono e2 p
          have ex2 := ex.trans e2
          cases hbd : ks ρ1 st with
          | nx ρ3 st3 => simp only [hbd] at p2; exact fun β3 H3 σ3 e3 S3 E3 => ⟨β3, ρ3, st3, ex2.trans e3, S3, E3, PostS.mono e3 p2⟩
          | ct ρ3 st3 => simp only [hbd] at p2; exact fun β3 H3 σ3 e3 S3 E3 => ⟨β3, ρ3, st3, ex2.trans e3, S3, E3, PostS.mono e3 p2⟩
          | bk ρ3 st3 => simp only [hbd] at p2; exact p2
          | rt d3 st3 => simp only [hbd] at p2; exact p2
          | exn x3 ρ3 st3 => simp only [hbd] at p2; exact p2
          | bad => simp only [hbd] at p2; exact p2
theorem s_while {n : Nat} (hp : PassesOwn (model X.prog X.w) X.A X.env X.xe) (hc : PT X c (liftT X.K X.mg W kt)) (hb : PSs X body (liftS X.K X.mg W ks)) : PS X (.While c body [] pos) (liftS X.K X.mg W (sWhile n kt ks)) := by
  refine PS.imp (ps_while hp hc hb) fun Dn σ H ⟨β, ρ, st, S, E, p⟩ => ?_
  refine ⟨fun m σ H => ∃ β ρ st, Sim X.K X.mg β st H ∧ ER X.K β H ρ σ ∧ PostS X.K X.mg W Dn β H (whileGo kt ks m ρ st), ⟨n, β, ρ, st, S, E, p⟩, ?_⟩
  rintro m σ H ⟨β, ρ, st, S, E, p⟩
  cases m with
  | zero => exact p.elim
  | succ m =>
    refine liftT.toS S E p fun k β1 H1 st1 e1 S1 E1 p1 => ?_
    cases k with
    | false => exact iteF (p1 β1 H1 σ (Ext.refl _ _) S1 E1)
    | true =>
      refine iteT ⟨fun σ' H' => ∃ β' ρ' st', Sim X.K X.mg β' st' H' ∧ ER X.K β' H' ρ' σ' ∧ PostS X.K X.mg W Dn β' H' (whileGo kt ks m ρ' st'), fun σ' H' ⟨β', ρ', st', q2, q3, q4⟩ => ⟨m, Nat.lt_succ_self _, β', ρ', st', q2, q3, q4⟩, ⟨β1, ρ, st1, S1, E1, ?_⟩⟩
      simp only [if_true] at p1
      cases hbd : ks ρ st1 with
      | nx ρ3 st3 => simp only [hbd] at p1; exact fun β3 H3 σ3 e3 S3 E3 => ⟨β3, ρ3, st3, S3, E3, PostS.mono e3 p1⟩
      | ct ρ3 st3 => simp only [hbd] at p1; exact fun β3 H3 σ3 e3 S3 E3 => ⟨β3, ρ3, st3, S3, E3, PostS.mono e3 p1⟩
      | bk ρ3 st3 => simp only [hbd] at p1; exact p1
      | rt d3 st3 => simp only [hbd] at p1; exact p1
      | exn x3 ρ3 st3 => simp only [hbd] at p1; exact p1
      | bad => simp only [hbd] at p1; exact p1
end

/-! ### list comprehensions -/
theorem wipe_wipe {σ : L2.St} {us : List Nat} : ∀ ws : List Nat, (∀ w ∈ ws, w ∈ us) → L2.wipe (L2.wipe σ ws) us = L2.wipe σ us
  | [], _ => rfl
  | w :: ws, h => by
    show L2.wipe ((L2.wipe σ ws).set w none) us = _
    rw [wipe_set (h w List.mem_cons_self), wipe_wipe ws fun x hx => h x (List.mem_cons_of_mem _ hx)]
theorem kg_name {X : Cx} {i : Nat} : PGK X [i] (gN i) (gName i) := fun d v σ H ρ β Q ρ' r E h k => by cases h; exact k _ (E.set i r) fun us hu => wipe_set (hu i List.mem_cons_self)
theorem kgs_nil {X : Cx} : PGKs X [] gs0 gNil := fun ds vs σ H ρ β Q ρ' r E h k => by
  cases ds with
  | nil => cases h; exact ⟨VRs.nil.mp r, k _ E fun _ _ => rfl⟩
  | cons _ _ => cases h
theorem kgs_cons {X : Cx} {is js : List Nat} {g : KG} {gs : KGs} {t : TG} {ts : TGs} (k : PGK X is g t) (kks : PGKs X js gs ts) : PGKs X (is ++ js) (gs1 g gs) (gCons t ts) := fun ds vs σ H ρ β Q ρ' r E h kq => by
  cases ds with
  | nil => cases h
  | cons d ds =>
    obtain ⟨v, vr, rfl, r1, r2⟩ := VRs.cons.mp r
    obtain ⟨ρ1, h1, h2⟩ := Option.bind_eq_some_iff.mp (show (g d ρ).bind (gs ds) = some ρ' from h)
    exact ⟨v, vr, rfl, k d v σ H ρ β _ ρ1 r1 E h1 fun σ1 E1 w1 => kks ds vr σ1 H ρ1 β Q ρ' r2 E1 h2 fun σ2 E2 w2 => kq σ2 E2 fun us hu =>
      (w2 us fun i hi => hu i (List.mem_append_right _ hi)).trans (w1 us fun i hi => hu i (List.mem_append_left _ hi))⟩
theorem kg_tup {X : Cx} {is : List Nat} {gs : KGs} {ts : TGs} {n : Nat} (kks : PGKs X is gs ts) : PGK X is (gT n gs) (gTup X.K n ts) := fun d v σ H ρ β Q ρ' r E h kq => by
  cases d with
  | tup ds =>
    obtain ⟨q, vs, rfl, h1, h2⟩ := VR.tupS r
    unfold gT at h
    simp only at h
    split at h
    · rename_i hl
      exact ⟨q, vs, rfl, h1, by rw [h2.length]; exact hl, kks ds vs σ H ρ β Q ρ' h2 E h kq⟩
    · cases h
  | _ => cases h
def wipeD (ρ : Env3) : List Nat → Env3
  | [] => ρ
  | v :: vs => (wipeD ρ vs).set v none
theorem ER.wipe {K : PySem.W.Frag} {β : List Addr} {H : Hp} {ρ : Env3} {σ : L2.St} (E : ER K β H ρ σ) : ∀ vs, ER K β H (wipeD ρ vs) (L2.wipe σ vs)
  | [] => E
  | v :: vs => (ER.wipe E vs).clear v none
def kTrue : KT := fun _ st => .ok true st
def lcGo (g : KG) (cnd : KT) (elt : KE) (src : Src) (ρ : Env3) : Nat → Nat → Sto → List D → R (List D)
  | 0, _, _, _ => .bad
  | f + 1, i, st, acc => match src.at st i with
    | none => .bad
    | some none => .ok acc st
    | some (some d) => match g d ρ with
      | none => .bad
      | some ρ1 => match cnd ρ1 st with
        | .ok k st1 => if k = true then match elt ρ1 st1 with
            | .ok y st2 => if acc.length < 16777215 then lcGo g cnd elt src ρ f (i + 1) st2 (acc ++ [y]) else .bad
            | _ => .bad
          else lcGo g cnd elt src ρ f (i + 1) st1 acc
        | _ => .bad
def kLc (vs : List Nat) (g : KG) (it : KI) (cnd : KT) (elt : KE) : KE := fun ρ st => (it ρ st).bind fun src st1 => (lcGo g cnd elt src (wipeD ρ vs) (src.fuel st1) 0 st1 []).bind fun acc st2 => .ok (.loc st2.length) (st2 ++ [.lst acc])
abbrev W0 : WX := fun _ _ _ _ => False
section
variable {X : Cx} {W : WX} {tg e a b c iter elt : Expr} {es ifs : List Expr} {body : List Stmt} {pos p : Pos} {ka kb kcc ke : KE} {kt kt' : KT} {kas : KA} {ks : KS} {ki : KI}
theorem c_nil : PTs X [] (liftT X.K X.mg W kTrue) := ⟨fun pins s σ H Q I ⟨β, ρ, st, S, E, p⟩ => pts_nil.run pins s σ H Q I (p β H (Ext.refl _ _) S)⟩
theorem c_one (h : PT X c (liftT X.K X.mg W kt)) : PTs X [c] (liftT X.K X.mg W kt) := pts_one h
theorem liftI.bind {α : Type} {σ : L2.St} {ok : α → List Addr → Hp → Prop} {β : List Addr} {H : Hp} {ρ : Env3} {st : Sto} {k : KI} {f : Src → Sto → R α} {R : It → Hp → Prop} (S : Sim X.K X.mg β st H) (E : ER X.K β H ρ σ) (h : PostA X.K X.mg W σ ok β H ((k ρ st).bind f))
    (hq : ∀ d β' H' st' J, Ext β H β' H' → Sim X.K X.mg β' st' H' → ER X.K β' H' ρ σ → ItOk X.K X.mg β' H' d J → PostA X.K X.mg W σ ok β' H' (f d st') → R J H') : liftI X.K X.mg W k σ H R := by
  refine ⟨β, ρ, st, S, E, ?_⟩
  cases hm : k ρ st with
  | ok a st' =>
    rw [hm] at h
    exact fun β' H' e S' J hJ => hq a β' H' st' J e S' (E.mono e) hJ (PostA.mono e h)
  | exn x st' => rw [hm] at h; exact h
  | bad => rw [hm] at h; exact h
theorem Ext.updNew {β1 β : List Addr} {H1 H : Hp} {D : Addr} {o : HO} (e : Ext β1 H1 β H) (h1 : H1 D = none) : Ext β1 H1 β (upd H D o) :=
  ⟨⟨e.pre, fun a xs h => by rw [upd_ne (ne_of_none h h1)]; exact e.tups a xs h, fun a o u h => by rw [upd_ne (ne_of_none h h1)]; exact e.frzs a o u h, fun a u h => by rw [upd_ne (ne_of_none h h1)]; exact e.exts a u h⟩, fun a u h hn ht => by rw [upd_ne (ne_of_none h h1)]; exact e.keep a u h hn ht, e.new⟩
theorem Sim.updOut {K : PySem.W.Frag} {mg : Str → Option Value} {β : List Addr} {st : Sto} {H : Hp} {D : Addr} {xs : List V} {o : HO} (S : Sim K mg β st H) (h : H D = some (.lst xs)) (hn : D ∉ β) : Sim K mg β st (upd H D o) ∧ Ext0 β H β (upd H D o) := by
  have e : Ext0 β H β (upd H D o) := ⟨⟨[], by simp⟩, fun a xs q => by rw [upd_ne (fun z => by subst z; rw [h] at q; cases q)]; exact q, fun a o u q => by rw [upd_ne (fun z => by subst z; rw [h] at q; cases q)]; exact q, fun a u q => by rw [upd_ne (fun z => by subst z; rw [h] at q; exact lst_code (Option.some.inj q))]; exact q⟩
  exact ⟨⟨S.len, S.inj, fun n ob a h1 h2 => (S.ob n ob a h1 h2).mono0 e (upd_ne fun z => by subst z; exact hn (List.mem_of_getElem? h2))⟩, e⟩
theorem lc_main {is vs : List Nat} {t : TG} {g : KG} (kg : PGK X is g t) (hv : ∀ i ∈ is, i ∈ vs) {σ : L2.St} {H : Hp} {Q : VK} (h : lift X.K X.mg W (kLc vs g ki kt ke) σ H Q) : tLc (liftI X.K X.mg W ki) t (liftT X.K X.mg W0 kt) (lift X.K X.mg W0 ke) vs σ H Q := by
  obtain ⟨β, ρ, st, S, E, p⟩ := h
  refine liftI.bind S E p fun src β1 H1 st1 J e1 S1 E1 hJ p1 => ?_
  intro D hD
  refine ⟨fun i m H => ∃ β st acc us, Ext β1 H1 β H ∧ Sim X.K X.mg β st H ∧ H D = some (.lst us) ∧ D ∉ β ∧ VRs X.K β H acc us ∧ PostA X.K X.mg W σ (okE X.K Q) β1 H1 ((lcGo g kt ke src (wipeD ρ vs) m i st acc).bind fun acc st2 => .ok (.loc st2.length) (st2 ++ [.lst acc])),
    ⟨_, β1, st1, [], [], ext_new0 hD, S1.new0 hD, upd_same, fun hm => ?_, VRs.nil.mpr rfl, p1⟩, ?_⟩
  · obtain ⟨n, hn, e⟩ := List.mem_iff_getElem.mp hm
    exact S1.fresh hD (n := n) (by rw [List.getElem?_eq_getElem hn, e])
  rintro i m H ⟨β, st, acc, us, ex, S, hl, hn, ra, p⟩
  cases m with
  | zero => exact p.elim
  | succ m =>
    unfold lcGo at p
    obtain ⟨j1, j2⟩ := hJ i β H st ex S
    cases hat : src.at st i with
    | none => simp only [hat] at p; exact p.elim
    | some o =>
      cases o with
      | none =>
        simp only [hat] at p
        refine .inl ⟨j2 hat, p (β ++ [D]) H ⟨⟨?_, ex.tups, ex.frzs, ex.exts⟩, ex.keep, fun a ha => ?_⟩ ?_ _ (VR.loc.mpr ⟨D, by rw [← S.len]; simp, rfl⟩)⟩
        · obtain ⟨q, e⟩ := ex.pre
          exact ⟨q ++ [D], by rw [e]; simp⟩
        · rcases List.mem_append.mp ha with ha | ha
          · exact ex.new a ha
          · have e : a = D := by simpa using ha
            subst e
            exact .inr (.inl hD)
        · have eD : Ext0 β H (β ++ [D]) H := ⟨⟨[D], rfl⟩, fun _ _ h => h, fun _ _ _ h => h, fun _ _ h => h⟩
          refine ⟨by simp [S.len], fun a b c h1 h2 => ?_, fun n ob a h1 h2 => ?_⟩
          · have la : a < β.length + 1 := by simpa using (List.getElem?_eq_some_iff.mp h1).1
            have lb : b < β.length + 1 := by simpa using (List.getElem?_eq_some_iff.mp h2).1
            by_cases ha : a < β.length
            · rw [List.getElem?_append_left ha] at h1
              by_cases hb : b < β.length
              · rw [List.getElem?_append_left hb] at h2
                exact S.inj a b c h1 h2
              · have e : b = β.length := by omega
                subst e
                simp at h2
                subst h2
                exact absurd (List.mem_of_getElem? h1) hn
            · have e : a = β.length := by omega
              subst e
              simp at h1
              subst h1
              by_cases hb : b < β.length
              · rw [List.getElem?_append_left hb] at h2
                exact absurd (List.mem_of_getElem? h2) hn
              · omega
          · have ln : n < β.length + 1 := by simpa using (List.getElem?_eq_some_iff.mp h2).1
            by_cases hnn : n < β.length
            · rw [List.getElem?_append_left hnn] at h2
              rw [List.getElem?_append_left (by rw [← S.len]; exact hnn)] at h1
              exact (S.ob n ob a h1 h2).mono0 eD rfl
            · have e : n = β.length := by omega
              subst e
              simp at h2
              subst h2
              rw [S.len] at h1
              simp at h1
              subst h1
              exact ⟨us, hl, VRs.mono0 eD _ _ ra⟩
      | some d =>
        simp only [hat] at p
        obtain ⟨go, yl⟩ := j1 d hat
        refine .inr ⟨go, fun H' => ∃ β' st' acc' us', Ext β1 H1 β' H' ∧ Sim X.K X.mg β' st' H' ∧ H' D = some (.lst us') ∧ D ∉ β' ∧ VRs X.K β' H' acc' us' ∧ PostA X.K X.mg W σ (okE X.K Q) β1 H1 ((lcGo g kt ke src (wipeD ρ vs) m (i + 1) st' acc').bind fun acc st2 => .ok (.loc st2.length) (st2 ++ [.lst acc])),
          fun H' ⟨β', st', acc', us', q⟩ => ⟨m, Nat.lt_succ_self _, β', st', acc', us', q⟩, fun x H' y => ?_⟩
        obtain ⟨β2, e2, S2, r2⟩ := yl x H' y
        have stay : ∀ {βa βb : List Addr} {Ha Hb : Hp}, Ext βa Ha βb Hb → Ha D = some (.lst us) → D ∉ βa → Hb D = some (.lst us) ∧ D ∉ βb := fun ee hh hnn => ⟨ee.keep D _ hh hnn (fun _ z => by cases z), fun z => by
          rcases ee.new D z with z | z | ⟨ps, z⟩
          · exact hnn z
          · rw [hh] at z; cases z
          · rw [hh] at z; cases z⟩
        obtain ⟨hl2, hn2⟩ := stay e2 hl hn
        cases hgd : g d (wipeD ρ vs) with
        | none => simp only [hgd] at p; exact p.elim
        | some ρ1 =>
          simp only [hgd] at p
          refine kg d x (L2.wipe σ vs) H' (wipeD ρ vs) β2 _ ρ1 r2 ((E1.mono (ex.trans e2)).wipe vs) hgd fun σ2 E2 wp => ⟨?_, ?_⟩
          · exact (wp vs hv).trans (wipe_wipe vs fun _ h => h)
          refine ⟨β2, ρ1, st, S2, E2, ?_⟩
          cases hk : kt ρ1 st with
          | exn _ _ => simp only [hk] at p; exact p.elim
          | bad => simp only [hk] at p; exact p.elim
          | ok k st3 =>
            simp only [hk] at p
            intro β3 H3 e3 S3
            obtain ⟨hl3, hn3⟩ := stay e3 hl2 hn2
            cases k with
            | false =>
              exact iteF ⟨β3, st3, acc, us, (ex.trans e2).trans e3, S3, hl3, hn3, VRs.mono e3 _ _ (VRs.mono e2 _ _ ra), p⟩
            | true =>
              simp only [if_true] at p
              refine iteT ⟨β3, ρ1, st3, S3, E2.mono e3, ?_⟩
              cases hy : ke ρ1 st3 with
              | exn _ _ => simp only [hy] at p; exact p.elim
              | bad => simp only [hy] at p; exact p.elim
              | ok y st4 =>
                simp only [hy] at p
                split at p
                · rename_i hz
                  intro β4 H4 e4 S4 v4 r4
                  obtain ⟨hl4, hn4⟩ := stay e4 hl3 hn3
                  have ra4 := VRs.mono e4 _ _ (VRs.mono e3 _ _ (VRs.mono e2 _ _ ra))
                  obtain ⟨S5, e5⟩ := S4.updOut (o := .lst (us ++ [v4])) hl4 hn4
                  refine ⟨us, hl4, ?_, β4, st4, acc ++ [y], us ++ [v4], (((ex.trans e2).trans e3).trans e4).updNew hD, S5, upd_same, hn4, VRs.mono0 e5 _ _ (ra4.append (VRs.cons.mpr ⟨v4, [], rfl, r4, VRs.nil.mpr rfl⟩)), p⟩
                  have : us.length < 16777215 := by rw [ra4.length]; exact hz
                  rw [sizeLine_eq]; omega
                · exact p.elim
theorem q_lc {scope : Scope} {own : List (Str × Nat)} {is : List Nat} {g : KG} {t : TG} (hc : X.calm = true) (hN : X.N.Nodup) (hi : PI X tg iter (liftI X.K X.mg W ki)) (ok : BlkOk X.N X.env.scope scope own)
    (hg : ∀ (s : Shared) (H : Hp) (C : Addr) (cl : List (Str × Addr)) (fp : List Addr), PG (X.blk s H scope (compEnvC scope cl C X.env) fp) tg t) (kg : PGK X is g t) (hv : ∀ i ∈ is, i ∈ own.map (·.2))
    (ht : ∀ (s : Shared) (H : Hp) (C : Addr) (cl : List (Str × Addr)) (fp : List Addr), PTs (X.blk s H scope (compEnvC scope cl C X.env) fp) ifs (liftT X.K X.mg W0 kt))
    (he : ∀ (s : Shared) (H : Hp) (C : Addr) (cl : List (Str × Addr)) (fp : List Addr), PE (X.blk s H scope (compEnvC scope cl C X.env) fp) elt (lift X.K X.mg W0 ke)) (hs : ∀ x, foldedSetIterable iter X.env x = pure x := by intro _; rfl) :
    PE X (.ListComp elt [⟨tg, iter, ifs, 0⟩] scope pos) (lift X.K X.mg W (kLc (own.map (·.2)) g ki kt ke)) :=
  PE.imp (pe_lc hc hN hi ok hg ht he hs) fun σ H Q h => lc_main kg hv h
theorem s_setLc {i : Nat} {y : Str} {py spos : Pos} {scope : Scope} {own : List (Str × Nat)} {is : List Nat} {g : KG} {t : TG} (hc : X.calm = true) (hN : X.N.Nodup) (hy : X.N[i]? = some y) (hyl : X.env.scope.names.lookup y = some .local)
    (hsw : swapsWith (.ListComp elt [⟨tg, iter, ifs, 0⟩] scope pos) (some (.Name y py)) spos.line X.env = pure true) (hi : PI X tg iter (liftI X.K X.mg W ki)) (ok : BlkOk X.N X.env.scope scope own)
    (hg : ∀ (s : Shared) (H : Hp) (C : Addr) (cl : List (Str × Addr)) (fp : List Addr), PG (X.blk s H scope (compEnvC scope cl C X.env) fp) tg t) (kg : PGK X is g t) (hv : ∀ i ∈ is, i ∈ own.map (·.2))
    (ht : ∀ (s : Shared) (H : Hp) (C : Addr) (cl : List (Str × Addr)) (fp : List Addr), PTs (X.blk s H scope (compEnvC scope cl C X.env) fp) ifs (liftT X.K X.mg W0 kt))
    (he : ∀ (s : Shared) (H : Hp) (C : Addr) (cl : List (Str × Addr)) (fp : List Addr), PE (X.blk s H scope (compEnvC scope cl C X.env) fp) elt (lift X.K X.mg W0 ke)) (hs : ∀ x, foldedSetIterable iter X.env x = pure x := by intro _; rfl) :
    PS X (.Assign [.Name y py] (.ListComp elt [⟨tg, iter, ifs, 0⟩] scope pos) spos) (liftS X.K X.mg W (sSet i (kLc (own.map (·.2)) g ki kt ke))) :=
  PS.imp (ps_setLc hc hN hy hyl hsw hi ok hg ht he hs) fun Dn σ H ⟨β, ρ, st, S, E, p⟩ => by
    show tLc _ _ _ _ _ σ H _
    refine lc_main kg hv (lift.toS S E p fun d v β1 H1 st1 e1 S1 E1 r1 p1 => ?_)
    exact p1 β1 H1 _ (Ext.refl _ _) S1 (E1.set i r1)
end
end L3

namespace L3
open PySem PySem.Spec PyProof.Rows L2

/-! ### what the operators mean -/
def addD (x y : D) (st : Sto) : R D := match x, y with
  | .int i, .int j => .ok (.int (i + j)) st
  | .str i, .str j => if i.length + j.length ≤ 16777216 then .ok (.str (i ++ j)) st else .bad
  | .tup xs, .tup ys => if xs.length + ys.length ≤ 16777216 then .ok (.tup (xs ++ ys)) st else .bad
  | .loc m, .loc n => match st[m]?, st[n]? with
    | some (.lst xs), some (.lst ys) => if xs.length + ys.length ≤ 16777216 then .ok (.loc st.length) (st ++ [.lst (xs ++ ys)]) else .bad
    | _, _ => .bad
  | _, _ => .bad
def subD (x y : D) (st : Sto) : R D := match x, y with
  | .int i, .int j => .ok (.int (i - j)) st
  | _, _ => .bad
/-- a product is made where its bits are surely few -/
def mulOk (i j : Int) : Prop := ((-(2 ^ 64) < i ∧ i < 2 ^ 64) ∨ (-(2 ^ 64) < j ∧ j < 2 ^ 64)) ∨ i.natAbs.log2 + j.natAbs.log2 < 1000000
instance (i j : Int) : Decidable (mulOk i j) := by unfold mulOk; infer_instance
def mulD (x y : D) (st : Sto) : R D := match x, y with
  | .int i, .int j => if mulOk i j then .ok (.int (i * j)) st else .bad
  | .loc m, .int k => match st[m]? with
    | some (.lst xs) => if -(2 ^ 63) ≤ k ∧ k < 2 ^ 63 ∧ xs.length * k.toNat ≤ 16777216 then .ok (.loc st.length) (st ++ [.lst (List.replicate k.toNat xs).flatten]) else .bad
    | _ => .bad
  | _, _ => .bad
def divOk (j : Int) : Prop := 0 < j ∧ (j < 1073741824 ∨ j.natAbs.log2 < 9000)
instance (j : Int) : Decidable (divOk j) := by unfold divOk; infer_instance
def fdivD (x y : D) (st : Sto) : R D := match x, y with
  | .int i, .int j => if divOk j then .ok (.int (i / j)) st else .bad
  | _, _ => .bad
def modD (x y : D) (st : Sto) : R D := match x, y with
  | .int i, .int j => if 0 < j then .ok (.int (i % j)) st else .bad
  | _, _ => .bad
def powD (x y : D) (st : Sto) : R D := match x, y with
  | .int i, .int j => if 0 ≤ j ∧ (Builtin.Int.intBits i : Int) * j ≤ 2 ^ 27 then .ok (.int (i ^ j.toNat)) st else .bad
  | _, _ => .bad
def cmpD (f : Int → Int → Bool) (g : Str → Str → Bool) (x y : D) (st : Sto) : R D := match x, y with
  | .int i, .int j => .ok (.bl (f i j)) st
  | .str i, .str j => .ok (.bl (g i j)) st
  | _, _ => .bad
abbrev ltD := cmpD (fun i j => decide (i < j)) fun i j => decide (i.cps.toList < j.cps.toList)
abbrev leD := cmpD (fun i j => decide (i ≤ j)) fun i j => !decide (j.cps.toList < i.cps.toList)
abbrev gtD := cmpD (fun i j => decide (j < i)) fun i j => decide (j.cps.toList < i.cps.toList)
abbrev geD := cmpD (fun i j => decide (j ≤ i)) fun i j => !decide (i.cps.toList < j.cps.toList)
def negD (x : D) (st : Sto) : R D := match x with
  | .int i => .ok (.int (-i)) st
  | _ => .bad

/-! ### data, read whole -/
def allO {α : Type} : List (Option α) → Option (List α)
  | [] => some []
  | o :: r => o.bind fun a => (allO r).bind fun l => some (a :: l)
def pd (st : Sto) : Nat → D → Option PyData
  | _, .non => some .none
  | _, .bl b => some (.bool b)
  | _, .int i => some (.int i)
  | _, .str x => some (.str x)
  | n + 1, .tup xs => (allO (xs.map (pd st n))).bind fun l => some (.tuple l)
  | n + 1, .frz xs => (allO (xs.map (pd st n))).bind fun l => some (.list l)
  | n + 1, .loc m => match st[m]? with
    | some (.lst xs) => (allO (xs.map (pd st n))).bind fun l => some (.list l)
    | _ => none
  | 0, .tup _ => none
  | 0, .frz _ => none
  | 0, .loc _ => none
  | _, .cls _ => none
  | _, .lam _ _ _ => none
  | _, .fn _ _ => none
  | _, .fdk _ _ => none
def eqD (x y : D) (st : Sto) : R D := match pd st 40 x, pd st 40 y with
  | some d, some e => if SeqAt.shaped d = true ∧ SeqAt.shaped e = true then .ok (.bl (PyData.eqv d e)) st else .bad
  | _, _ => .bad
def neD (x y : D) (st : Sto) : R D := match pd st 40 x, pd st 40 y with
  | some d, some e => if SeqAt.shaped d = true ∧ SeqAt.shaped e = true then .ok (.bl (!PyData.eqv d e)) st else .bad
  | _, _ => .bad
def isNon : D → Bool
  | .non => true
  | _ => false
def isN (x : D) (st : Sto) : R D := .ok (.bl (isNon x)) st
def notN (x : D) (st : Sto) : R D := .ok (.bl (!isNon x)) st
def flatD : D → Bool
  | .non | .bl _ | .int _ | .str _ => true
  | _ => false
/-- in: a text in a text; data in a list -/
def inD (neg : Bool) (x y : D) (st : Sto) : R D := match y with
  | .str j => match x with
    | .str i => .ok (.bl (neg != (!(Builtin.Str.occurrences j i 0 j.length 1).isEmpty))) st
    | _ => .bad
  | .tup xs => match x with
    | .str _ | .int _ | .bl _ | .non => if xs.all flatD = true then match pd st 1 x, allO (xs.map (pd st 1)) with
        | some d, some ds => .ok (.bl (neg != ds.any fun z => PyData.eqv z d)) st
        | _, _ => .bad
      else .bad
    | _ => .bad
  | y => match pd st 40 x, pd st 40 y with
    | some d, some (.list ds) => if SeqAt.shaped d = true ∧ SeqAt.shaped (.list ds) = true then .ok (.bl (neg != ds.any fun z => PyData.eqv z d)) st else .bad
    | _, _ => .bad
/-- x[i] -/
def ixD (x y : D) (st : Sto) : R D := match y with
  | .int i => match x with
    | .tup xs => match atI xs i with | some d => .ok d st | none => .bad
    | .frz xs => match atI xs i with | some d => .ok d st | none => .bad
    | .str z => if z.length ≤ 16777216 then match atI z.cps.toList i with | some c => .ok (.str ⟨#[c]⟩) st | none => .bad else .bad
    | .loc n => match st[n]? with
      | some (.lst xs) => match atI xs i with | some d => .ok d st | none => .bad
      | _ => .bad
    | _ => .bad
  | _ => .bad

section
variable {X : Cx} {W : WX}
theorem fin {K : PySem.W.Frag} {mg : Str → Option Value} {σ : L2.St} {β : List Addr} {H : Hp} {st : Sto} {Q : VK} {d : D} {v : V} (p : PostA K mg W σ (okE K Q) β H (.ok d st)) (S : Sim K mg β st H) (r : VR K β H d v) : Q v H := p β H (Ext.refl _ _) S v r
theorem o_add : OpS X W (binaryOp .Add) addD := OpS.of (op_add.or (op_add_str.or (op_catA.or op_cat))) fun σ H x y Q β st dx dy S rx ry p => by
  unfold addD at p
  split at p
  · cases VR.int.mp rx; cases VR.int.mp ry
    exact .inl ⟨_, _, rfl, rfl, fin p S (VR.int.mpr rfl)⟩
  · cases VR.str.mp rx; cases VR.str.mp ry
    split at p
    · rename_i hz; exact .inr (.inl ⟨_, _, rfl, rfl, szl hz, fin p S (VR.str.mpr rfl)⟩)
    · exact p.elim
  · rename_i xs ys
    obtain ⟨a, vs, rfl, h1, h2⟩ := VR.tupS rx
    obtain ⟨b, us, rfl, g1, g2⟩ := VR.tupS ry
    split at p
    · rename_i hz
      refine .inr (.inr (.inl ⟨a, b, vs, us, rfl, rfl, h1, g1, by rw [h2.length, g2.length]; exact szl hz, fun e => ?_, fun e1 e2 => ?_, fun _ _ q hq => ?_⟩))
      · subst e
        have : xs = [] := by have := h2.length; cases xs with | nil => rfl | cons _ _ => simp at this
        subst this
        exact fin p S ry
      · subst e2
        have : ys = [] := by have := g2.length; cases ys with | nil => rfl | cons _ _ => simp at this
        subst this
        rw [List.append_nil] at p
        exact fin p S rx
      · exact p β _ (ext_new0 hq) (S.new0 hq) _ (VR.tup.mpr ⟨q, _, rfl, upd_same, VRs.mono (ext_new0 hq) _ _ (h2.append g2)⟩)
    · exact p.elim
  · rename_i m n
    obtain ⟨a, h1, rfl⟩ := VR.loc.mp rx
    obtain ⟨b, g1, rfl⟩ := VR.loc.mp ry
    obtain ⟨o, h2, h3⟩ := S.at h1
    obtain ⟨o', g2, g3⟩ := S.at g1
    simp only [h2, g2] at p
    cases o with
    | lst xs =>
      cases o' with
      | lst ys =>
        simp only at p
        split at p
        · rename_i hz
          obtain ⟨vs, h4, h5⟩ := h3
          obtain ⟨us, g4, g5⟩ := g3
          refine .inr (.inr (.inr ⟨a, b, vs, us, rfl, rfl, h4, g4, by rw [h5.length, g5.length]; exact szl hz, fun q hq => ?_⟩))
          obtain ⟨x1, x2, x3⟩ := newLst S (h5.append g5) hq
          exact p _ _ x1 x2 _ x3
        · exact p.elim
      | _ => exact p.elim
    | _ => cases o' <;> exact p.elim
  · exact p.elim
theorem o_sub : OpS X W (binaryOp .Sub) subD := OpS.of op_sub fun σ H x y Q β st dx dy S rx ry p => by
  unfold subD at p
  split at p
  · cases VR.int.mp rx; cases VR.int.mp ry
    exact ⟨_, _, rfl, rfl, fin p S (VR.int.mpr rfl)⟩
  · exact p.elim
theorem o_mul : OpS X W (binaryOp .Mult) mulD := OpS.of ((op_mul.or op_mulW).or op_rep) fun σ H x y Q β st dx dy S rx ry p => by
  unfold mulD at p
  split at p
  · cases VR.int.mp rx; cases VR.int.mp ry
    split at p
    · rename_i hm
      rcases hm with hm | hm
      · exact .inl (.inl ⟨_, _, rfl, rfl, hm, fin p S (VR.int.mpr rfl)⟩)
      · exact .inl (.inr ⟨_, _, rfl, rfl, hm, fin p S (VR.int.mpr rfl)⟩)
    · exact p.elim
  · rename_i m k
    obtain ⟨a, h1, rfl⟩ := VR.loc.mp rx
    cases VR.int.mp ry
    obtain ⟨o, h2, h3⟩ := S.at h1
    simp only [h2] at p
    cases o with
    | lst xs =>
      simp only at p
      split at p
      · rename_i hz
        obtain ⟨vs, h4, h5⟩ := h3
        refine .inr ⟨a, k, vs, rfl, rfl, h4, hz.1, hz.2.1, by rw [h5.length]; exact szl hz.2.2, fun q hq => ?_⟩
        have hr : ∀ n : Nat, VRs X.K β H (List.replicate n xs).flatten (List.replicate n vs).flatten := fun n => by
          induction n with
          | zero => exact VRs.nil.mpr rfl
          | succ n ih => rw [List.replicate_succ, List.replicate_succ, List.flatten_cons, List.flatten_cons]; exact h5.append ih
        obtain ⟨x1, x2, x3⟩ := newLst S (hr k.toNat) hq
        exact p _ _ x1 x2 _ x3
      · exact p.elim
    | _ => exact p.elim
  · exact p.elim
theorem o_fdiv : OpS X W (binaryOp .FloorDiv) fdivD := OpS.of (op_fdiv.or op_fdivW) fun σ H x y Q β st dx dy S rx ry p => by
  unfold fdivD at p
  split at p
  · cases VR.int.mp rx; cases VR.int.mp ry
    split at p
    · rename_i hm
      obtain ⟨h0, hm | hm⟩ := hm
      · exact .inl ⟨_, _, rfl, rfl, ⟨h0, hm⟩, fin p S (VR.int.mpr rfl)⟩
      · exact .inr ⟨_, _, rfl, rfl, ⟨h0, hm⟩, fin p S (VR.int.mpr rfl)⟩
    · exact p.elim
  · exact p.elim
theorem o_mod : OpS X W (binaryOp .Mod) modD := OpS.of op_mod fun σ H x y Q β st dx dy S rx ry p => by
  unfold modD at p
  split at p
  · cases VR.int.mp rx; cases VR.int.mp ry
    split at p
    · rename_i hm; exact ⟨_, _, rfl, rfl, hm, fin p S (VR.int.mpr rfl)⟩
    · exact p.elim
  · exact p.elim
theorem op_powL : OpR X (binaryOp .Pow) (rI (fun i j => 0 ≤ j ∧ (Builtin.Int.intBits i : Int) * j ≤ 2 ^ 27) fun i j => .int (i ^ j.toNat)) := opI fun _ _ _ _ _ _ _ hc q => PyProof.Rows.pow_int hc.1 hc.2 q
theorem o_pow : OpS X W (binaryOp .Pow) powD := OpS.of op_powL fun σ H x y Q β st dx dy S rx ry p => by
  unfold powD at p
  split at p
  · cases VR.int.mp rx; cases VR.int.mp ry
    split at p
    · rename_i hm; exact ⟨_, _, rfl, rfl, hm, fin p S (VR.int.mpr rfl)⟩
    · exact p.elim
  · exact p.elim
theorem o_cmp {op : CmpOp} {f : Int → Int → Bool} {g : Str → Str → Bool} (h1 : OpR X (compareOp op) (rI0 fun i j => .bl (f i j))) (h2 : OpR X (compareOp op) (fun x y H Q => ∃ i j, x = .str i ∧ y = .str j ∧ Q (.bl (g i j)) H)) : OpS X W (compareOp op) (cmpD f g) := OpS.of (h1.or h2) fun σ H x y Q β st dx dy S rx ry p => by
  unfold cmpD at p
  split at p
  · cases VR.int.mp rx; cases VR.int.mp ry
    exact .inl ⟨_, _, rfl, rfl, fin p S (VR.bl.mpr rfl)⟩
  · cases VR.str.mp rx; cases VR.str.mp ry
    exact .inr ⟨_, _, rfl, rfl, fin p S (VR.bl.mpr rfl)⟩
  · exact p.elim
theorem o_lt : OpS X W (compareOp .Lt) ltD := o_cmp op_lt op_lt_str
theorem o_le : OpS X W (compareOp .LtE) leD := o_cmp op_le op_le_str
theorem o_gt : OpS X W (compareOp .Gt) gtD := o_cmp op_gt op_gt_str
theorem o_ge : OpS X W (compareOp .GtE) geD := o_cmp op_ge op_ge_str
theorem o_neg : UnS X W (unaryOp .USub) negD := fun pins s σ H x v Q β st dx I rx S vx p => by
  unfold negD at p
  split at p
  · cases VR.int.mp vx
    exact un_neg pins s σ H _ v Q I rx ⟨_, rfl, fin p S (VR.int.mpr rfl)⟩
  · exact p.elim

theorem allO_map {K : PySem.W.Frag} {β : List Addr} {H : Hp} {f : D → Option PyData} (h : ∀ d v p, f d = some p → VR K β H d v → Dp K H v p) : ∀ {ds : List D} {vs : List V} {ps : List PyData}, allO (ds.map f) = some ps → VRs K β H ds vs → DpAll K H vs ps
  | [], vs, ps, e, r => by cases e; rw [VRs.nil.mp r]; exact .nil
  | d :: ds, vs, ps, e, r => by
    obtain ⟨v, us, rfl, r1, r2⟩ := VRs.cons.mp r
    obtain ⟨p, h1, e⟩ := Option.bind_eq_some_iff.mp (show (f d).bind (fun a => (allO (ds.map f)).bind fun l => some (a :: l)) = some ps from e)
    obtain ⟨l, h2, e⟩ := Option.bind_eq_some_iff.mp e
    cases e
    exact .cons (h d v p h1 r1) (allO_map h h2 r2)
theorem pd_ok {K : PySem.W.Frag} {mg : Str → Option Value} {β : List Addr} {st : Sto} {H : Hp} (S : Sim K mg β st H) : ∀ (n : Nat) (d : D) (v : V) (p : PyData), pd st n d = some p → VR K β H d v → Dp K H v p := by
  intro n
  induction n with
  | zero =>
    intro d v p e r
    cases d with
    | non => cases e; cases VR.non.mp r; exact .non
    | bl b => cases e; cases VR.bl.mp r; exact .bl b
    | int b => cases e; cases VR.int.mp r; exact .int b
    | str b => cases e; cases VR.str.mp r; exact .str b
    | _ => cases e
  | succ n ih =>
    intro d v p e r
    cases d with
    | non => cases e; cases VR.non.mp r; exact .non
    | bl b => cases e; cases VR.bl.mp r; exact .bl b
    | int b => cases e; cases VR.int.mp r; exact .int b
    | str b => cases e; cases VR.str.mp r; exact .str b
    | cls b => cases e
    | lam _ _ _ => cases e
    | fn _ _ => cases e
    | fdk _ _ => cases e
    | tup xs =>
      obtain ⟨a, vs, rfl, h1, h2⟩ := VR.tupS r
      obtain ⟨l, hl, e⟩ := Option.bind_eq_some_iff.mp (show (allO (xs.map (pd st n))).bind _ = some p from e)
      cases e
      exact .tup h1 (allO_map ih hl h2)
    | frz xs =>
      obtain ⟨a, vs, rfl, h1, h2⟩ := VR.frz.mp r
      obtain ⟨l, hl, e⟩ := Option.bind_eq_some_iff.mp (show (allO (xs.map (pd st n))).bind _ = some p from e)
      cases e
      exact .lst h1.sq (allO_map ih hl h2)
    | loc m =>
      obtain ⟨a, h1, rfl⟩ := VR.loc.mp r
      obtain ⟨o, h2, h3⟩ := S.at h1
      unfold pd at e
      simp only [h2] at e
      cases o with
      | lst xs =>
        obtain ⟨vs, h4, h5⟩ := h3
        obtain ⟨l, hl, e⟩ := Option.bind_eq_some_iff.mp e
        cases e
        exact .lst (SqL.of h4) (allO_map ih hl h5)
      | _ => cases e
theorem o_eq (hu : X.A.units + 64 < cLine) : OpS X W (compareOp .Eq) eqD := OpS.of (op_eqD hu) fun σ H x y Q β st dx dy S rx ry p => by
  unfold eqD at p
  split at p
  · rename_i d e h1 h2
    split at p
    · rename_i hs
      exact ⟨d, e, pd_ok S 40 dx x d h1 rx, pd_ok S 40 dy y e h2 ry, hs.1, hs.2, fin p S (VR.bl.mpr rfl)⟩
    · exact p.elim
  · exact p.elim
theorem o_ne (hu : X.A.units + 64 < cLine) : OpS X W (compareOp .NotEq) neD := OpS.of (op_neD hu) fun σ H x y Q β st dx dy S rx ry p => by
  unfold neD at p
  split at p
  · rename_i d e h1 h2
    split at p
    · rename_i hs
      exact ⟨d, e, pd_ok S 40 dx x d h1 rx, pd_ok S 40 dy y e h2 ry, hs.1, hs.2, fin p S (VR.bl.mpr rfl)⟩
    · exact p.elim
  · exact p.elim
theorem non_rel {K : PySem.W.Frag} {β : List Addr} {H : Hp} {d : D} {v : V} (r : VR K β H d v) : decide (v = .non) = isNon d := by
  cases d with
  | non => cases VR.non.mp r; rfl
  | bl b => cases VR.bl.mp r; rfl
  | int b => cases VR.int.mp r; rfl
  | str b => cases VR.str.mp r; rfl
  | tup xs => obtain ⟨a, vs, rfl, h1, h2⟩ := VR.tupS r; rfl
  | frz xs => obtain ⟨a, vs, rfl, h1, h2⟩ := VR.frz.mp r; rfl
  | loc m => obtain ⟨a, h1, rfl⟩ := VR.loc.mp r; rfl
  | cls a => cases VR.cls.mp r; rfl
  | lam _ _ _ => cases (VR.lam.mp r).1; rfl
  | fn _ _ => cases VR.fn.mp r; rfl
  | fdk _ _ => obtain ⟨a, o, vs, rfl, _⟩ := VR.fdk.mp r; rfl
/-- e is None; e is not None -/
theorem q_isN {a : Expr} {ka : KE} {pos pos' : Pos} {j} (ha : PE X a (lift X.K X.mg W ka)) : PE X (.Compare a [.Is] [.Constant .none j pos'] pos) (lift X.K X.mg W (k1 isN ka)) :=
  PE.imp (pe_cmp (pc_isN ha) rfl) fun σ H Q ⟨β, ρ, st, S, E, p⟩ => lift.bind S E p fun d v β1 H1 st1 e1 S1 E1 r1 p1 => by
    rw [non_rel r1]
    exact fin p1 S1 (VR.bl.mpr rfl)
theorem q_notN {a : Expr} {ka : KE} {pos pos' : Pos} {j} (ha : PE X a (lift X.K X.mg W ka)) : PE X (.Compare a [.IsNot] [.Constant .none j pos'] pos) (lift X.K X.mg W (k1 notN ka)) :=
  PE.imp (pe_cmp (pc_notN ha) rfl) fun σ H Q ⟨β, ρ, st, S, E, p⟩ => lift.bind S E p fun d v β1 H1 st1 e1 S1 E1 r1 p1 => by
    rw [non_rel r1]
    exact fin p1 S1 (VR.bl.mpr rfl)
theorem kTb_k1 {α : Type} {f : D → Sto → R D} {ka : KE} {ρ : Env3} {st : Sto} : kTb (k1 f ka) ρ st = (ka ρ st).bind fun d st1 => (f d st1).bind fun d st1 => match d with | .bl b => .ok b st1 | _ => .bad := by
  unfold kTb k1
  cases ka ρ st <;> rfl
theorem q_tisN {a : Expr} {ka : KE} {pos pos' : Pos} {j} (ha : PE X a (lift X.K X.mg W ka)) : PT X (.Compare a [.Is] [.Constant .none j pos'] pos) (liftT X.K X.mg W (kTb (k1 isN ka))) :=
  PT.imp (pt_cmp (pc_isN ha) rfl) fun σ H Q ⟨β, ρ, st, S, E, p⟩ => by
    rw [kTb_k1 (α := Unit)] at p
    exact lift.bind (ok := okT Q) S E p fun d v β1 H1 st1 e1 S1 E1 r1 p1 => by
      rw [non_rel r1]
      exact ⟨_, rfl, p1 β1 H1 (Ext.refl _ _) S1⟩
theorem q_tnotN {a : Expr} {ka : KE} {pos pos' : Pos} {j} (ha : PE X a (lift X.K X.mg W ka)) : PT X (.Compare a [.IsNot] [.Constant .none j pos'] pos) (liftT X.K X.mg W (kTb (k1 notN ka))) :=
  PT.imp (pt_cmp (pc_notN ha) rfl) fun σ H Q ⟨β, ρ, st, S, E, p⟩ => by
    rw [kTb_k1 (α := Unit)] at p
    exact lift.bind (ok := okT Q) S E p fun d v β1 H1 st1 e1 S1 E1 r1 p1 => by
      rw [non_rel r1]
      exact ⟨_, rfl, p1 β1 H1 (Ext.refl _ _) S1⟩

/-! ### in -/
theorem flat_rel {K : PySem.W.Frag} {β : List Addr} {H : Hp} {st : Sto} {d d' : D} {v v' : V} {p p' : PyData} (r : VR K β H d v) (h : flatD d = true) (hp : pd st 1 d = some p) (r' : VR K β H d' v') (h' : flatD d' = true) (hp' : pd st 1 d' = some p') : flatV v = true ∧ eqV v v' = PyData.eqv p p' := by
  cases d with
  | non => cases VR.non.mp r; cases hp; cases d' with
      | non => cases VR.non.mp r'; cases hp'; simp [PyData.eqv, eqV, flatV]
      | bl b => cases VR.bl.mp r'; cases hp'; simp [PyData.eqv, eqV, flatV]
      | int b => cases VR.int.mp r'; cases hp'; simp [PyData.eqv, eqV, flatV]
      | str b => cases VR.str.mp r'; cases hp'; simp [PyData.eqv, eqV, flatV]
      | _ => cases h'
  | bl b => cases VR.bl.mp r; cases hp; cases d' with
      | non => cases VR.non.mp r'; cases hp'; simp [PyData.eqv, eqV, flatV]
      | bl b => cases VR.bl.mp r'; cases hp'; simp [PyData.eqv, eqV, flatV]
      | int b => cases VR.int.mp r'; cases hp'; simp [PyData.eqv, eqV, flatV]
      | str b => cases VR.str.mp r'; cases hp'; simp [PyData.eqv, eqV, flatV]
      | _ => cases h'
  | int b => cases VR.int.mp r; cases hp; cases d' with
      | non => cases VR.non.mp r'; cases hp'; simp [PyData.eqv, eqV, flatV]
      | bl b => cases VR.bl.mp r'; cases hp'; simp [PyData.eqv, eqV, flatV]
      | int b => cases VR.int.mp r'; cases hp'; simp [PyData.eqv, eqV, flatV]
      | str b => cases VR.str.mp r'; cases hp'; simp [PyData.eqv, eqV, flatV]
      | _ => cases h'
  | str b => cases VR.str.mp r; cases hp; cases d' with
      | non => cases VR.non.mp r'; cases hp'; simp [PyData.eqv, eqV, flatV]
      | bl b => cases VR.bl.mp r'; cases hp'; simp [PyData.eqv, eqV, flatV]
      | int b => cases VR.int.mp r'; cases hp'; simp [PyData.eqv, eqV, flatV]
      | str b => cases VR.str.mp r'; cases hp'; simp [PyData.eqv, eqV, flatV]
      | _ => cases h'
  | _ => cases h
theorem inV_rel {K : PySem.W.Frag} {β : List Addr} {H : Hp} {st : Sto} {d : D} {v : V} {p : PyData} (r : VR K β H d v) (h : flatD d = true) (hp : pd st 1 d = some p) : ∀ {ds : List D} {vs : List V} {ps : List PyData}, VRs K β H ds vs → ds.all flatD = true → allO (ds.map (pd st 1)) = some ps → vs.all flatV = true ∧ inV v vs = ps.any fun z => PyData.eqv z p
  | [], vs, ps, rs, hs, e => by cases e; rw [VRs.nil.mp rs]; exact ⟨rfl, rfl⟩
  | c :: ds, vs, ps, rs, hs, e => by
    obtain ⟨w, us, rfl, r1, r2⟩ := VRs.cons.mp rs
    obtain ⟨q, h1, e⟩ := Option.bind_eq_some_iff.mp (show (pd st 1 c).bind (fun a => (allO (ds.map (pd st 1))).bind fun l => some (a :: l)) = some ps from e)
    obtain ⟨l, h2, e⟩ := Option.bind_eq_some_iff.mp e
    cases e
    rw [List.all_cons, Bool.and_eq_true] at hs
    obtain ⟨f1, f2⟩ := inV_rel r h hp r2 hs.2 h2
    obtain ⟨g1, g2⟩ := flat_rel r1 hs.1 h1 r h hp
    refine ⟨by rw [List.all_cons, g1, f1]; rfl, ?_⟩
    show (eqV w v || inV v us) = (PyData.eqv q p || l.any fun z => PyData.eqv z p)
    rw [g2, f2]
theorem o_in (hu : X.A.units + 65 < cLine) : OpS X W (compareOp .In) (inD false) := OpS.of (op_in_str.or (op_in_seq.or (op_inD hu))) fun σ H x y Q β st dx dy S rx ry p => by
  unfold inD at p
  split at p
  · split at p
    · cases VR.str.mp rx; cases VR.str.mp ry
      exact .inl ⟨_, _, rfl, rfl, fin p S (VR.bl.mpr (by simp))⟩
    · exact p.elim
  · rename_i xs
    obtain ⟨a, vs, rfl, h1, h2⟩ := VR.tupS ry
    have key : flatD dx = true → PostA X.K X.mg W σ (okE X.K Q) β H (if xs.all flatD = true then match pd st 1 dx, allO (xs.map (pd st 1)) with
        | some d, some ds => .ok (.bl (false != ds.any fun z => PyData.eqv z d)) st
        | _, _ => .bad
      else .bad) → rIn X.K false x (.ref a) H Q := fun hf p => by
      split at p
      · rename_i hx
        split at p
        · rename_i d ds e1 e2
          obtain ⟨f1, f2⟩ := inV_rel rx hf e1 h2 hx e2
          have hfx : flatV x = true := (flat_rel rx hf e1 rx hf e1).1
          exact ⟨a, vs, rfl, .inr h1, hfx, f1, fin p S (VR.bl.mpr (by rw [← f2]; simp))⟩
        · exact p.elim
      · exact p.elim
    cases dx with
    | non => exact .inr (.inl (key rfl p))
    | bl _ => exact .inr (.inl (key rfl p))
    | int _ => exact .inr (.inl (key rfl p))
    | str _ => exact .inr (.inl (key rfl p))
    | _ => exact p.elim
  · split at p
    · rename_i d ds e1 e2
      split at p
      · rename_i hs
        exact .inr (.inr ⟨d, ds, pd_ok S 40 _ _ _ e1 rx, pd_ok S 40 _ _ _ e2 ry, hs.1, hs.2, fin p S (VR.bl.mpr (by simp))⟩)
      · exact p.elim
    · exact p.elim
theorem o_notIn (hu : X.A.units + 65 < cLine) : OpS X W (compareOp .NotIn) (inD true) := OpS.of (op_notIn_str.or (op_notIn_seq.or (op_notInD hu))) fun σ H x y Q β st dx dy S rx ry p => by
  unfold inD at p
  split at p
  · split at p
    · cases VR.str.mp rx; cases VR.str.mp ry
      exact .inl ⟨_, _, rfl, rfl, fin p S (VR.bl.mpr (by simp))⟩
    · exact p.elim
  · rename_i xs
    obtain ⟨a, vs, rfl, h1, h2⟩ := VR.tupS ry
    have key : flatD dx = true → PostA X.K X.mg W σ (okE X.K Q) β H (if xs.all flatD = true then match pd st 1 dx, allO (xs.map (pd st 1)) with
        | some d, some ds => .ok (.bl (true != ds.any fun z => PyData.eqv z d)) st
        | _, _ => .bad
      else .bad) → rIn X.K true x (.ref a) H Q := fun hf p => by
      split at p
      · rename_i hx
        split at p
        · rename_i d ds e1 e2
          obtain ⟨f1, f2⟩ := inV_rel rx hf e1 h2 hx e2
          have hfx : flatV x = true := (flat_rel rx hf e1 rx hf e1).1
          exact ⟨a, vs, rfl, .inr h1, hfx, f1, fin p S (VR.bl.mpr (by rw [← f2]; simp))⟩
        · exact p.elim
      · exact p.elim
    cases dx with
    | non => exact .inr (.inl (key rfl p))
    | bl _ => exact .inr (.inl (key rfl p))
    | int _ => exact .inr (.inl (key rfl p))
    | str _ => exact .inr (.inl (key rfl p))
    | _ => exact p.elim
  · split at p
    · rename_i d ds e1 e2
      split at p
      · rename_i hs
        exact .inr (.inr ⟨d, ds, pd_ok S 40 _ _ _ e1 rx, pd_ok S 40 _ _ _ e2 ry, hs.1, hs.2, fin p S (VR.bl.mpr (by simp))⟩)
      · exact p.elim
    · exact p.elim

/-! ### x[i] -/
theorem atI_rel {K : PySem.W.Frag} {β : List Addr} {H : Hp} {ds : List D} {vs : List V} {i : Int} {d : D} (r : VRs K β H ds vs) (h : atI ds i = some d) : ∃ v, atI vs i = some v ∧ VR K β H d v := by
  unfold atI at h ⊢
  rw [r.length]
  obtain ⟨j, h1, h2⟩ := Option.bind_eq_some_iff.mp h
  obtain ⟨v, h3, h4⟩ := r.getD h2
  exact ⟨v, by rw [h1]; exact h3, h4⟩
theorem x_ix : IxS X W ixD := by
  intro value slice pins s σ H x y v u Q β st dx dy I rx ry S vx vy p hs
  refine ix_seq value slice pins s σ H x y v u Q I rx ry ?_ hs
  unfold ixD at p
  split at p
  · rename_i i
    cases VR.int.mp vy
    split at p
    · obtain ⟨a, vs, rfl, h1, h2⟩ := VR.tupS vx
      split at p
      · rename_i d hd
        obtain ⟨w, h3, h4⟩ := atI_rel h2 hd
        exact .inr (.inl ⟨a, vs, i, w, rfl, rfl, h1, h3, fin p S h4⟩)
      · exact p.elim
    · obtain ⟨a, vs, rfl, h1, h2⟩ := VR.frz.mp vx
      split at p
      · rename_i d hd
        obtain ⟨w, h3, h4⟩ := atI_rel h2 hd
        exact .inl ⟨a, vs, i, w, rfl, rfl, h1.sq, h3, fin p S h4⟩
      · exact p.elim
    · cases VR.str.mp vx
      split at p
      · rename_i hz
        split at p
        · rename_i c hc
          exact .inr (.inr ⟨_, i, c, rfl, rfl, szl hz, hc, fin p S (VR.str.mpr rfl)⟩)
        · exact p.elim
      · exact p.elim
    · rename_i n
      obtain ⟨a, h1, rfl⟩ := VR.loc.mp vx
      obtain ⟨o, h2, h3⟩ := S.at h1
      simp only [h2] at p
      cases o with
      | lst xs =>
        obtain ⟨vs, h4, h5⟩ := h3
        simp only at p
        split at p
        · rename_i d hd
          obtain ⟨w, h6, h7⟩ := atI_rel h5 hd
          exact .inl ⟨a, vs, i, w, rfl, rfl, SqL.of h4, h6, fin p S h7⟩
        · exact p.elim
      | _ => exact p.elim
    · exact p.elim
  · exact p.elim
end
end L3

namespace L3
open PySem PySem.Spec PyProof.Rows L2

/-! ### built-in functions -/
def lenF (ds : List D) (st : Sto) : R D := match ds with
  | [.tup xs] => .ok (.int xs.length) st
  | [.frz xs] => .ok (.int xs.length) st
  | [.str x] => if x.length ≤ 16777216 then .ok (.int x.length) st else .bad
  | [.loc n] => match st[n]? with
    | some (.lst xs) => .ok (.int xs.length) st
    | _ => .bad
  | _ => .bad
def absF (ds : List D) (st : Sto) : R D := match ds with
  | [.int i] => .ok (.int (if i < 0 then -i else i)) st
  | _ => .bad
def maxF (ds : List D) (st : Sto) : R D := match ds with
  | [.int i, .int j] => .ok (.int (if j > i then j else i)) st
  | _ => .bad
def minF (ds : List D) (st : Sto) : R D := match ds with
  | [.int i, .int j] => .ok (.int (if j < i then j else i)) st
  | _ => .bad
def intF (ds : List D) (st : Sto) : R D := match ds with
  | [.int i] => .ok (.int i) st
  | [.bl k] => .ok (.int (if k then 1 else 0)) st
  | _ => .bad
def reprF (ds : List D) (st : Sto) : R D := match ds with
  | [.bl b] => .ok (.str (if b then "True" else "False")) st
  | [.int i] => if i.natAbs.log2 < 1920 then .ok (.str (toString i)) st else .bad
  | _ => .bad
def listF (ds : List D) (st : Sto) : R D := match ds with
  | [.tup xs] => .ok (.loc st.length) (st ++ [.lst xs])
  | [.frz xs] => .ok (.loc st.length) (st ++ [.lst xs])
  | [.loc n] => match st[n]? with
    | some (.lst xs) => .ok (.loc st.length) (st ++ [.lst xs])
    | _ => .bad
  | _ => .bad
def tupleF (ds : List D) (st : Sto) : R D := match ds with
  | [.tup xs] => .ok (.tup xs) st
  | [.frz xs] => .ok (.tup xs) st
  | [.loc n] => match st[n]? with
    | some (.lst xs) => .ok (.tup xs) st
    | _ => .bad
  | _ => .bad
def boolsO : List D → Option (List Bool)
  | [] => some []
  | .bl b :: r => (boolsO r).bind fun l => some (b :: l)
  | _ :: _ => none
def intsO : List D → Option (List Int)
  | [] => some []
  | .int b :: r => (intsO r).bind fun l => some (b :: l)
  | _ :: _ => none
def strsO : List D → Option (List Str)
  | [] => some []
  | .str b :: r => (strsO r).bind fun l => some (b :: l)
  | _ :: _ => none
def itemsD (d : D) (st : Sto) : Option (List D) := match d with
  | .frz xs => some xs
  | .loc n => match st[n]? with
    | some (.lst xs) => some xs
    | _ => none
  | _ => none
def allF (ds : List D) (st : Sto) : R D := match ds with
  | [d] => match (itemsD d st).bind boolsO with
    | some bs => .ok (.bl (bs.all id)) st
    | none => .bad
  | _ => .bad
def anyF (ds : List D) (st : Sto) : R D := match ds with
  | [d] => match (itemsD d st).bind boolsO with
    | some bs => .ok (.bl (bs.any id)) st
    | none => .bad
  | _ => .bad
def sumF (ds : List D) (st : Sto) : R D := match ds with
  | [d] => match (itemsD d st).bind intsO with
    | some bs => .ok (.int bs.sum) st
    | none => .bad
  | _ => .bad
/-! ### methods -/
def appendM (d : D) (ds : List D) (st : Sto) : R D := match d, ds with
  | .loc n, [y] => match st[n]? with
    | some (.lst xs) => if xs.length < 16777216 then .ok .non (st.set n (.lst (xs ++ [y]))) else .bad
    | _ => .bad
  | _, _ => .bad
def extendM (d : D) (ds : List D) (st : Sto) : R D := match d, ds with
  | .loc n, [.loc m] => match st[n]?, st[m]? with
    | some (.lst xs), some (.lst ys) => if xs.length + ys.length ≤ 16777216 then .ok .non (st.set n (.lst (xs ++ ys))) else .bad
    | _, _ => .bad
  | _, _ => .bad
def popM (d : D) (ds : List D) (st : Sto) : R D := match d, ds with
  | .loc n, [] => match st[n]? with
    | some (.lst xs) => match xs[xs.length - 1]? with
      | some y => .ok y (st.set n (.lst xs.dropLast))
      | none => .bad
    | _ => .bad
  | _, _ => .bad
def popAtM (d : D) (ds : List D) (st : Sto) : R D := match d, ds with
  | .loc n, [.int i] => match st[n]? with
    | some (.lst xs) => if -(2 ^ 63) ≤ i ∧ i < 2 ^ 63 then match seqIndex? i xs.length with
        | some k => match xs[k]? with
          | some y => .ok y (st.set n (.lst (xs.eraseIdx k)))
          | none => .bad
        | none => .bad
      else .bad
    | _ => .bad
  | _, _ => .bad
def joinM (d : D) (ds : List D) (st : Sto) : R D := match d, ds with
  | .str a, [y] => match (match y with | .tup xs => some xs | y => itemsD y st).bind strsO with
    | some ys => if (ys.map (·.length)).sum + ys.length * a.length ≤ 16777216 then .ok (.str (Txt.join a ys)) st else .bad
    | none => .bad
  | _, _ => .bad
def upperM (d : D) (ds : List D) (st : Sto) : R D := match d, ds with
  | .str a, [] => if a.length ≤ 5592405 then .ok (.str (Txt.upper a)) st else .bad
  | _, _ => .bad

section
variable {X : Cx} {W : WX}
theorem VRs.one {K : PySem.W.Frag} {β : List Addr} {H : Hp} {d : D} {vs : List V} (h : VRs K β H [d] vs) : ∃ v, vs = [v] ∧ VR K β H d v := by
  obtain ⟨v, r, rfl, h1, h2⟩ := VRs.cons.mp h
  cases VRs.nil.mp h2
  exact ⟨v, rfl, h1⟩
theorem VRs.two {K : PySem.W.Frag} {β : List Addr} {H : Hp} {d e : D} {vs : List V} (h : VRs K β H [d, e] vs) : ∃ v w, vs = [v, w] ∧ VR K β H d v ∧ VR K β H e w := by
  obtain ⟨v, r, rfl, h1, h2⟩ := VRs.cons.mp h
  obtain ⟨w, rfl, h3⟩ := h2.one
  exact ⟨v, w, rfl, h1, h3⟩
theorem f_len : CallS X W (.builtin "len") lenF := CallS.of (call_len_seq.or call_len_str) fun σ H xs Q β st ds S r p => by
  unfold lenF at p
  split at p
  · obtain ⟨v, rfl, h⟩ := r.one
    obtain ⟨a, vs, rfl, h1, h2⟩ := VR.tupS h
    exact .inl ⟨a, vs, rfl, .inr h1, fin p S (VR.int.mpr (by rw [h2.length]))⟩
  · obtain ⟨v, rfl, h⟩ := r.one
    obtain ⟨a, vs, rfl, h1, h2⟩ := VR.frz.mp h
    exact .inl ⟨a, vs, rfl, .inl h1.sq, fin p S (VR.int.mpr (by rw [h2.length]))⟩
  · obtain ⟨v, rfl, h⟩ := r.one
    cases VR.str.mp h
    split at p
    · rename_i hz; exact .inr ⟨_, rfl, szl hz, fin p S (VR.int.mpr rfl)⟩
    · exact p.elim
  · obtain ⟨v, rfl, h⟩ := r.one
    obtain ⟨a, h1, rfl⟩ := VR.loc.mp h
    obtain ⟨o, h2, h3⟩ := S.at h1
    simp only [h2] at p
    cases o with
    | lst xs =>
      obtain ⟨vs, h4, h5⟩ := h3
      exact .inl ⟨a, vs, rfl, .inl (SqL.of h4), fin p S (VR.int.mpr (by rw [h5.length]))⟩
    | _ => exact p.elim
  · exact p.elim
theorem f_abs : CallS X W (.builtin "abs") absF := CallS.of call_abs fun σ H xs Q β st ds S r p => by
  unfold absF at p
  split at p
  · obtain ⟨v, rfl, h⟩ := r.one
    cases VR.int.mp h
    exact ⟨_, rfl, fin p S (VR.int.mpr rfl)⟩
  · exact p.elim
theorem f_max (hc : X.calm = true) : CallS X W (.builtin "max") maxF := CallS.of (call_max2 hc) fun σ H xs Q β st ds S r p => by
  unfold maxF at p
  split at p
  · obtain ⟨v, w, rfl, h, h'⟩ := r.two
    cases VR.int.mp h; cases VR.int.mp h'
    exact ⟨_, _, rfl, fin p S (VR.int.mpr rfl)⟩
  · exact p.elim
theorem f_min (hc : X.calm = true) : CallS X W (.builtin "min") minF := CallS.of (call_min2 hc) fun σ H xs Q β st ds S r p => by
  unfold minF at p
  split at p
  · obtain ⟨v, w, rfl, h, h'⟩ := r.two
    cases VR.int.mp h; cases VR.int.mp h'
    exact ⟨_, _, rfl, fin p S (VR.int.mpr rfl)⟩
  · exact p.elim
theorem f_int : CallS X W (.type "int") intF := CallS.of call_int1 fun σ H xs Q β st ds S r p => by
  unfold intF at p
  split at p
  · obtain ⟨v, rfl, h⟩ := r.one
    cases VR.int.mp h
    exact .inl ⟨_, rfl, fin p S (VR.int.mpr rfl)⟩
  · obtain ⟨v, rfl, h⟩ := r.one
    cases VR.bl.mp h
    exact .inr ⟨_, rfl, fin p S (VR.int.mpr rfl)⟩
  · exact p.elim
theorem call_repr_bl : CallR X (.builtin "repr") (fun xs H Q => ∃ b, xs = [.bl b] ∧ Q (.str (if b then "True" else "False")) H) := by
  intro pins s σ H xs us Q I r h
  obtain ⟨b, rfl, q⟩ := h
  obtain ⟨u, rfl, r1⟩ := vals1 r
  cases r1
  exact PySem.P.repr_of_bool ⟨.str _, H, I.tok _, ⟨_, rfl⟩, q⟩
theorem call_repr_i : CallR X (.builtin "repr") (fun xs H Q => ∃ i, xs = [.int i] ∧ i.natAbs.log2 < 1920 ∧ Q (.str (toString i)) H) := by
  intro pins s σ H xs us Q I r h
  obtain ⟨i, rfl, hz, q⟩ := h
  obtain ⟨u, rfl, t, rfl⟩ := vals1 r
  exact PySem.P.repr_of_int hz ⟨.str _, H, I.tok _, ⟨_, rfl⟩, q⟩
theorem f_repr : CallS X W (.builtin "repr") reprF := CallS.of (call_repr_bl.or call_repr_i) fun σ H xs Q β st ds S r p => by
  unfold reprF at p
  split at p
  · obtain ⟨v, rfl, h⟩ := r.one
    cases VR.bl.mp h
    exact .inl ⟨_, rfl, fin p S (VR.str.mpr rfl)⟩
  · obtain ⟨v, rfl, h⟩ := r.one
    cases VR.int.mp h
    split at p
    · rename_i hz; exact .inr ⟨_, rfl, hz, fin p S (VR.str.mpr rfl)⟩
    · exact p.elim
  · exact p.elim
theorem f_list : CallS X W (.type "list") listF := CallS.of call_list_of fun σ H xs Q β st ds S r p => by
  unfold listF at p
  split at p
  · obtain ⟨v, rfl, h⟩ := r.one
    obtain ⟨a, vs, rfl, h1, h2⟩ := VR.tupS h
    exact ⟨a, vs, rfl, .inr h1, fun q hq => by obtain ⟨x1, x2, x3⟩ := newLst S h2 hq; exact p _ _ x1 x2 _ x3⟩
  · obtain ⟨v, rfl, h⟩ := r.one
    obtain ⟨a, vs, rfl, h1, h2⟩ := VR.frz.mp h
    exact ⟨a, vs, rfl, .inl h1.sq, fun q hq => by obtain ⟨x1, x2, x3⟩ := newLst S h2 hq; exact p _ _ x1 x2 _ x3⟩
  · obtain ⟨v, rfl, h⟩ := r.one
    obtain ⟨a, h1, rfl⟩ := VR.loc.mp h
    obtain ⟨o, h2, h3⟩ := S.at h1
    simp only [h2] at p
    cases o with
    | lst xs =>
      obtain ⟨vs, h4, h5⟩ := h3
      exact ⟨a, vs, rfl, .inl (SqL.of h4), fun q hq => by obtain ⟨x1, x2, x3⟩ := newLst S h5 hq; exact p _ _ x1 x2 _ x3⟩
    | _ => exact p.elim
  · exact p.elim
theorem f_tuple : CallS X W (.type "tuple") tupleF := CallS.of call_tuple_of fun σ H xs Q β st ds S r p => by
  unfold tupleF at p
  split at p
  · obtain ⟨v, rfl, h⟩ := r.one
    obtain ⟨a, vs, rfl, h1, h2⟩ := VR.tupS h
    exact ⟨a, vs, rfl, .inr ⟨h1, fin p S h⟩⟩
  · obtain ⟨v, rfl, h⟩ := r.one
    obtain ⟨a, vs, rfl, h1, h2⟩ := VR.frz.mp h
    exact ⟨a, vs, rfl, .inl ⟨h1.sq, fun q hq => p β _ (ext_new0 hq) (S.new0 hq) _ (VR.tup.mpr ⟨q, vs, rfl, upd_same, VRs.mono (ext_new0 hq) _ _ h2⟩)⟩⟩
  · obtain ⟨v, rfl, h⟩ := r.one
    obtain ⟨a, h1, rfl⟩ := VR.loc.mp h
    obtain ⟨o, h2, h3⟩ := S.at h1
    simp only [h2] at p
    cases o with
    | lst xs =>
      obtain ⟨vs, h4, h5⟩ := h3
      exact ⟨a, vs, rfl, .inl ⟨SqL.of h4, fun q hq => p β _ (ext_new0 hq) (S.new0 hq) _ (VR.tup.mpr ⟨q, vs, rfl, upd_same, VRs.mono (ext_new0 hq) _ _ h5⟩)⟩⟩
    | _ => exact p.elim
  · exact p.elim
theorem items_rel {K : PySem.W.Frag} {mg : Str → Option Value} {β : List Addr} {st : Sto} {H : Hp} {d : D} {v : V} {xs : List D} (S : Sim K mg β st H) (r : VR K β H d v) (h : itemsD d st = some xs) : ∃ a vs, v = .ref a ∧ SqL K H a vs ∧ VRs K β H xs vs := by
  cases d with
  | frz ys =>
    cases h
    obtain ⟨a, vs, rfl, h1, h2⟩ := VR.frz.mp r
    exact ⟨a, vs, rfl, h1.sq, h2⟩
  | loc n =>
    obtain ⟨a, h1, rfl⟩ := VR.loc.mp r
    obtain ⟨o, h2, h3⟩ := S.at h1
    simp only [itemsD, h2] at h
    cases o with
    | lst ys => cases h; obtain ⟨vs, h4, h5⟩ := h3; exact ⟨a, vs, rfl, SqL.of h4, h5⟩
    | _ => cases h
  | _ => cases h
theorem bools_rel {K : PySem.W.Frag} {β : List Addr} {H : Hp} : ∀ {ds : List D} {vs : List V} {bs : List Bool}, boolsO ds = some bs → VRs K β H ds vs → vs = bs.map V.bl
  | [], vs, bs, e, r => by cases e; exact VRs.nil.mp r
  | .bl b :: ds, vs, bs, e, r => by
    obtain ⟨v, us, rfl, r1, r2⟩ := VRs.cons.mp r
    obtain ⟨l, h1, e⟩ := Option.bind_eq_some_iff.mp (show (boolsO ds).bind _ = some bs from e)
    cases e
    rw [VR.bl.mp r1, bools_rel h1 r2]; rfl
  | .non :: _, _, _, e, _ => by cases e
  | .int _ :: _, _, _, e, _ => by cases e
  | .str _ :: _, _, _, e, _ => by cases e
  | .tup _ :: _, _, _, e, _ => by cases e
  | .frz _ :: _, _, _, e, _ => by cases e
  | .loc _ :: _, _, _, e, _ => by cases e
theorem ints_rel {K : PySem.W.Frag} {β : List Addr} {H : Hp} : ∀ {ds : List D} {vs : List V} {bs : List Int}, intsO ds = some bs → VRs K β H ds vs → vs = bs.map V.int
  | [], vs, bs, e, r => by cases e; exact VRs.nil.mp r
  | .int b :: ds, vs, bs, e, r => by
    obtain ⟨v, us, rfl, r1, r2⟩ := VRs.cons.mp r
    obtain ⟨l, h1, e⟩ := Option.bind_eq_some_iff.mp (show (intsO ds).bind _ = some bs from e)
    cases e
    rw [VR.int.mp r1, ints_rel h1 r2]; rfl
  | .non :: _, _, _, e, _ => by cases e
  | .bl _ :: _, _, _, e, _ => by cases e
  | .str _ :: _, _, _, e, _ => by cases e
  | .tup _ :: _, _, _, e, _ => by cases e
  | .frz _ :: _, _, _, e, _ => by cases e
  | .loc _ :: _, _, _, e, _ => by cases e
theorem strs_rel {K : PySem.W.Frag} {β : List Addr} {H : Hp} : ∀ {ds : List D} {vs : List V} {bs : List Str}, strsO ds = some bs → VRs K β H ds vs → vs = bs.map V.str
  | [], vs, bs, e, r => by cases e; exact VRs.nil.mp r
  | .str b :: ds, vs, bs, e, r => by
    obtain ⟨v, us, rfl, r1, r2⟩ := VRs.cons.mp r
    obtain ⟨l, h1, e⟩ := Option.bind_eq_some_iff.mp (show (strsO ds).bind _ = some bs from e)
    cases e
    rw [VR.str.mp r1, strs_rel h1 r2]; rfl
  | .non :: _, _, _, e, _ => by cases e
  | .bl _ :: _, _, _, e, _ => by cases e
  | .int _ :: _, _, _, e, _ => by cases e
  | .tup _ :: _, _, _, e, _ => by cases e
  | .frz _ :: _, _, _, e, _ => by cases e
  | .loc _ :: _, _, _, e, _ => by cases e
theorem f_all (hc : X.calm = true) : CallS X W (.builtin "all") allF := CallS.of (cr_all hc) fun σ H xs Q β st ds S r p => by
  unfold allF at p
  split at p
  · obtain ⟨v, rfl, h⟩ := r.one
    split at p
    · rename_i bs hb
      obtain ⟨ys, h1, h2⟩ := Option.bind_eq_some_iff.mp hb
      obtain ⟨a, vs, rfl, h3, h4⟩ := items_rel S h h1
      rw [bools_rel h2 h4] at h3
      exact ⟨a, bs, rfl, h3, fin p S (VR.bl.mpr rfl)⟩
    · exact p.elim
  · exact p.elim
theorem f_any (hc : X.calm = true) : CallS X W (.builtin "any") anyF := CallS.of (cr_any hc) fun σ H xs Q β st ds S r p => by
  unfold anyF at p
  split at p
  · obtain ⟨v, rfl, h⟩ := r.one
    split at p
    · rename_i bs hb
      obtain ⟨ys, h1, h2⟩ := Option.bind_eq_some_iff.mp hb
      obtain ⟨a, vs, rfl, h3, h4⟩ := items_rel S h h1
      rw [bools_rel h2 h4] at h3
      exact ⟨a, bs, rfl, h3, fin p S (VR.bl.mpr rfl)⟩
    · exact p.elim
  · exact p.elim
theorem f_sum (hc : X.calm = true) : CallS X W (.builtin "sum") sumF := CallS.of (cr_sum hc) fun σ H xs Q β st ds S r p => by
  unfold sumF at p
  split at p
  · obtain ⟨v, rfl, h⟩ := r.one
    split at p
    · rename_i bs hb
      obtain ⟨ys, h1, h2⟩ := Option.bind_eq_some_iff.mp hb
      obtain ⟨a, vs, rfl, h3, h4⟩ := items_rel S h h1
      rw [ints_rel h2 h4] at h3
      exact ⟨a, bs, rfl, h3, fin p S (VR.int.mpr rfl)⟩
    · exact p.elim
  · exact p.elim

/-! ### methods -/
theorem m_append : MtS3 X W "list.append" appendM := MtS3.of mt_append fun σ H x xs Q β st d ds S rd rs p => by
  unfold appendM at p
  split at p
  · rename_i n y
    obtain ⟨a, h1, rfl⟩ := VR.loc.mp rd
    obtain ⟨v, rfl, h⟩ := rs.one
    obtain ⟨o, h2, h3⟩ := S.at h1
    simp only [h2] at p
    cases o with
    | lst xs =>
      simp only at p
      split at p
      · rename_i hz
        obtain ⟨vs, h4, h5⟩ := h3
        refine ⟨a, vs, v, rfl, rfl, h4, by rw [h5.length, sizeLine_eq]; exact hz, p β _ (S.ext h1) (S.set h1 ⟨_, upd_same, VRs.mono (S.ext h1) _ _ (h5.append (VRs.cons.mpr ⟨v, [], rfl, h, VRs.nil.mpr rfl⟩))⟩) _ (VR.non.mpr rfl)⟩
      · exact p.elim
    | _ => exact p.elim
  · exact p.elim
theorem m_extend : MtS3 X W "list.extend" extendM := MtS3.of mt_extend fun σ H x xs Q β st d ds S rd rs p => by
  unfold extendM at p
  split at p
  · rename_i n m
    obtain ⟨a, h1, rfl⟩ := VR.loc.mp rd
    obtain ⟨v, rfl, h⟩ := rs.one
    obtain ⟨b, g1, rfl⟩ := VR.loc.mp h
    obtain ⟨o, h2, h3⟩ := S.at h1
    obtain ⟨o', g2, g3⟩ := S.at g1
    simp only [h2, g2] at p
    cases o with
    | lst xs =>
      cases o' with
      | lst ys =>
        simp only at p
        split at p
        · rename_i hz
          obtain ⟨vs, h4, h5⟩ := h3
          obtain ⟨us, g4, g5⟩ := g3
          refine ⟨a, b, vs, us, rfl, rfl, h4, g4, by rw [h5.length, g5.length]; exact szl hz, p β _ (S.ext h1) (S.set h1 ⟨_, upd_same, VRs.mono (S.ext h1) _ _ (h5.append g5)⟩) _ (VR.non.mpr rfl)⟩
        · exact p.elim
      | _ => exact p.elim
    | _ => cases o' <;> exact p.elim
  · exact p.elim
theorem VRs.dropLast {K : PySem.W.Frag} {β : List Addr} {H : Hp} {ds : List D} {vs : List V} (h : VRs K β H ds vs) : VRs K β H ds.dropLast vs.dropLast := by
  rw [List.dropLast_eq_take, List.dropLast_eq_take, h.length]
  exact h.take _
theorem m_pop : MtS3 X W "list.pop" popM := MtS3.of mt_pop fun σ H x xs Q β st d ds S rd rs p => by
  unfold popM at p
  split at p
  · rename_i n
    obtain ⟨a, h1, rfl⟩ := VR.loc.mp rd
    cases VRs.nil.mp rs
    obtain ⟨o, h2, h3⟩ := S.at h1
    simp only [h2] at p
    cases o with
    | lst xs =>
      simp only at p
      split at p
      · rename_i y hy
        obtain ⟨vs, h4, h5⟩ := h3
        obtain ⟨w, h6, h7⟩ := h5.getD hy
        exact ⟨a, vs, w, rfl, rfl, h4, by rw [h5.length]; exact h6, p β _ (S.ext h1) (S.set h1 ⟨_, upd_same, VRs.mono (S.ext h1) _ _ h5.dropLast⟩) _ (VR.mono (S.ext h1) _ _ h7)⟩
      · exact p.elim
    | _ => exact p.elim
  · exact p.elim
theorem m_popAt : MtS3 X W "list.pop" popAtM := MtS3.of mt_popAt fun σ H x xs Q β st d ds S rd rs p => by
  unfold popAtM at p
  split at p
  · rename_i n i
    obtain ⟨a, h1, rfl⟩ := VR.loc.mp rd
    obtain ⟨v, rfl, h⟩ := rs.one
    cases VR.int.mp h
    obtain ⟨o, h2, h3⟩ := S.at h1
    simp only [h2] at p
    cases o with
    | lst xs =>
      simp only at p
      split at p
      · rename_i hi
        split at p
        · rename_i k hk
          split at p
          · rename_i y hy
            obtain ⟨vs, h4, h5⟩ := h3
            obtain ⟨w, h6, h7⟩ := h5.getD hy
            exact ⟨a, vs, i, k, w, rfl, rfl, h4, hi.1, hi.2, by rw [h5.length]; exact hk, h6, p β _ (S.ext h1) (S.set h1 ⟨_, upd_same, VRs.mono (S.ext h1) _ _ (h5.eraseIdx k)⟩) _ (VR.mono (S.ext h1) _ _ h7)⟩
          · exact p.elim
        · exact p.elim
      · exact p.elim
    | _ => exact p.elim
  · exact p.elim
theorem m_join : MtS3 X W "str.join" joinM := MtS3.of mt_join fun σ H x xs Q β st d ds S rd rs p => by
  unfold joinM at p
  split at p
  · rename_i a y
    cases VR.str.mp rd
    obtain ⟨v, rfl, h⟩ := rs.one
    split at p
    · rename_i ys hy
      split at p
      · rename_i hz
        obtain ⟨zs, h1, h2⟩ := Option.bind_eq_some_iff.mp hy
        have key : ∃ q vs, v = .ref q ∧ (SqL X.K H q vs ∨ SqT X.K H q vs) ∧ VRs X.K β H zs vs := by
          cases y with
          | tup xs => cases h1; obtain ⟨q, vs, rfl, g1, g2⟩ := VR.tupS h; exact ⟨q, vs, rfl, .inr g1, g2⟩
          | frz xs => obtain ⟨q, vs, rfl, g1, g2⟩ := items_rel S h h1; exact ⟨q, vs, rfl, .inl g1, g2⟩
          | loc xs => obtain ⟨q, vs, rfl, g1, g2⟩ := items_rel S h h1; exact ⟨q, vs, rfl, .inl g1, g2⟩
          | _ => cases h1
        obtain ⟨q, vs, rfl, g1, g2⟩ := key
        rw [strs_rel h2 g2] at g1
        exact ⟨a, q, ys, rfl, rfl, g1, hz, fin p S (VR.str.mpr rfl)⟩
      · exact p.elim
    · exact p.elim
  · exact p.elim
theorem m_upper : MtS3 X W "str.upper" upperM := MtS3.of mt_upper fun σ H x xs Q β st d ds S rd rs p => by
  unfold upperM at p
  split at p
  · cases VR.str.mp rd
    cases VRs.nil.mp rs
    split at p
    · rename_i hz; exact ⟨_, rfl, rfl, hz, fin p S (VR.str.mpr rfl)⟩
    · exact p.elim
  · exact p.elim

/-! ### isinstance(e, a built-in class) -/
def tyN (d : D) (st : Sto) : Option String := match d with
  | .non => some "NoneType"
  | .bl _ => some "bool"
  | .int _ => some "int"
  | .str _ => some "str"
  | .tup _ => some "tuple"
  | .frz _ => some "list"
  | .loc n => match st[n]? with
    | some (.lst _) => some "list"
    | some (.dK _) => some "dict"
    | some (.dT _) => some "dict"
    | _ => none
  | .fdk _ _ => some "dict"
  | _ => none
def isF (T : String) (d : D) (st : Sto) : R D := match (tyN d st).bind fun a => kitB a T with
  | some b => .ok (.bl b) st
  | none => .bad
theorem ty_of {K : PySem.W.Frag} {mg : Str → Option Value} {β : List Addr} {st : Sto} {H : Hp} {d : D} {v : V} {a : String} (S : Sim K mg β st H) (r : VR K β H d v) (h : tyN d st = some a) : TyX K H v (.type a) := by
  cases d with
  | non => cases VR.non.mp r; cases h; exact .base .non
  | bl b => cases VR.bl.mp r; cases h; exact .base (.bl b)
  | int b => cases VR.int.mp r; cases h; exact .base (.int b)
  | str b => cases VR.str.mp r; cases h; exact .base (.str b)
  | cls _ => cases h
  | lam _ _ _ => cases h
  | fn _ _ => cases h
  | fdk _ _ => cases h; obtain ⟨a, o, vs, rfl, h1, _⟩ := VR.fdk.mp r; exact .fDict h1
  | tup xs =>
    cases h
    obtain ⟨q, vs, rfl, h1, h2⟩ := VR.tupS r
    rcases h1 with (h1 | ⟨o, h1⟩) | ⟨o, its, n, h1, h3, _⟩
    · exact .base (.tup h1)
    · exact .fTuple h1
    · exact .kTuple h1 h3
  | frz xs =>
    cases h
    obtain ⟨q, vs, rfl, h1, h2⟩ := VR.frz.mp r
    rcases h1 with ⟨o, h1⟩ | ⟨o, its, n, h1, h3, _⟩
    · exact .base (.frz h1)
    · exact .kList h1 h3
  | loc n =>
    obtain ⟨q, h1, rfl⟩ := VR.loc.mp r
    obtain ⟨o, h2, h3⟩ := S.at h1
    simp only [tyN, h2] at h
    cases o with
    | lst _ => cases h; obtain ⟨vs, h4, _⟩ := h3; exact .base (.lst h4)
    | dK _ => cases h; obtain ⟨vs, h4, _⟩ := h3; exact .base (.dK h4)
    | dT _ => cases h; obtain ⟨vs, h4, _⟩ := h3; exact .base (.dT h4)
    | ins _ _ => cases h
    | tb _ _ => cases h
theorem boot_isi : bootBuiltins "isinstance" = some (.builtin "isinstance") := by decide +kernel
theorem q_isi {a : Expr} {ka : KE} {x : Str} {T : String} {p p2 pos : Pos} (hg : Gl X "isinstance") (hm : X.mg "isinstance" = none) (hg2 : Gl X x) (hm2 : X.mg x = none) (hv2 : bootBuiltins x = some (.type T)) (ha : PE X a (lift X.K X.mg W ka)) (hn2 : x ≠ "__name__" := by decide) (hdb2 : (x == ("__debug__" : Str)) = false := by decide)
    (hs : starEach [a, .Name x p2] X.env = (false, eval a X.env) :: starEach [.Name x p2] X.env := by rfl) (hs2 : starEach [.Name x p2] X.env = (false, eval (.Name x p2) X.env) :: starEach [] X.env := by rfl) (hpl : (backTo pos (starEach [.Name x p2] X.env)).any (·.1) = false := by rfl) :
    PE X (.Call (.Name "isinstance" p) [a, .Name x p2] [] pos) (lift X.K X.mg W (k1 (isF T) ka)) :=
  PE.imp (pe_callB call_isi hg hm boot_isi (pa_cons ha (pa_cons (pe_bltn (v := .ty T) hg2 hm2 hv2 rfl hn2 hdb2) pa_nil hs2) hs) (by decide) (by decide) hs hpl) fun σ H Q ⟨β, ρ, st, S, E, q⟩ => lift.bind S E q fun d v β1 H1 st1 e1 S1 E1 r1 p1 => by
    unfold isF at p1
    split at p1
    · rename_i b hb
      obtain ⟨t, h1, h2⟩ := Option.bind_eq_some_iff.mp hb
      exact ⟨v, .ty T, _, _, b, rfl, .ty T, ty_of S1 r1 h1, kit_ty h2, fin p1 S1 (VR.bl.mpr rfl)⟩
    · exact p1.elim
end
end L3

namespace L3
open PySem PySem.Spec PyProof.Rows L2
section
open HT
variable {prog : Program} {w : World} {A : Around} {E : Value → Shared → Prop} {s : Shared}
theorem adjust_rev (n : Nat) : Builtin.Slice.sliceAdjust none none (-1) (n : Int) = ((n : Int) - 1, -1) := by
  unfold Builtin.Slice.sliceAdjust
  rfl
theorem places_rev (n : Nat) : Builtin.Slice.slicePlaces ((n : Int) - 1) (-1) (-1) = n := by
  unfold Builtin.Slice.slicePlaces
  have h1 : ¬ ((-1 : Int) > 0) := by omega
  simp only [h1, if_false]
  have h2 : -(-1 : Int) = 1 := rfl
  rw [h2, Int.ediv_one]
  split <;> omega
theorem pick_rev (xs : Array Value) : ((List.range xs.size).filterMap fun (m : Nat) => xs[((xs.size : Int) - 1 + (m : Int) * (-1)).toNat]?).toArray = xs.toList.reverse.toArray := by
  congr 1
  apply List.ext_getElem?
  intro i
  have hm : ((List.range xs.size).filterMap fun (m : Nat) => xs[((xs.size : Int) - 1 + (m : Int) * (-1)).toNat]?) = (List.range xs.size).map fun m => xs.getD (xs.size - 1 - m) .none := by
    have : ∀ l : List Nat, (∀ m ∈ l, m < xs.size) → (l.filterMap fun (m : Nat) => xs[((xs.size : Int) - 1 + (m : Int) * (-1)).toNat]?) = l.map fun m => xs.getD (xs.size - 1 - m) .none := by
      intro l
      induction l with
      | nil => intro _; rfl
      | cons a l ih =>
        intro h
        have ha := h a List.mem_cons_self
        have e : ((xs.size : Int) - 1 + (a : Int) * (-1)).toNat = xs.size - 1 - a := by omega
        have hl : xs.size - 1 - a < xs.size := by omega
        rw [List.filterMap_cons, e, Array.getElem?_eq_getElem hl, ih fun m hm => h m (List.mem_cons_of_mem _ hm), List.map_cons]
        congr 1
        simp [Array.getD, hl]
    exact this _ fun m hm => List.mem_range.mp hm
  rw [hm, List.getElem?_map]
  by_cases hi : i < xs.size
  · rw [List.getElem?_range hi, List.getElem?_reverse (by simpa using hi)]
    have hl : xs.size - 1 - i < xs.size := by omega
    simp [Array.getD, hl]
  · rw [List.getElem?_eq_none (by simpa using hi), List.getElem?_eq_none (by simpa using hi)]
    rfl
theorem sliceApplied_rev {sl : Addr} {vk : Value} {n : Nat} {Q : Int × Int × Nat → Shared → Prop} (hs : s.heap.IsSliceOf sl .none .none vk) (pk : IsPart vk (some (-1)))
    (h : Q ((n : Int) - 1, -1, n) s) : wpAny (model prog w) A (Builtin.Slice.sliceApplied (.ref sl) (pure (n : Int))) Q E s := by
  obtain ⟨os, hos, hcs, hds⟩ := id hs
  unfold Builtin.Slice.sliceApplied Builtin.Slice.sliceFields
  refine wpAny_bind (wpAny_bind (wpAny_field hos hds (x := .none) rfl (wpAny_bind (wpAny_field hos hds (x := .none) rfl (wpAny_bind (wpAny_field hos hds (x := vk) rfl (wpAny_pure ?_)))))))
  refine wpAny_bind (slicePart_ pk ?_)
  show wpAny _ _ (if ((-1 : Int) == 0) = true then _ else _) _ _ s
  rw [if_neg (by decide)]
  refine wpAny_bind (slicePart_none (wpAny_bind (slicePart_none (wpAny_bind (wpAny_pure ?_)))))
  show wpAny _ _ (match Builtin.Slice.sliceAdjust none none (-1) (n : Int) with | (lo, hi) => pure (lo, (-1 : Int), Builtin.Slice.slicePlaces lo hi (-1))) _ _ s
  rw [adjust_rev n]
  show wpAny _ _ (pure ((n : Int) - 1, (-1 : Int), Builtin.Slice.slicePlaces ((n : Int) - 1) (-1) (-1))) _ _ s
  rw [places_rev]
  exact wpAny_pure h
theorem getItem_tuple_rev {t sl : Addr} {items : Array Value} {vk : Value} {Q : Value → Shared → Prop} (ht : IsTup s.heap t items) (hs : s.heap.IsSliceOf sl .none .none vk) (pk : IsPart vk (some (-1)))
    (h : Q (.ref s.heap.objs.size) { s with heap := s.heap.push { cls := .type "tuple", data := .seq items.toList.reverse.toArray } })
    (hsz : items.size ≤ sizeLine) : wpAny (model prog w) A (getItem (.ref t) (.ref sl)) Q E s := by
  have htake : sizeOk (.seq items.toList.reverse.toArray) := by
    show items.toList.reverse.toArray.size ≤ sizeLine
    rw [List.size_toArray, List.length_reverse, Array.length_toList]
    exact hsz
  obtain ⟨os, hos, hcs, hds⟩ := id hs
  have hTs : s.TypeIs (.ref sl) "slice" := ⟨os, hos, hcs⟩
  unfold getItem
  try with_reducible refine wpAny_holding ?_
  first | refine wpAny_bind (wpAny_pure ?_) | skip
  refine wpAny_bind (wpAny_sequenceKey ht.typeIs (by decide) ?_)
  refine wpAny_bind (wpAny_callSpecial?_slot (name := Str.ofString "__getitem__") ht.typeIs PyProof.Rows.slot_tuple_getitem
    (wpAny_call_entry PyProof.Rows.slot_tuple_getitem ht.typeIs entry_tuple_getitem ?_ (args_tuple_getitem _ _)))
  show wpAny _ _ (Builtin.Tuple.tupleItemsOf (.ref t) >>= _) _ _ s
  refine wpAny_bind (tupleItemsOf_ ht ?_)
  refine wpAny_bind (wpAny_typeOf hTs ?_)
  rw [if_pos (by decide)]
  refine wpAny_bind (sliceApplied_rev (n := items.size) hs pk ?_)
  have hno : ¬ ((((items.size : Int) - 1) == 0 && (-1 : Int) == 1 && items.size == items.size) = true) := by
    intro q
    rw [Bool.and_eq_true, Bool.and_eq_true] at q
    exact absurd q.1.2 (by decide)
  show wpAny _ _ (if (((items.size : Int) - 1) == 0 && (-1 : Int) == 1 && items.size == items.size) = true then _ else _) _ _ s
  rw [if_neg hno, pick_rev]
  first
    | exact wpAny_bind (m := Builtin.Tuple.tupleExact _) (wpAny_newObj_type (wpAny_pure ⟨_, rfl, wpAny_pure h⟩) htake)
    | exact wpAny_bind (m := Builtin.Tuple.tupleExact _) (wpAny_newObj_type (wpAny_bind (wpAny_pure (wpAny_pure ⟨_, rfl, wpAny_pure h⟩))) htake)
    | exact wpAny_bind (wpAny_bind (m := Builtin.Tuple.tupleExact _) (wpAny_newObj_type (wpAny_pure (wpAny_pure ⟨_, rfl, wpAny_pure h⟩)) htake))
    | exact wpAny_bind (wpAny_bind (m := Builtin.Tuple.tupleExact _) (wpAny_newObj_type (wpAny_pure ⟨_, rfl, wpAny_pure h⟩) htake))
end
/-! ### e[::-1] -/
def revD (d : D) (st : Sto) : R D := match d with
  | .tup xs => .ok (.tup xs.reverse) st
  | .frz xs => .ok (.loc st.length) (st ++ [.lst xs.reverse])
  | .loc n => match st[n]? with
    | some (.lst xs) => .ok (.loc st.length) (st ++ [.lst xs.reverse])
    | _ => .bad
  | _ => .bad
section
variable {X : Cx} {W : WX} {e : Expr} {ka : KE}
theorem q_rev {k : Nat} {c1 c2 c3 pos : Pos} (he : PE X e (lift X.K X.mg W ka)) : PE X (.Subscript e (.Slice none none (some (.UnaryOp .USub (.Constant (.int 1) k c1) c2)) c3) pos) (lift X.K X.mg W (k1 revD ka)) := by
  refine ⟨fun pins s σ H Q I ⟨β, ρ, st, S, E, p⟩ => ?_⟩
  refine Subscript_ (thn (he.run pins s σ H (fun x H1 => ∃ β1 st1 d, Sim X.K X.mg β1 st1 H1 ∧ VR X.K β1 H1 d x ∧ PostA X.K X.mg W σ (okE X.K Q) β1 H1 (revD d st1)) I (lift.bind S E p fun d v β1 H1 st1 e1 S1 E1 r1 p1 => ⟨β1, st1, d, S1, r1, p1⟩)) fun v s1 ⟨x, H1, I1, r1, β1, st1, d, S1, vr, p1⟩ => ?_)
  have hst : PO X (some (.UnaryOp .USub (.Constant (.int 1) k c1) c2)) (tPart (tUn (rU fun i => .int (-i)) (tC (.int 1)))) := po_some (pe_un un_neg pe_int)
  have go : (∀ vl vu vs s4, vl = Value.none → vu = Value.none → IsPart vs (some (-1)) → Inv X pins σ H1 s4 → wpAny (model X.prog X.w) X.A (subscriptTail e (.Slice none none (some (.UnaryOp .USub (.Constant (.int 1) k c1) c2)) c3) v (.ref s4.heap.objs.size)) (EP X pins σ Q) X.xe { s4 with heap := s4.heap.push { cls := .type "slice", data := .fields #[vl, vu, vs] } }) →
      wpAny (model X.prog X.w) X.A (eval (.Slice none none (some (.UnaryOp .USub (.Constant (.int 1) k c1) c2)) c3) X.env) (fun u s' => wpAny (model X.prog X.w) X.A (subscriptTail e (.Slice none none (some (.UnaryOp .USub (.Constant (.int 1) k c1) c2)) c3) v u) (EP X pins σ Q) X.xe s') X.xe s1 := fun hgo => by
    refine wpAny_Slice (thn (po_none.run pins s1 σ H1 (fun o H2 => o = none ∧ H2 = H1) I1 ⟨rfl, rfl⟩) fun vl s2 ⟨l, H2, I2, pl, el, e2⟩ => ?_)
    subst el e2
    refine thn (po_none.run pins s2 σ H2 (fun o H3 => o = none ∧ H3 = H2) I2 ⟨rfl, rfl⟩) fun vu s3 ⟨u, H3, I3, pu, eu, e3⟩ => ?_
    subst eu e3
    refine thn (hst.run pins s3 σ H3 (fun o H4 => o = some (-1) ∧ H4 = H3) I3 ⟨1, rfl, -1, rfl, rfl, rfl⟩) fun vs s4 ⟨o, H4, I4, ps, eo, e4⟩ => ?_
    subst eo e4
    refine hgo vl vu vs s4 ?_ ?_ ps I4
    · cases pl; rfl
    · cases pu; rfl
  refine go fun vl vu vs s4 el eu ps I4 => ?_
  subst el eu
  have I5 : Inv X pins σ H1 { s4 with heap := s4.heap.push { cls := .type "slice", data := .fields #[.none, .none, vs] } } := I4.kept (t' := s4.toks) fun b ob q => Heap.get?_push_of_some _ q
  have lst : ∀ a us ds, v = .ref a → SqL X.K H1 a us → VRs X.K β1 H1 ds us → PostA X.K X.mg W σ (okE X.K Q) β1 H1 (.ok (.loc st1.length) (st1 ++ [.lst ds.reverse])) →
      wpAny (model X.prog X.w) X.A (subscriptTail e (.Slice none none (some (.UnaryOp .USub (.Constant (.int 1) k c1) c2)) c3) v (.ref s4.heap.objs.size)) (EP X pins σ Q) X.xe { s4 with heap := s4.heap.push { cls := .type "slice", data := .fields #[.none, .none, vs] } } := fun a us ds ev hx rs pp => by
    subst ev
    obtain ⟨its, r, ht, hz⟩ := I5.list hx
    have hlen := r.length
    refine tail_any (ops := [.ref a, .ref s4.heap.objs.size]) ht.isList.typeIs (PySem.slot_list_getitem.lookup) ?_ (by with_unfolding_all rfl)
    refine wpAny_getItem_list_slice ht.isList (Heap.IsSliceOf.new _ .none .none vs) .none .none ps (by decide) ?_ (by rw [List.size_toArray]; omega)
    rw [PySem.W.krv_pick]
    have hf := I5.hok.fresh (Nat.le_refl _)
    obtain ⟨x1, x2, x3⟩ := newLst S1 rs.reverse hf
    refine ⟨.ref _, _, I5.laid (t' := s4.toks) (o := .lst us.reverse) (fun b ob q => Heap.get?_push_of_some _ q) (Nat.le_refl _) ?_, rfl, pp _ _ x1 x2 _ x3⟩
    exact ⟨by rw [List.length_reverse]; exact hz, _, 0, r.reverse, Heap.get?_push_size _ rfl⟩
  cases d with
  | tup ds =>
    obtain ⟨a, us, rfl, hx, rs⟩ := VR.tupS vr
    cases r1
    obtain ⟨its, r, ht, hz⟩ := I5.tuple hx
    have hlen := r.length
    refine tail_any (ops := [.ref a, .ref s4.heap.objs.size]) ht.typeIs (PyProof.Rows.slot_tuple_getitem.lookup) ?_ (by with_unfolding_all rfl)
    refine getItem_tuple_rev ht (Heap.IsSliceOf.new _ .none .none vs) ps ?_ (by rw [List.size_toArray]; omega)
    have hf := I5.hok.fresh (Nat.le_refl _)
    refine ⟨.ref _, _, I5.laid (t' := s4.toks) (o := .tup us.reverse) (fun b ob q => Heap.get?_push_of_some _ q) (Nat.le_refl _) ?_, rfl, p1 β1 _ (ext_new0 hf) (S1.new0 hf) _ (VR.tup.mpr ⟨_, _, rfl, upd_same, VRs.mono (ext_new0 hf) _ _ rs.reverse⟩)⟩
    exact ⟨by rw [List.length_reverse]; exact hz, _, r.reverse, ⟨_, Heap.get?_push_size _ rfl, rfl, _, rfl⟩⟩
  | frz ds =>
    obtain ⟨a, us, rfl, hx, rs⟩ := VR.frz.mp vr
    cases r1
    exact lst a us ds rfl hx.sq rs p1
  | loc n =>
    obtain ⟨a, h1, rfl⟩ := VR.loc.mp vr
    cases r1
    obtain ⟨o, h2, h3⟩ := S1.at h1
    unfold revD at p1
    simp only [h2] at p1
    cases o with
    | lst xs => obtain ⟨us, h4, h5⟩ := h3; exact lst a us xs rfl (SqL.of h4) h5 p1
    | _ => exact p1.elim
  | _ => exact p1.elim
end

/-! ### a def by its body -/
def finR (r : RS) : R D := match r with
  | .nx _ st => .ok .non st
  | .rt d st => .ok d st
  | .exn x _ st => .exn x st
  | _ => .bad
/-- the values at the entry: the parameters, then nothing -/
def start3 (n : Nat) (ds : List D) : Env3 := ds.map some ++ List.replicate (n - ds.length) none
def runDef (n np : Nat) (body : KS) : Run := fun ds st => if ds.length = np then finR (body (start3 n ds) st) else .bad
def runBad : Run := fun _ _ => .bad
section
variable {P : Program} {w : World} {K : PySem.W.Frag} {mg : Str → Option Value} {base : Heap}
theorem start_rel {β : List Addr} {H : Hp} {N : List Str} {ds : List D} {vs : List V} (r : VRs K β H ds vs) (n : Nat) (hn : N.length = n) : ER K β H (start3 n ds) (L2.start N vs) := by
  subst hn
  unfold start3 L2.start
  have hl := r.length
  refine ⟨by simp [hl], fun i d h => ?_⟩
  by_cases hi : i < ds.length
  · rw [List.getElem?_append_left (by simpa using hi), List.getElem?_map] at h
    cases hd : ds[i]? with
    | none => rw [hd] at h; cases h
    | some e =>
      rw [hd] at h
      have : e = d := Option.some.inj (Option.some.inj h)
      subst this
      obtain ⟨v, h1, h2⟩ := r.getD hd
      refine ⟨v, ?_, h2⟩
      rw [List.getElem?_append_left (by rw [List.length_map, hl]; exact hi), List.getElem?_map, h1]
      rfl
  · rw [List.getElem?_append_right (by simpa using hi)] at h
    rw [List.getElem?_replicate] at h
    split at h <;> cases h
/-- THE RULE for a def -/
theorem Fun.ok3 {x qual : Str} {st : Stmt} {f : Addr} {fd : FuncData} {N ps : List Str} {k n np : Nat} {body : KS} (F : Fun K x qual st f fd) (S : FnScope N ps (defScope st)) (hn : N.length = n) (hp : ps.length = np)
    (hb : ∀ (cdv : Value) (A : Around) (outer : List Env) (s : Shared) (H : Hp) (E : XK), Room k (A.deeper (envOfC qual (defScope st) s.heap.objs.size f cdv)) →
      PSs (cxOf (L2.CX P w) P w K mg base N qual (defScope st) f cdv A outer s H E) (defBody st) (liftS K mg (fun c d _ H => E c d H) body)) :
    FnOk P w K mg base (L2.CX P w) (k + 1) f fd ps (spOf K mg np (runDef n np body)) := by
  refine F.okX S (fun vs H Q E h => by rw [hp]; exact h.1) fun cdv A outer s H vs Q E hr h => ?_
  refine ⟨_, hb cdv A outer s H E hr, ?_⟩
  obtain ⟨hl, β, sto, ds, Si, r, p⟩ := h
  have hdl : ds.length = np := by rw [← r.length]; exact hl
  unfold runDef at p
  rw [if_pos hdl] at p
  refine ⟨β, start3 n ds, sto, Si, start_rel r n hn, ?_⟩
  cases hbd : body (start3 n ds) sto with
  | nx ρ st' => rw [hbd] at p; exact fun β' H' σ' e S' E' => p β' H' e S' _ (VR.non.mpr rfl)
  | rt d st' => rw [hbd] at p; exact fun β' H' v e S' r' => p β' H' e S' v r'
  | bk ρ st' => rw [hbd] at p; exact p.elim
  | ct ρ st' => rw [hbd] at p; exact p.elim
  | exn x ρ st' => rw [hbd] at p; exact fun β' H' σ' c dd e S' E' xr => p β' H' c dd e S' xr
  | bad => rw [hbd] at p; exact p.elim
/-- with no depth left nothing is promised -/
theorem ok_bad {f : Addr} {fd : FuncData} {ps : List Str} {k np : Nat} (hp : ps.length = np) : FnOk P w K mg base (L2.CX P w) k f fd ps (spOf K mg np runBad) :=
  ⟨fun vs H Q E h => by rw [hp]; exact h.1, fun A outer s H args us vs Q E hr he hb hv h => by obtain ⟨_, _, _, _, _, _, p⟩ := h; exact p.elim⟩
end
/-! ### the law's end -/
def spLaw3 (K : PySem.W.Frag) : Sp := fun vs H Q E => ∃ (a : Addr) (ns : List Int), vs = [.ref a] ∧ SqL K H a (ns.map V.int) ∧ ns.length ≤ 63 ∧ Only H ∧ ∀ H', Q (.bl true) H'
theorem fz_only {K : PySem.W.Frag} {H : Hp} {a : Addr} {xs : List V} (h : SqL K H a xs) (o : Only H) : FzL K H a xs := by
  rcases h with (h | h) | h
  · rcases o a with z | ⟨ob, ys, z⟩
    · rw [h] at z; cases z
    · rw [h] at z; cases z
  · exact .inl h
  · exact .inr h
theorem ints_vrs {K : PySem.W.Frag} {β : List Addr} {H : Hp} : ∀ ns : List Int, VRs K β H (ns.map D.int) (ns.map V.int)
  | [] => VRs.nil.mpr rfl
  | n :: ns => VRs.cons.mpr ⟨_, _, rfl, VR.int.mpr rfl, ints_vrs ns⟩
theorem law_of {P : Program} {w : World} {K : PySem.W.Frag} {mg : Str → Option Value} {base : Heap} {k : Nat} {f : Addr} {fd : FuncData} {ps : List Str} {run : Run} (F : FnOk P w K mg base (L2.CX P w) k f fd ps (spOf K mg 1 run)) (hp : ps.length = 1)
    (hrun : ∀ ns : List Int, ns.length ≤ 63 → ∃ st', run [.frz (ns.map D.int)] [] = .ok (.bl true) st') : FnOk P w K mg base (L2.CX P w) k f fd ps (spLaw3 K) :=
  ⟨fun vs H Q E h => by obtain ⟨a, ns, rfl, _⟩ := h; rw [hp]; rfl, fun A outer s H args us vs Q E hr he hb hv h => F.run A outer s H args us vs Q E hr he hb hv (by
    obtain ⟨a, ns, rfl, hs, hl, ho, q⟩ := h
    obtain ⟨st', hst⟩ := hrun ns hl
    refine ⟨rfl, [], [], [.frz (ns.map D.int)], ⟨rfl, fun m n a h => by simp at h, fun n o a h => by simp at h⟩, VRs.cons.mpr ⟨_, _, rfl, VR.frz.mpr ⟨a, _, rfl, fz_only hs ho, ints_vrs ns⟩, VRs.nil.mpr rfl⟩, ?_⟩
    rw [hst]
    intro β' H' _ _ v r
    rw [VR.bl.mp r]
    exact q H')⟩
theorem cx_end {P : Program} {w : World} (H : Hp) (s : Shared) (e : Value) (s' : Shared) (h : L2.CX P w [] H s (fun _ _ _ => False) e s') : False := by
  obtain ⟨_, _, _, _, _, _, _, _, _, _, _, _, z⟩ := h
  exact z
end L3
namespace L3
open PySem PySem.Spec PyProof.Rows L2
def kD0 : KE := fun _ st => .ok (.loc st.length) (st ++ [.dK []])
theorem q_dict0 {X : Cx} {W : WX} {pos : Pos} : PE X (.Dict [] [] pos) (lift X.K X.mg W kD0) :=
  PE.imp pe_dnewK fun σ H Q ⟨β, ρ, st, S, E, p⟩ => fun q hq => p _ _ (ext_new hq) (S.push hq ⟨[], upd_same, .nil⟩) _ (VR.loc.mpr ⟨q, by rw [← S.len]; simp, rfl⟩)
theorem bt_len : bootBuiltins "len" = some (.builtin "len") := by decide +kernel
theorem bt_abs : bootBuiltins "abs" = some (.builtin "abs") := by decide +kernel
theorem bt_max : bootBuiltins "max" = some (.builtin "max") := by decide +kernel
theorem bt_min : bootBuiltins "min" = some (.builtin "min") := by decide +kernel
theorem bt_repr : bootBuiltins "repr" = some (.builtin "repr") := by decide +kernel
theorem bt_all : bootBuiltins "all" = some (.builtin "all") := by decide +kernel
theorem bt_any : bootBuiltins "any" = some (.builtin "any") := by decide +kernel
theorem bt_sum : bootBuiltins "sum" = some (.builtin "sum") := by decide +kernel
theorem bt_int : bootBuiltins "int" = some (.type "int") := by decide +kernel
theorem bt_bool : bootBuiltins "bool" = some (.type "bool") := by decide +kernel
theorem bt_str : bootBuiltins "str" = some (.type "str") := by decide +kernel
theorem bt_tuple : bootBuiltins "tuple" = some (.type "tuple") := by decide +kernel
theorem bt_list : bootBuiltins "list" = some (.type "list") := by decide +kernel
theorem bt_dict : bootBuiltins "dict" = some (.type "dict") := by decide +kernel
end L3

/-! Classes of the text: fields, making, methods. -/
namespace L3
open PySem PySem.Spec PyProof.Rows L2
/-! ### promises by positional values -/
def spAny (K : PySem.W.Frag) (mg : Str → Option Value) (run : Run) : Sp := fun vs H Q E => ∃ β st ds, Sim K mg β st H ∧ VRs K β H ds vs ∧ PostA K mg (fun c dd _ H' => E c dd H') [] (okE K Q) β H (run ds st)
abbrev Pr3 (P : Program) (w : World) (K : PySem.W.Frag) (mg : Str → Option Value) (base : Heap) (k : Nat) (f : Addr) (run : Run) : Prop := FnR P w K mg base (L2.CX P w) k f (spAny K mg run)
theorem pr_of {P : Program} {w : World} {K : PySem.W.Frag} {mg : Str → Option Value} {base : Heap} {k n : Nat} {f : Addr} {fd : FuncData} {ps : List Str} {run : Run} (F : FnOk P w K mg base (L2.CX P w) k f fd ps (spOf K mg n run)) (hb : Binds K fd ps []) (hn : ∀ ds st, ds.length ≠ n → run ds st = .bad) : Pr3 P w K mg base k f run :=
  (F.raw hb .nil).imp fun vs H Q E ⟨β, st, ds, S, r, p⟩ => by
    rw [List.append_nil]
    by_cases h : ds.length = n
    · exact ⟨by rw [r.length]; exact h, β, st, ds, S, r, p⟩
    · rw [hn ds st h] at p; exact p.elim
theorem runDef_short {n np : Nat} {b : KS} (ds : List D) (st : Sto) (h : ds.length ≠ np) : runDef n np b ds st = .bad := by unfold runDef; rw [if_neg h]
section
variable {X : Cx} {W : WX} {e a b o : Expr} {es rest : List Expr} {pos p apos : Pos} {ka kb ko : KE} {kas : KA} {run : Run} {k : Nat} {f g C : Addr} {c m x : Str}
theorem run3 {pins : List (Addr × Obj)} {σ : L2.St} {H : Hp} {s : Shared} {Q : VK} {us : List Value} {vs : List V} {β : List Addr} {st : Sto} {ds : List D} (F : Pr3 X.prog X.w X.K X.mg X.base k f run) (hr : Room k X.A) (tk : Takes X W) (I : Inv X pins σ H s) (rv : Vals vs us)
    (S : Sim X.K X.mg β st H) (rd : VRs X.K β H ds vs) (hp : PostA X.K X.mg W σ (okE X.K Q) β H (run ds st)) :
    codeAny (model X.prog X.w) X.A (.call (.ref f) ⟨us, []⟩) (fun r s' => match r with | .ok (.ret v) => EP X pins σ Q v s' | .ok _ => False | .error e => X.xe e s') s :=
  codeAny_mono (F X.A X.stack s H us vs Q (fun c d H' => W c d σ H') hr I.env0 rv ⟨β, st, ds, S, rd, PostA.toσ hp⟩) fun
    | .error z, s2, hz => pass3 tk σ pins H s z s2 I hz
    | .ok (.ret u), s2, hz => I.after hz
    | .ok .next, _, hz => False.elim hz
    | .ok .brk, _, hz => False.elim hz
    | .ok .cont, _, hz => False.elim hz

/-! ### fields -/
theorem FR.get {K : PySem.W.Frag} {β : List Addr} {H : Hp} {n : Str} {fs : List (Str × D)} {gs : List (Str × V)} (h : FR K β H fs gs) : match fs.lookup n with
    | some d => ∃ v, gs.lookup n = some v ∧ VR K β H d v
    | none => gs.lookup n = none := by
  induction h with
  | nil => rfl
  | @cons p q l r h1 h2 ih =>
    obtain ⟨n1, d1⟩ := p
    obtain ⟨n2, v2⟩ := q
    obtain ⟨rfl, hv⟩ := h1
    simp only [List.lookup_cons]
    cases hn : n == n1 with
    | true => exact ⟨v2, rfl, hv⟩
    | false => exact ih
def putD (n : Str) (d : D) : List (Str × D) → List (Str × D)
  | [] => [(n, d)]
  | q :: r => if q.1 = n then (q.1, d) :: r else q :: putD n d r
theorem FR.put {K : PySem.W.Frag} {β : List Addr} {H : Hp} {n : Str} {d : D} {v : V} (hv : VR K β H d v) {fs : List (Str × D)} {gs : List (Str × V)} (h : FR K β H fs gs) : FR K β H (putD n d fs) (putF n v gs) := by
  induction h with
  | nil => exact .cons ⟨rfl, hv⟩ .nil
  | @cons p q l r h1 h2 ih =>
    obtain ⟨n1, d1⟩ := p
    obtain ⟨n2, v2⟩ := q
    obtain ⟨rfl, h1⟩ := h1
    unfold putD putF
    by_cases hn : n1 = n
    · rw [if_pos hn, if_pos hn]; exact .cons ⟨rfl, hv⟩ h2
    · rw [if_neg hn, if_neg hn]; exact .cons ⟨rfl, h1⟩ ih
theorem FR.len {K : PySem.W.Frag} {β : List Addr} {H : Hp} {fs : List (Str × D)} {gs : List (Str × V)} (h : FR K β H fs gs) : gs.length = fs.length := by
  induction h with
  | nil => rfl
  | cons _ _ ih => simp [ih]
def fldD (c n : Str) (d : D) (st : Sto) : R D := match d with
  | .loc i => match st[i]? with
    | some (.ins c' fs) => if c' = c then (match fs.lookup n with
      | some v => .ok v st
      | none => .bad) else .bad
    | _ => .bad
  | _ => .bad
def setFD (c n : Str) (d v : D) (st : Sto) : Option Sto := match d with
  | .loc i => match st[i]? with
    | some (.ins c' fs) => if c' = c ∧ fs.length < 1000 then some (st.set i (.ins c (putD n v fs))) else none
    | _ => none
  | _ => none
theorem q_fld {n : Str} (hc : X.mg c = some (.ref C)) (cl : Cls X.K C) (na : NoAttr X.K C n) (ha : PE X a (lift X.K X.mg W ka)) (hb : attributeBase a n X.env (eval a X.env) = eval a X.env := by rfl) : PE X (.Attribute a n pos) (lift X.K X.mg W (k1 (fldD c n) ka)) :=
  PE.imp (pe_fld ha hb) fun σ H Q ⟨β, ρ, st, S, E, p⟩ => lift.bind S E p fun d v β1 H1 st1 e1 S1 E1 r1 p1 => by
    cases d with
    | loc i =>
      obtain ⟨q, h1, rfl⟩ := VR.loc.mp r1
      obtain ⟨u, h2, h3⟩ := S1.at h1
      simp only [fldD, h2] at p1
      cases u with
      | ins c' fs =>
        obtain ⟨C', dx, gs, h4, h5, h6⟩ := h3
        simp only at p1
        split at p1
        · rename_i hcc
          subst hcc
          rw [hc] at h4
          cases h4
          have g := h6.get (n := n)
          split at p1
          · rename_i w hw
            simp only [hw] at g
            obtain ⟨z, g1, g2⟩ := g
            exact ⟨q, C, dx, gs, z, rfl, h5, cl, na, g1, p1 β1 H1 (Ext.refl _ _) S1 z g2⟩
          · exact p1.elim
        · exact p1.elim
      | _ => exact p1.elim
    | _ => exact p1.elim
def sFldSet (c n : Str) (o a : KE) : KS := fun ρ st => (a ρ st).toS ρ fun v st1 => (o ρ st1).toS ρ fun x st2 => match setFD c n x v st2 with
  | some st3 => .nx ρ st3
  | none => .bad
theorem s_fldset {n : Str} {tpos : Pos} (hc : X.mg c = some (.ref C)) (cl : Cls X.K C) (na : NoAttr X.K C n) (ho : PE X o (lift X.K X.mg W ko)) (ha : PE X a (lift X.K X.mg W ka)) (hs : swapsWith a (some (.Attribute o n tpos)) pos.line X.env = pure false := by rfl) :
    PS X (.Assign [.Attribute o n tpos] a pos) (liftS X.K X.mg W (sFldSet c n ko ka)) :=
  PS.imp (ps_fld ho ha hs) fun Dn σ H ⟨β, ρ, st, S, E, p⟩ => lift.toS S E p fun d v β1 H1 st1 e1 S1 E1 r1 p1 => lift.toS S1 E1 p1 fun x y β2 H2 st2 e2 S2 E2 r2 p2 => by
    cases x with
    | loc i =>
      obtain ⟨q, h1, rfl⟩ := VR.loc.mp r2
      obtain ⟨u, h2, h3⟩ := S2.at h1
      simp only [setFD, h2] at p2
      cases u with
      | ins c' fs =>
        obtain ⟨C', dx, gs, h4, h5, h6⟩ := h3
        by_cases hz : c' = c ∧ fs.length < 1000
        · simp only [if_pos hz] at p2
          obtain ⟨hcc, hz⟩ := hz
          subst hcc
          rw [hc] at h4
          cases h4
          have ex := S2.ext (o := .ins C dx (putF n v gs)) h1
          exact ⟨q, C, dx, gs, rfl, h5, cl, na, by rw [h6.len]; exact hz, p2 _ _ _ ex (S2.set h1 ⟨C, dx, putF n v gs, hc, by rw [upd_same], KR.mono0 ex.toExt0 (FR.put (VR.mono e2 _ _ r1) h6)⟩) (E2.mono ex)⟩
        · simp only [if_neg hz] at p2; exact p2.elim
      | _ => exact p2.elim
    | _ => exact p2.elim
end
end L3

/-! Classes of the text: calls. -/
namespace L3
open PySem PySem.Spec PyProof.Rows L2
section
variable {X : Cx} {W : WX} {e a b o : Expr} {es rest : List Expr} {pos p apos np : Pos} {ka kb ko : KE} {kas : KA} {run : Run} {k : Nat} {f g C : Addr} {c m x : Str}
/-- arguments, then -/
theorem args3 {pins : List (Addr × Obj)} {σ : L2.St} {H : Hp} {s : Shared} {β : List Addr} {ρ : Env3} {st : Sto} {Q : VK} {F : List D → Sto → R D} {R : List Value → Shared → Prop} (ha : PA X es (liftA X.K X.mg W kas)) (I : Inv X pins σ H s) (S : Sim X.K X.mg β st H) (E : ER X.K β H ρ σ)
    (hp : PostA X.K X.mg W σ (okE X.K Q) β H ((kas ρ st).bind F))
    (h : ∀ us s1 vs H1 β1 st1 ds, Inv X pins σ H1 s1 → Vals vs us → Ext β H β1 H1 → Sim X.K X.mg β1 st1 H1 → ER X.K β1 H1 ρ σ → VRs X.K β1 H1 ds vs → PostA X.K X.mg W σ (okE X.K Q) β1 H1 (F ds st1) → R us s1) :
    wpAny (model X.prog X.w) X.A (spliced (backTo pos (starEach es X.env))) R X.xe s :=
  thn (ha.run pos pins s σ H (fun vs H1 => ∃ β1 st1 ds, Ext β H β1 H1 ∧ Sim X.K X.mg β1 st1 H1 ∧ ER X.K β1 H1 ρ σ ∧ VRs X.K β1 H1 ds vs ∧ PostA X.K X.mg W σ (okE X.K Q) β1 H1 (F ds st1)) I
    (liftA.bind S E hp fun ds vs β1 H1 st1 e1 S1 E1 r1 p1 => ⟨β1, st1, ds, e1, S1, E1, r1, p1⟩)) fun us s1 ⟨vs, H1, I1, rv, β1, st1, ds, e1, S1, E1, r1, p1⟩ => h us s1 vs H1 β1 st1 ds I1 rv e1 S1 E1 r1 p1
/-- a value, then -/
theorem val3 {pins : List (Addr × Obj)} {σ : L2.St} {H : Hp} {s : Shared} {β : List Addr} {ρ : Env3} {st : Sto} {Q : VK} {F : D → Sto → R D} {R : Value → Shared → Prop} (ha : PE X a (lift X.K X.mg W ka)) (I : Inv X pins σ H s) (S : Sim X.K X.mg β st H) (E : ER X.K β H ρ σ)
    (hp : PostA X.K X.mg W σ (okE X.K Q) β H ((ka ρ st).bind F))
    (h : ∀ u s1 v H1 β1 st1 d, Inv X pins σ H1 s1 → RelV v u → Ext β H β1 H1 → Sim X.K X.mg β1 st1 H1 → ER X.K β1 H1 ρ σ → VR X.K β1 H1 d v → PostA X.K X.mg W σ (okE X.K Q) β1 H1 (F d st1) → R u s1) :
    wpAny (model X.prog X.w) X.A (eval a X.env) R X.xe s :=
  thn (ha.run pins s σ H (fun v H1 => ∃ β1 st1 d, Ext β H β1 H1 ∧ Sim X.K X.mg β1 st1 H1 ∧ ER X.K β1 H1 ρ σ ∧ VR X.K β1 H1 d v ∧ PostA X.K X.mg W σ (okE X.K Q) β1 H1 (F d st1)) I
    (lift.bind S E hp fun d v β1 H1 st1 e1 S1 E1 r1 p1 => ⟨β1, st1, d, e1, S1, E1, r1, p1⟩)) fun u s1 ⟨v, H1, I1, rv, β1, st1, d, e1, S1, E1, r1, p1⟩ => h u s1 v H1 β1 st1 d I1 rv e1 S1 E1 r1 p1

/-! ### a new instance -/
def mkD (c : Str) (run : Run) : Run := fun ds st => (run (.loc st.length :: ds) (st ++ [.ins c []])).bind fun v st2 => match v with
  | .non => .ok (.loc st.length) st2
  | _ => .bad
theorem mk_post {K : PySem.W.Frag} {mg : Str → Option Value} {σ : L2.St} {Q : VK} {β β2 : List Addr} {H H2 : Hp} {st : Sto} {y : Addr} {r : R D} (ex : Ext β H β2 H2) (hy : β2[st.length]? = some y)
    (hp : PostA K mg W σ (okE K Q) β H (r.bind fun v st2 => match v with | .non => .ok (.loc st.length) st2 | _ => .bad)) :
    PostA K mg W σ (okE K fun v H3 => v = .non ∧ Q (.ref y) H3) β2 H2 r := by
  cases r with
  | ok d st2 =>
    cases d with
    | non => exact fun β3 H3 e3 S3 v rv => ⟨VR.non.mp rv, hp β3 H3 (ex.trans e3) S3 (.ref y) (VR.loc.mpr ⟨y, e3.get hy, rfl⟩)⟩
    | _ => exact hp.elim
  | exn z st2 => exact fun β3 H3 c dd e3 S3 xr => hp β3 H3 c dd (ex.trans e3) S3 xr
  | bad => exact hp
theorem run_mk {pins : List (Addr × Obj)} {σ : L2.St} {H : Hp} {s : Shared} {Q : VK} {us : List Value} {vs : List V} {β : List Addr} {st : Sto} {ds : List D} (M : Mk X.K C f) (F : Pr3 X.prog X.w X.K X.mg X.base k f run) (hr : Room (k + 1) X.A) (tk : Takes X W) (hc : X.mg c = some (.ref C)) (I : Inv X pins σ H s) (rv : Vals vs us)
    (S : Sim X.K X.mg β st H) (rd : VRs X.K β H ds vs) (hp : PostA X.K X.mg W σ (okE X.K Q) β H (mkD c run ds st)) : wpAny (model X.prog X.w) X.A (call (.ref C) us) (EP X pins σ Q) X.xe s := by
  have J := Inv.made (C := C) I
  have n1 : H s.heap.objs.size = none := I.hok.fresh (Nat.le_refl _)
  have n2 : H (s.heap.objs.size + 1) = none := I.hok.fresh (Nat.le_succ _)
  have S1 := S.new0 (o := .own (s.heap.objs.size + 1)) n1
  have n3 : (upd H s.heap.objs.size (.own (s.heap.objs.size + 1))) (s.heap.objs.size + 1) = none := by rw [upd_ne (Nat.succ_ne_self _)]; exact n2
  have S2 := S1.push (o := .ins C s.heap.objs.size []) (ob := .ins c []) n3 ⟨C, s.heap.objs.size, [], hc, upd_same, .nil⟩
  have ex := (ext_new0 (o := .own (s.heap.objs.size + 1)) (β := β) n1).trans (ext_new (o := .ins C s.heap.objs.size []) n3)
  have hy : (β ++ [s.heap.objs.size + 1])[st.length]? = some (s.heap.objs.size + 1) := by rw [← S.len]; simp
  have go := F (X.A.under (.builtin "type.__call__" ⟨.ref C :: us, []⟩)) X.stack _ _ (Value.ref (s.heap.objs.size + 1) :: us) (.ref (s.heap.objs.size + 1) :: vs) (fun v H3 => v = .non ∧ Q (.ref (s.heap.objs.size + 1)) H3) (fun c d H' => W c d σ H') (hr.make C us []) (J.env0.make C us []) (.cons rfl rv)
    ⟨_, _, _, S2, VRs.cons.mpr ⟨_, _, rfl, VR.loc.mpr ⟨_, hy, rfl⟩, VRs.mono ex _ _ rd⟩, PostA.toσ (mk_post ex hy hp)⟩
  refine wpAny_call (make_map (f := f) I.kIn M.makes M.init (beq_iff_eq.mp M.fn) (codeAny_mono go fun r s2 z => ?_))
  cases r with
  | error w => exact pass3 tk σ pins _ _ w s2 J z
  | ok fl =>
    cases fl with
    | ret t =>
      obtain ⟨q1, q2, q3, q4, q5, q6⟩ := J.after z
      subst q5
      exact ⟨q4, V.ref (s.heap.objs.size + 1), q2, q3, rfl, q6⟩
    | _ => exact False.elim z
theorem q_make (M : Mk X.K C f) (F : Pr3 X.prog X.w X.K X.mg X.base k f run) (hr : Room (k + 1) X.A) (tk : Takes X W) (hg : Gl X x) (hm : X.mg x = some (.ref C)) (ha : PA X (e :: es) (liftA X.K X.mg W kas)) (hdb : (x == ("__debug__" : Str)) = false := by decide)
    (he : starEach (e :: es) X.env = (false, eval e X.env) :: starEach es X.env := by rfl) (hpl : (backTo pos (starEach es X.env)).any (·.1) = false := by rfl) : PE X (.Call (.Name x p) (e :: es) [] pos) (lift X.K X.mg W (kF (mkD x run) kas)) := by
  constructor
  intro pins s σ H Q I ⟨β, ρ, st, S, E, hp⟩
  exact wpAny_Call_Name_kw (ld_glob I hg hm (PySem.W.callWith_K (h₀ := X.base) I.ok.mod.kin M.kp (args3 ha I S E hp fun us s1 vs H1 β1 st1 ds I1 rv e1 S1 E1 r1 p1 => ⟨I1.kIn, run_mk M F hr tk hm I1 rv S1 r1 p1⟩) he hpl) hdb)
/-- C(e, .., *y) where C is a value -/
def kMkV (C : Addr) (c : Str) (run : Run) (kf : KE) (kas : KA) : KE := fun ρ st => (kf ρ st).bind fun d st1 => match d with
  | .cls q => if q = C then (kas ρ st1).bind (mkD c run) else .bad
  | _ => .bad
theorem q_makeV {fe : Expr} {kf : KE} (M : Mk X.K C f) (F : Pr3 X.prog X.w X.K X.mg X.base k f run) (hr : Room (k + 1) X.A) (tk : Takes X W) (hm : X.mg c = some (.ref C)) (hf : PE X fe (lift X.K X.mg W kf)) (ha : PA X (e :: es) (liftA X.K X.mg W kas))
    (ht : eval (.Call fe (e :: es) [] pos) X.env = (do callWith pos (← eval fe X.env) [] (backTo pos (starEach (e :: es) X.env)) (backToKw pos (keywordEach [] X.env))) := by rfl)
    (he : starEach (e :: es) X.env = (false, eval e X.env) :: starEach es X.env := by rfl) (hst : (backTo pos (starEach es X.env)).any (·.1) = true := by rfl) : PE X (.Call fe (e :: es) [] pos) (lift X.K X.mg W (kMkV C c run kf kas)) := by
  constructor
  intro pins s σ H Q I ⟨β, ρ, st, S, E, hp⟩
  refine Call_ (val3 hf I S E hp fun u s1 v H1 β1 st1 d I1 ru e1 S1 E1 r1 p1 => ?_) ht
  cases d with
  | cls q =>
    cases VR.cls.mp r1
    simp only at p1
    split at p1
    · rename_i hq
      subst hq
      have hu : u = Value.ref q := ru
      subst hu
      exact PySem.W.callWith_S2 (h₀ := X.base) I1.ok.mod.kin M.kp (args3 ha I1 S1 E1 p1 fun us s2 vs H2 β2 st2 ds I2 rv e2 S2 E2 r2 p2 => ⟨I2.kIn, run_mk M F hr tk hm I2 rv S2 r2 p2⟩) he hst
    · exact p1.elim
  | _ => exact p1.elim
/-- *e among arguments -/
def kAS (a : KE) (r : KA) : KA := fun ρ st => (a ρ st).bind fun x st1 => match x with
  | .tup xs => (r ρ st1).bind fun ys st2 => .ok (xs ++ ys) st2
  | .frz xs => (r ρ st1).bind fun ys st2 => .ok (xs ++ ys) st2
  | .loc n => match st1[n]? with
    | some (.lst xs) => (r ρ st1).bind fun ys st2 => .ok (xs ++ ys) st2
    | _ => .bad
  | _ => .bad
theorem q_star (ha : PE X a (lift X.K X.mg W ka)) (hr : PA X es (liftA X.K X.mg W kas)) (hs : starEach (.Starred a p :: es) X.env = (true, eval a X.env) :: starEach es X.env := by rfl) : PA X (.Starred a p :: es) (liftA X.K X.mg W (kAS ka kas)) :=
  PA.imp (StX.pa_star ha hr hs) fun σ H Q ⟨β, ρ, st, S, E, hp⟩ => lift.bind S E hp fun d v β1 H1 st1 e1 S1 E1 r1 p1 => by
    have fin : ∀ {xs : List D} {us : List V}, VRs X.K β1 H1 xs us → PostA X.K X.mg W σ (okA X.K Q) β1 H1 ((kas ρ st1).bind fun ys st2 => .ok (xs ++ ys) st2) → liftA X.K X.mg W kas σ H1 fun ys H2 => Q (us ++ ys) H2 := fun ru pu =>
      liftA.bind S1 E1 pu fun ys ws β2 H2 st2 e2 S2 E2 r2 p2 => p2 β2 H2 (Ext.refl _ _) S2 _ ((VRs.mono e2 _ _ ru).append r2)
    cases d with
    | tup xs =>
      obtain ⟨q, us, rfl, h1, h2⟩ := VR.tupS r1
      exact ⟨q, us, rfl, .inl h1, fin h2 p1⟩
    | frz xs =>
      obtain ⟨q, us, rfl, h1, h2⟩ := VR.frz.mp r1
      exact ⟨q, us, rfl, .inr h1.sq, fin h2 p1⟩
    | loc n =>
      obtain ⟨q, h1, rfl⟩ := VR.loc.mp r1
      obtain ⟨u, h2, h3⟩ := S1.at h1
      simp only [h2] at p1
      cases u with
      | lst xs => obtain ⟨us, h4, h5⟩ := h3; exact ⟨q, us, rfl, .inr (SqL.of h4), fin h5 p1⟩
      | _ => exact p1.elim
    | _ => exact p1.elim

/-! ### methods -/
def insOk (c m : Str) (d : D) (st : Sto) : Bool := match d with
  | .loc n => match st[n]? with
    | some (.ins c' fs) => decide (c' = c) && (fs.lookup m).isNone
    | _ => false
  | _ => false
theorem ins_rel {K : PySem.W.Frag} {mg : Str → Option Value} {β : List Addr} {st : Sto} {H : Hp} {d : D} {v : V} (S : Sim K mg β st H) (r : VR K β H d v) (hc : mg c = some (.ref C)) (h : insOk c m d st = true) : ∃ q dx gs, v = .ref q ∧ H q = some (.ins C dx gs) ∧ gs.lookup m = none := by
  cases d with
  | loc n =>
    obtain ⟨q, h1, rfl⟩ := VR.loc.mp r
    obtain ⟨u, h2, h3⟩ := S.at h1
    simp only [insOk, h2] at h
    cases u with
    | ins c' fs =>
      obtain ⟨C', dx, gs, h4, h5, h6⟩ := h3
      obtain ⟨hcc, hl⟩ := Bool.and_eq_true_iff.mp h
      have hcc := of_decide_eq_true hcc
      subst hcc
      rw [hc] at h4
      cases h4
      have g := h6.get (n := m)
      rw [Option.isNone_iff_eq_none.mp hl] at g
      exact ⟨q, dx, gs, rfl, h5, g⟩
    | _ => cases h
  | _ => cases h
def kMt (c m : Str) (run : Run) (o : KE) (a : KA) : KE := fun ρ st => (o ρ st).bind fun d st1 => if insOk c m d st1 = true then (a ρ st1).bind fun ds st2 => run (d :: ds) st2 else .bad
theorem q_meth {pl : Sem Bool} (tk : Takes X W) (F : Pr3 X.prog X.w X.K X.mg X.base k g run) (hr : Room k X.A) (hc : X.mg c = some (.ref C)) (cl : Cls X.K C) (hm : Meth X.K C m g) (ho : PE X o (lift X.K X.mg W ko)) (ha : PA X (e :: es) (liftA X.K X.mg W kas))
    (he : starEach (e :: es) X.env = (false, eval e X.env) :: starEach es X.env := by rfl) (hpl : (backTo pos (starEach es X.env)).any (·.1) = false := by rfl)
    (ht : eval (.Call (.Attribute o m apos) (e :: es) [] pos) X.env = (do
      let ov ← eval o X.env; standAt apos.atName
      let (f, first) ← holding [ov] (getMethod ov m pl); callWith pos f first (backTo pos (starEach (e :: es) X.env)) (backToKw pos (keywordEach [] X.env))) := by rfl) :
    PE X (.Call (.Attribute o m apos) (e :: es) [] pos) (lift X.K X.mg W (kMt c m run ko kas)) := by
  constructor
  intro pins s σ H Q I ⟨β, ρ, st, S, E, hp⟩
  refine PySem.W.methodCall_KW (pl := pl) (val3 ho I S E hp fun u s1 v H1 β1 st1 d I1 ru e1 S1 E1 r1 p1 => ?_) ht
  split at p1
  · rename_i hi
    obtain ⟨q, dx, gs, rfl, h2, h3⟩ := ins_rel S1 r1 hc hi
    have hu : u = Value.ref q := ru
    subst hu
    refine getmeth_ok I1 h2 cl hm h3 (PySem.W.callWith_K (first := [.ref q]) (h₀ := X.base) I.ok.mod.kin hm.kp (args3 ha I1 S1 E1 p1 fun us s2 vs H2 β2 st2 ds I2 rv e2 S2 E2 r2 p2 => ⟨I2.kIn, ?_⟩) he hpl)
    exact wpAny_call (run3 (vs := V.ref q :: vs) F hr tk I2 (.cons rfl rv) S2 (VRs.cons.mpr ⟨_, _, rfl, VR.mono e2 _ _ r1, r2⟩) p2)
  · exact p1.elim
theorem q_meth0 {pl : Sem Bool} (tk : Takes X W) (F : Pr3 X.prog X.w X.K X.mg X.base k g run) (hr : Room k X.A) (hc : X.mg c = some (.ref C)) (cl : Cls X.K C) (hm : Meth X.K C m g) (ho : PE X o (lift X.K X.mg W ko))
    (ht : eval (.Call (.Attribute o m apos) [] [] pos) X.env = (do
      let ov ← eval o X.env; standAt apos.atName
      let (f, first) ← holding [ov] (getMethod ov m pl); callWith pos f first (backTo pos (starEach [] X.env)) (backToKw pos (keywordEach [] X.env))) := by rfl) :
    PE X (.Call (.Attribute o m apos) [] [] pos) (lift X.K X.mg W (kMt c m run ko kA0)) := by
  constructor
  intro pins s σ H Q I ⟨β, ρ, st, S, E, hp⟩
  refine PySem.W.methodCall_KW (pl := pl) (val3 ho I S E hp fun u s1 v H1 β1 st1 d I1 ru e1 S1 E1 r1 p1 => ?_) ht
  split at p1
  · rename_i hi
    obtain ⟨q, dx, gs, rfl, h2, h3⟩ := ins_rel S1 r1 hc hi
    have hu : u = Value.ref q := ru
    subst hu
    exact getmeth_ok I1 h2 cl hm h3 (PySem.W.callWith_K0 (first := [.ref q]) I1.kIn hm.kp (wpAny_call (run3 (vs := [V.ref q]) F hr tk I1 (.cons rfl .nil) S1 (VRs.cons.mpr ⟨_, _, rfl, r1, VRs.nil.mpr rfl⟩) p1)))
  · exact p1.elim

/-! ### classmethods of a class by its name -/
def kCm (C : Addr) (run : Run) (a : KA) : KE := fun ρ st => (a ρ st).bind fun ds st1 => run (.cls C :: ds) st1
theorem q_cmeth {pl : Sem Bool} {mc : Value} {pd : Addr} (tk : Takes X W) (F : Pr3 X.prog X.w X.K X.mg X.base k g run) (hr : Room k X.A) (hg : Gl X x) (hx : X.mg x = some (.ref C)) (rd : ClX.CRead X.K C mc) (cm : ClX.CMet X.K C mc m pd g) (ha : PA X (e :: es) (liftA X.K X.mg W kas))
    (hdb : (x == ("__debug__" : Str)) = false := by decide) (he : starEach (e :: es) X.env = (false, eval e X.env) :: starEach es X.env := by rfl) (hpl : (backTo pos (starEach es X.env)).any (·.1) = false := by rfl)
    (ht : eval (.Call (.Attribute (.Name x np) m apos) (e :: es) [] pos) X.env = (do
      let ov ← eval (.Name x np) X.env; standAt apos.atName
      let (f, first) ← holding [ov] (getMethod ov m pl); callWith pos f first (backTo pos (starEach (e :: es) X.env)) (backToKw pos (keywordEach [] X.env))) := by rfl) :
    PE X (.Call (.Attribute (.Name x np) m apos) (e :: es) [] pos) (lift X.K X.mg W (kCm C run kas)) := by
  constructor
  intro pins s σ H Q I ⟨β, ρ, st, S, E, hp⟩
  refine PySem.W.methodCall_KW (pl := pl) (ld_glob I hg hx (ClX.getmethcm_ok I rd cm fun s1 I1 => ?_) hdb) ht
  refine ClX.callwith_cm I1 (ClX.base_none I (Nat.le_refl _)) cm.fi (args3 ha I1 S E hp fun us s2 vs H2 β2 st2 ds I2 rv e2 S2 E2 r2 p2 => ⟨⟨ClX.pin_at I2, I2.kIn⟩, ?_⟩) he hpl
  exact thn (wpAny_call (PySem.W.method_call (ClX.pin_at I2) (run3 (vs := V.ref C :: vs) F hr tk I2 (.cons rfl rv) S2 (VRs.cons.mpr ⟨_, _, rfl, VR.cls.mpr rfl, r2⟩) p2))) fun _ _ y => ClX.unpinE y

/-! ### properties -/
def noX (r : R D) : R D := match r with
  | .ok d st => .ok d st
  | _ => .bad
def kPr (c m : Str) (run : Run) (o : KE) : KE := fun ρ st => (o ρ st).bind fun d st1 => match d with
  | .loc n => match st1[n]? with
    | some (.ins c' _) => if c' = c then noX (run [d] st1) else .bad
    | _ => .bad
  | _ => .bad
theorem q_prop {fd : FuncData} {ps : List Str} {pd : Addr} (F : FnOk X.prog X.w X.K X.mg X.base (L2.CX X.prog X.w) k g fd ps (spOf X.K X.mg 1 run)) (hr : Room (k + 1) X.A) (hb : Binds X.K fd ps []) (hc : X.mg c = some (.ref C)) (cl : Cls X.K C) (hp : PropOf X.K C m pd g) (ho : PE X o (lift X.K X.mg W ko))
    (hab : attributeBase o m X.env (eval o X.env) = eval o X.env := by rfl) : PE X (.Attribute o m pos) (lift X.K X.mg W (kPr c m run ko)) :=
  PE.imp (pe_prop (E := fun _ _ _ => False) ho cl hp F hr hb .nil (fun pins σ H s z s2 _ h => by obtain ⟨_, _, _, _, _, _, _, _, _, _, _, _, h⟩ := h; exact False.elim h) hab) fun σ H Q ⟨β, ρ, st, S, E, hp⟩ => lift.bind S E hp fun d v β1 H1 st1 e1 S1 E1 r1 p1 => by
    cases d with
    | loc n =>
      obtain ⟨q, h1, rfl⟩ := VR.loc.mp r1
      obtain ⟨u, h2, h3⟩ := S1.at h1
      simp only [h2] at p1
      cases u with
      | ins c' fs =>
        obtain ⟨C', dx, gs, h4, h5, h6⟩ := h3
        simp only at p1
        split at p1
        · rename_i hcc
          subst hcc
          rw [hc] at h4
          cases h4
          refine ⟨q, dx, gs, rfl, h5, rfl, β1, st1, [.loc n], S1, VRs.cons.mpr ⟨_, _, rfl, r1, VRs.nil.mpr rfl⟩, ?_⟩
          unfold noX at p1
          split at p1
          · rename_i hrun; rw [hrun]; exact p1
          · exact p1.elim
        · exact p1.elim
      | _ => exact p1.elim
    | _ => exact p1.elim
end
/-! ### def f(a, .., *v) -/
def runStar (n np : Nat) (body : KS) : Run := fun ds st => if np ≤ ds.length ∧ ds.length ≤ 16777216 then finR (body (start3 n (ds.take np ++ [.tup (ds.drop np)])) st) else .bad
section
variable {P : Program} {w : World} {K : PySem.W.Frag} {mg : Str → Option Value} {base : Heap}
theorem Fun.star3 {x qual : Str} {st : Stmt} {f : Addr} {fd : FuncData} {N ps : List Str} {pv : Str} {k n np : Nat} {body : KS} (F : Fun K x qual st f fd) (S : FnScope N (ps ++ [pv]) (defScope st)) (hn : N.length = n) (hp : ps.length = np)
    (hbd : ∀ (kV doc pm : Value) (an : Option Addr) (cdv ct : Value) (us rest : List Value), us.length = ps.length → bindArgs (PySem.W.fnOf x qual (defArgs st) (defBody st) (defScope st) .none kV doc pm an cdv ct) ⟨us ++ rest, []⟩ = (newTuple rest >>= fun t => pure (ps.zip us ++ [(pv, t)])))
    (hb : ∀ (cdv : Value) (A : Around) (outer : List Env) (s : Shared) (H : Hp) (E : XK), Room k (A.deeper (envOfC qual (defScope st) s.heap.objs.size f cdv)) →
      PSs (cxOf (L2.CX P w) P w K mg base N qual (defScope st) f cdv A outer s H E) (defBody st) (liftS K mg (fun c d _ H => E c d H) body)) :
    Pr3 P w K mg base (k + 1) f (runStar n np body) := by
  obtain ⟨oc, od, kV, doc, pm, an, cdv, ct, osl, rfl, lk, hcd⟩ := F.ex
  have G := StX.fn_star (CX := L2.CX P w) (P := P) (w := w) (mg := mg) (base := base) (k := k) (N := N) (ps := ps) (pv := pv) (sp := fun vs H Q E => ∃ β sto ds, Sim K mg β sto H ∧ VRs K β H ds vs ∧ ds.length = np + 1 ∧ PostA K mg (fun c dd _ H' => E c dd H') [] (okE K Q) β H (finR (body (start3 n ds) sto)))
    lk hcd S StX.cxUp (fun us rest h => hbd kV doc pm an cdv ct us rest h) fun A outer s H vs Q E hr ⟨β, sto, ds, Si, r, _, p⟩ => ⟨_, hb cdv A outer s H E hr, β, start3 n ds, sto, Si, start_rel r n hn, by
      cases hbd : body (start3 n ds) sto with
      | nx ρ st' => rw [hbd] at p; exact fun β' H' σ' e S' E' => p β' H' e S' _ (VR.non.mpr rfl)
      | rt d st' => rw [hbd] at p; exact fun β' H' v e S' r' => p β' H' e S' v r'
      | bk ρ st' => rw [hbd] at p; exact p.elim
      | ct ρ st' => rw [hbd] at p; exact p.elim
      | exn x ρ st' => rw [hbd] at p; exact fun β' H' σ' c dd e S' E' xr => p β' H' c dd e S' xr
      | bad => rw [hbd] at p; exact p.elim⟩
  refine G.imp fun vs H Q E ⟨β, sto, ds, Si, r, p⟩ => ?_
  unfold runStar at p
  split at p
  · rename_i hl
    have hvl := r.length
    refine ⟨vs.take np, vs.drop np, (List.take_append_drop _ _).symm, by rw [hp, List.length_take]; omega, by rw [List.length_drop, hvl]; exact Nat.le_trans (Nat.sub_le _ _) (szl hl.2), fun q hq => ?_⟩
    have ex := ext_new0 (β := β) (o := .tup (vs.drop np)) hq
    refine ⟨β, sto, _, Si.new0 hq, (VRs.mono ex _ _ (r.take np)).append (VRs.cons.mpr ⟨_, _, rfl, VR.tup.mpr ⟨q, vs.drop np, rfl, upd_same, VRs.mono ex _ _ (r.drop np)⟩, VRs.nil.mpr rfl⟩), by rw [List.length_append, List.length_take]; simp; omega, PostA.mono ex p⟩
  · exact p.elim
end
end L3

/-! Classes of the text: what of it must stand, isinstance, == and != by an own __eq__. -/
namespace L3
open PySem PySem.Spec PyProof.Rows L2
/-! ### what must stand in the written part, as looks -/
open PySem.W in
def clB (K : Frag) (C : Addr) : Bool := plainGet K C Str.empty && (hasDictIn K C && (plainOver K C && decide (findIn K (.ref C) "__setattr__" = some (some (.builtin "object.__setattr__")))))
theorem clB_ok {K : PySem.W.Frag} {C : Addr} (h : clB K C = true) : Cls K C := by
  unfold clB at h
  simp only [Bool.and_eq_true] at h
  exact ⟨h.1, h.2.1, h.2.2.1, of_decide_eq_true h.2.2.2⟩
def naB (K : PySem.W.Frag) (C : Addr) (ns : List Str) : Bool := ns.all fun n => decide (PySem.W.findIn K (.ref C) n = some none)
theorem naB_ok {K : PySem.W.Frag} {C : Addr} {ns : List Str} (h : naB K C ns = true) {n : Str} (hn : n ∈ ns) : NoAttr K C n := of_decide_eq_true (p := PySem.W.findIn K (.ref C) n = some none) (List.all_eq_true.mp h n hn)
def mkB (K : PySem.W.Frag) (C f : Addr) : Bool := PySem.W.makesIn K C && (decide (PySem.W.findIn K (.ref C) "__init__" = some (some (.ref f))) && (PySem.W.isFn K (.ref f) && PySem.W.keepIn K (.ref C)))
theorem mkB_ok {K : PySem.W.Frag} {C f : Addr} (h : mkB K C f = true) : Mk K C f := by
  unfold mkB at h
  simp only [Bool.and_eq_true] at h
  exact ⟨h.1, of_decide_eq_true h.2.1, h.2.2.1, h.2.2.2⟩
def mtB (K : PySem.W.Frag) (C : Addr) (m : Str) (f : Addr) : Bool := decide (PySem.W.findIn K (.ref C) m = some (some (.ref f))) && (PySem.W.isFn K (.ref f) && PySem.W.keepIn K (.ref f))
theorem mtB_ok {K : PySem.W.Frag} {C f : Addr} {m : Str} (h : mtB K C m f = true) : Meth K C m f := by
  unfold mtB at h
  simp only [Bool.and_eq_true] at h
  exact ⟨of_decide_eq_true h.1, h.2.1, h.2.2⟩
open PySem.W in
def prB (K : Frag) (C : Addr) (n : Str) (p g : Addr) : Bool := decide (findIn K (.ref C) n = some (some (.ref p))) && (decide (specialIn K (.ref p) "__get__" = some (some (.builtin "property.__get__"))) && (decide (takesIn K (.ref p) = some true) && match recIn K p "property" with
  | some (.ref g' :: _) => g' == g
  | _ => false))
theorem prB_ok {K : PySem.W.Frag} {C p g : Addr} {n : Str} (h : prB K C n p g = true) : PropOf K C n p g := by
  unfold prB at h
  simp only [Bool.and_eq_true] at h
  obtain ⟨h1, h2, h3, h4⟩ := h
  refine ⟨of_decide_eq_true h1, of_decide_eq_true h2, of_decide_eq_true h3, ?_⟩
  split at h4
  · rename_i rest e; exact ⟨rest, by rw [e, beq_iff_eq.mp h4]⟩
  · cases h4
open PySem.W in
def cmB (K : Frag) (C : Addr) (mc : Value) (m : Str) (p g : Addr) : Bool := readsIn K C mc && (decide (specialIn K (.ref C) "__getattribute__" = some (some (.builtin "type.__getattribute__"))) && ((match findCls K (.ref C) mc m with
  | some (.get (.builtin b) (.ref p') .none (.ref C')) => b == "classmethod.__get__" && (p' == p && C' == C)
  | _ => false) && (fnIn K g && match recIn K p "classmethod" with
  | some (.ref g' :: _) => g' == g
  | _ => false)))
theorem cmB_ok {K : PySem.W.Frag} {C p g : Addr} {mc : Value} {m : Str} (h : cmB K C mc m p g = true) : ClX.CRead K C mc ∧ ClX.CMet K C mc m p g := by
  unfold cmB at h
  simp only [Bool.and_eq_true] at h
  obtain ⟨h1, h2, h3, h4, h5⟩ := h
  refine ⟨⟨h1, of_decide_eq_true h2⟩, ?_, ?_, h4⟩
  · split at h3
    · rename_i e
      simp only [Bool.and_eq_true, beq_iff_eq] at h3
      rw [e, h3.1, h3.2.1, h3.2.2]
    · cases h3
  · split at h5
    · rename_i rest e; exact ⟨rest, by rw [e, beq_iff_eq.mp h5]⟩
    · cases h5
/-! ### isinstance(e, own class) -/
open PySem.W in
def isB (K : Frag) (C : Addr) : Bool := clB K C && (decide (findIn K (.ref C) "__class__" = some (some (.builtin "object.__class__"))) && (decide (specialIn K (.builtin "object.__class__") "__get__" = some (some (.builtin "getset_descriptor.__get__")))
  && (decide (takesIn K (.builtin "object.__class__") = some true) && (decide (mroIn K C (.type "object") = some true) && (decide (kitOne K (.ref C) (.ref C) = some true) && ["NoneType", "bool", "int", "str", "tuple", "list", "dict"].all fun a => decide (kitOne K (.type a) (.ref C) = some false))))))
def isC (c : Str) (d : D) (st : Sto) : R D := match d with
  | .loc n => match st[n]? with
    | some (.ins c' _) => if c' = c then .ok (.bl true) st else .bad
    | some (.tb _ _) => .bad
    | some _ => .ok (.bl false) st
    | none => .bad
  | .cls _ => .bad
  | .lam _ _ _ => .bad
  | .fn _ _ => .bad
  | _ => .ok (.bl false) st
section
variable {X : Cx} {W : WX} {a : Expr} {pos p p2 : Pos} {ka : KE} {C : Addr} {c x : Str}
theorem tyN_in {d : D} {st : Sto} {a : String} (h : tyN d st = some a) : a ∈ ["NoneType", "bool", "int", "str", "tuple", "list", "dict"] := by
  unfold tyN at h
  repeat' split at h
  all_goals first | (cases h; done) | (cases h; decide)
theorem q_isC (hb : isB X.K C = true) (hg : Gl X "isinstance") (hm : X.mg "isinstance" = none) (hg2 : Gl X x) (hm2 : X.mg x = some (.ref C)) (ha : PE X a (lift X.K X.mg W ka)) (hdb2 : (x == ("__debug__" : Str)) = false := by decide)
    (hs : starEach [a, .Name x p2] X.env = (false, eval a X.env) :: starEach [.Name x p2] X.env := by rfl) (hs2 : starEach [.Name x p2] X.env = (false, eval (.Name x p2) X.env) :: starEach [] X.env := by rfl) (hpl : (backTo pos (starEach [.Name x p2] X.env)).any (·.1) = false := by rfl) :
    PE X (.Call (.Name "isinstance" p) [a, .Name x p2] [] pos) (lift X.K X.mg W (k1 (isC x) ka)) := by
  unfold isB at hb
  simp only [Bool.and_eq_true] at hb
  obtain ⟨b1, b2, b3, b4, b5, b6, b7⟩ := hb
  refine PE.imp (pe_callB call_isi hg hm boot_isi (pa_cons ha (pa_cons (pe_glob (v := .ref C) hg2 hm2 rfl hdb2) pa_nil hs2) hs) (by decide) (by decide) hs hpl) fun σ H Q ⟨β, ρ, st, S, E, q⟩ => lift.bind S E q fun d v β1 H1 st1 e1 S1 E1 r1 p1 => ?_
  have no : ∀ {t : String}, tyN d st1 = some t → PostA X.K X.mg W σ (okE X.K Q) β1 H1 (.ok (.bl false) st1) → ∃ (x c : V) (t u : Value) (b : Bool), [v, V.ref C] = [x, c] ∧ ClsV c u ∧ TyX X.K H1 x t ∧ PySem.W.kitOne X.K t u = some b ∧ Q (.bl b) H1 := fun ht pp =>
    ⟨v, .ref C, _, _, false, rfl, .own C, ty_of S1 r1 ht, of_decide_eq_true (List.all_eq_true.mp b7 _ (tyN_in ht)), fin pp S1 (VR.bl.mpr rfl)⟩
  cases d with
  | non => exact no rfl p1
  | bl _ => exact no rfl p1
  | int _ => exact no rfl p1
  | str _ => exact no rfl p1
  | tup _ => exact no rfl p1
  | frz _ => exact no rfl p1
  | cls _ => exact p1.elim
  | lam _ _ _ => exact p1.elim
  | fn _ _ => exact p1.elim
  | fdk _ _ => exact no rfl p1
  | loc n =>
    obtain ⟨q1, h1, rfl⟩ := VR.loc.mp r1
    obtain ⟨o, h2, h3⟩ := S1.at h1
    simp only [isC, h2] at p1
    cases o with
    | lst _ => exact no (t := "list") (by simp only [tyN, h2]) p1
    | dK _ => exact no (t := "dict") (by simp only [tyN, h2]) p1
    | dT _ => exact no (t := "dict") (by simp only [tyN, h2]) p1
    | tb _ _ => exact p1.elim
    | ins c' fs =>
      obtain ⟨C', dx, gs, h4, h5, h6⟩ := h3
      simp only at p1
      split at p1
      · rename_i hcc
        subst hcc
        rw [hm2] at h4
        cases h4
        exact ⟨_, .ref C, _, _, true, rfl, .own C, .base (.ins h5 (clB_ok b1) (of_decide_eq_true b2) (of_decide_eq_true b3) (of_decide_eq_true b4) (of_decide_eq_true b5)), of_decide_eq_true b6, fin p1 S1 (VR.bl.mpr rfl)⟩
      · exact p1.elim
end
/-! ### == and != by an own __eq__ -/
open PySem.W in
def eqB (K : Frag) (C f : Addr) : Bool := decide (findIn K (.ref C) "__eq__" = some (some (.ref f))) && (isFn K (.ref f) && match K.lookup C with
  | some ⟨.type "type", _, .cls cd, sl⟩ => (match cd.mro, sl.toList with
    | [.ref C', .type o], [_, _, _, _, some (.builtin n), _] => (C' == C && o == "object") && (n == "object.__new__" && (!cd.hasDel && (nsOkIn K cd.ns && (decide (nsIn K cd.ns "__eq__" = some (some (.ref f))) && decide (nsIn K cd.ns "__ne__" = some none)))))
    | _, _ => false)
  | _ => false)
theorem nsSome {K : PySem.W.Frag} {h : Heap} {N : Addr} {x : Str} {v : Value} (X : K.In h) (hk : PySem.W.nsOkIn K N = true) (q : PySem.W.nsIn K N x = some (some v)) : h.nsMap N x = some v := by
  obtain ⟨o, es, ep, ho, hd, _, hf⟩ := Heap.Ns.of_isNs (PySem.W.isNs_of_in X hk)
  rw [← hf]
  unfold PySem.W.nsIn at q
  split at q
  · rename_i es' n' sl hl
    have hh := X _ _ hl
    rw [ho] at hh
    cases hh
    cases hd
    split at q
    · rename_i e he
      cases q
      unfold nsFind findBy
      rw [← Array.find?_toList, he]
      rfl
    · split at q <;> cases q
  · cases q
theorem ownEq_of {K : PySem.W.Frag} {h : Heap} {x C f : Addr} {ox : Obj} {od : Option Obj} (X : K.In h) (I : PySem.W.InstAt h x ox C od) (q : eqB K C f = true) : h.OwnEqNoNe x C f "object" [.type "object"] := by
  unfold eqB at q
  simp only [Bool.and_eq_true] at q
  obtain ⟨q1, q2, q3⟩ := q
  split at q3
  · rename_i dd cd sl ho
    split at q3
    · rename_i C' o k0 k1 k2 k3 n k5 hm hs
      simp only [Bool.and_eq_true, beq_iff_eq, Bool.not_eq_true', decide_eq_true_eq] at q3
      obtain ⟨⟨rfl, rfl⟩, rfl, hd, hk, he, hn⟩ := q3
      obtain ⟨nm, bs, mro, ns, qn, hdc, sn, sub, ab, col, del⟩ := cd
      simp only at hm hd hk he hn
      subst hm hd
      obtain ⟨l⟩ := sl
      simp only at hs
      subst hs
      obtain ⟨of_, hof, hcf⟩ : ∃ o, h.get? f = some o ∧ o.cls = .type "function" := by
        obtain ⟨o, e1, e2⟩ := Option.map_eq_some_iff.mp (show (K.lookup f).map (·.cls) = some (.type "function") from beq_iff_eq.mp q2)
        exact ⟨o, X _ _ e1, e2⟩
      exact ⟨ox, of_, nm, qn, ns, bs, hdc, sn, sub, ab, col, dd, k0, k1, k2, k3, k5, "object.__new__", _, some (.builtin "object.__eq__"), I.at_, I.cls, X _ _ ho, .of_isNs (PySem.W.isNs_of_in X hk), nsSome X hk he, hof, hcf, PySem.F.mro_object,
        by rw [typeLookup_type, builtinLookup_eq_fast]; kernel_rfl, PySem.W.nsMap_none_of_in X hk hn⟩
    · cases q3
  · cases q3
def boolR (r : R D) (f : Bool → D) : R D := r.bind fun v st => match v with
  | .bl b => .ok (f b) st
  | _ => .bad
def insOf (c : Str) (d : D) (st : Sto) : Bool := match d with
  | .loc n => match st[n]? with
    | some (.ins c' _) => decide (c' = c)
    | _ => false
  | _ => false
def eqC (c : Str) (run : Run) (x y : D) (st : Sto) : R D := if (insOf c x st && insOf c y st) = true then boolR (run [x, y] st) D.bl else .bad
def neC (c : Str) (run : Run) (x y : D) (st : Sto) : R D := if (insOf c x st && insOf c y st) = true then boolR (run [x, y] st) fun b => .bl (!b) else .bad
section
variable {X : Cx} {W : WX} {C f : Addr} {c : Str} {k : Nat} {run : Run}
theorem insOf_rel {K : PySem.W.Frag} {mg : Str → Option Value} {β : List Addr} {st : Sto} {H : Hp} {d : D} {v : V} (S : Sim K mg β st H) (r : VR K β H d v) (hc : mg c = some (.ref C)) (h : insOf c d st = true) : ∃ q dx gs, v = .ref q ∧ H q = some (.ins C dx gs) := by
  cases d with
  | loc n =>
    obtain ⟨q, h1, rfl⟩ := VR.loc.mp r
    obtain ⟨u, h2, h3⟩ := S.at h1
    simp only [insOf, h2] at h
    cases u with
    | ins c' fs =>
      obtain ⟨C', dx, gs, h4, h5, h6⟩ := h3
      have hcc := of_decide_eq_true h
      subst hcc
      rw [hc] at h4
      cases h4
      exact ⟨q, dx, gs, rfl, h5⟩
    | _ => cases h
  | _ => cases h
theorem runA {A : Around} {pins : List (Addr × Obj)} {σ : L2.St} {H : Hp} {s : Shared} {Q : VK} {us : List Value} {vs : List V} {β : List Addr} {st : Sto} {ds : List D} (F : Pr3 X.prog X.w X.K X.mg X.base k f run) (hr : Room k A) (e0 : Env0 X.prog X.w X.K X.mg X.base A X.stack s H) (tk : Takes X W) (I : Inv X pins σ H s) (rv : Vals vs us)
    (S : Sim X.K X.mg β st H) (rd : VRs X.K β H ds vs) (hp : PostA X.K X.mg W σ (okE X.K Q) β H (run ds st)) :
    codeAny (model X.prog X.w) A (.call (.ref f) ⟨us, []⟩) (fun r s' => match r with | .ok (.ret v) => EP X pins σ Q v s' | .ok _ => False | .error e => X.xe e s') s :=
  codeAny_mono (F A X.stack s H us vs Q (fun c d H' => W c d σ H') hr e0 rv ⟨β, st, ds, S, rd, PostA.toσ hp⟩) fun
    | .error z, s2, hz => pass3 tk σ pins H s z s2 I hz
    | .ok (.ret u), s2, hz => I.after hz
    | .ok .next, _, hz => False.elim hz
    | .ok .brk, _, hz => False.elim hz
    | .ok .cont, _, hz => False.elim hz
theorem bool_post {K : PySem.W.Frag} {mg : Str → Option Value} {σ : L2.St} {Q : VK} {g : Bool → Bool} {β : List Addr} {H : Hp} {r : R D} (hp : PostA K mg W σ (okE K Q) β H (boolR r fun b => .bl (g b))) : PostA K mg W σ (okE K fun v H' => ∃ b, v = .bl b ∧ Q (.bl (g b)) H') β H r := by
  cases r with
  | ok d st2 =>
    cases d with
    | bl b => exact fun β' H' e S v rv => ⟨b, VR.bl.mp rv, hp β' H' e S _ (VR.bl.mpr rfl)⟩
    | _ => exact hp.elim
  | exn z st2 => exact hp
  | bad => exact hp
theorem o_eqC (hb : eqB X.K C f = true) (hr : Room (k + 1) X.A) (tk : Takes X W) (hc : X.mg c = some (.ref C)) (F : Pr3 X.prog X.w X.K X.mg X.base k f run) : OpS X W (compareOp .Eq) (eqC c run) := by
  intro pins s σ H x y v u Q β st dx dy I rx ry S vx vy p
  unfold eqC at p
  split at p
  · rename_i hi
    obtain ⟨i1, i2⟩ := Bool.and_eq_true_iff.mp hi
    obtain ⟨q, dq, gs, rfl, h1⟩ := insOf_rel S vx hc i1
    obtain ⟨t, dt, gt, rfl, h2⟩ := insOf_rel S vy hc i2
    cases (show v = Value.ref q from rx)
    cases (show u = Value.ref t from ry)
    obtain ⟨_, J1, _⟩ := ins_get I.hok h1
    obtain ⟨_, J2, _⟩ := ins_get I.hok h2
    obtain ⟨_, J1, _⟩ := J1.look
    obtain ⟨_, J2, _⟩ := J2.look
    obtain ⟨m, hF⟩ := I.fr
    have hb' := hb
    unfold eqB at hb'
    simp only [Bool.and_eq_true] at hb'
    refine PySem.W.cmp_ofEq (PySem.W.cmp_K (op := .Eq) (tb := .ref C) hr.units0 hF I.ok.mod.kin J1 J2.type (by simp [PySem.W.notFirst]) (of_decide_eq_true hb'.1) hb'.2.1 ?_)
    refine wpAny_mono (wpAny_call (run3 (vs := [V.ref q, V.ref t]) F (hr.mono (Nat.le_succ _)) tk I (.cons rfl (.cons rfl .nil)) S (VRs.cons.mpr ⟨_, _, rfl, vx, VRs.cons.mpr ⟨_, _, rfl, vy, VRs.nil.mpr rfl⟩⟩) (bool_post (g := id) p))) (fun z s2 hz => ?_) fun _ _ hz => hz
    obtain ⟨w, H2, I2, rw', b, rfl, qq⟩ := hz
    cases rw'
    exact ⟨V.bl b, H2, I2, rfl, qq⟩
  · exact p.elim
theorem o_neC (hb : eqB X.K C f = true) (hr : Room (k + 1) X.A) (tk : Takes X W) (hc : X.mg c = some (.ref C)) (F : Pr3 X.prog X.w X.K X.mg X.base k f run) : OpS X W (compareOp .NotEq) (neC c run) := by
  intro pins s σ H x y v u Q β st dx dy I rx ry S vx vy p
  unfold neC at p
  split at p
  · rename_i hi
    obtain ⟨i1, i2⟩ := Bool.and_eq_true_iff.mp hi
    obtain ⟨q, dq, gs, rfl, h1⟩ := insOf_rel S vx hc i1
    obtain ⟨t, dt, gt, rfl, h2⟩ := insOf_rel S vy hc i2
    cases (show v = Value.ref q from rx)
    cases (show u = Value.ref t from ry)
    obtain ⟨_, J1, _⟩ := ins_get I.hok h1
    obtain ⟨_, J2, _⟩ := ins_get I.hok h2
    obtain ⟨_, J1, _⟩ := J1.look
    obtain ⟨_, J2, _⟩ := J2.look
    have go : wpAny (model X.prog X.w) X.A.in1 (call (.ref f) [.ref q, .ref t]) (fun v s2 => ∃ b, v = .bool b ∧ EP X pins σ Q (.bool (!b)) s2) X.xe s := wpAny_mono (wpAny_call (runA (A := X.A.in1) (vs := [V.ref q, V.ref t]) F hr.in1 I.env0.in1 tk I (.cons rfl (.cons rfl .nil)) S (VRs.cons.mpr ⟨_, _, rfl, vx, VRs.cons.mpr ⟨_, _, rfl, vy, VRs.nil.mpr rfl⟩⟩) (bool_post (g := fun b => !b) p))) (fun z s2 hz => by
      obtain ⟨w, H2, I2, rw', b, rfl, qq⟩ := hz
      cases rw'
      exact ⟨b, rfl, V.bl (!b), H2, I2, rfl, qq⟩) fun _ _ hz => hz
    obtain ⟨hh, g, d, t0, os⟩ := s
    exact compareOp_ne_ownEq PySem.F.cmp_object (ownEq_of I.kIn J1 hb) J2.at_ J2.cls (by have := hr.units; omega) go
  · exact p.elim
end
end L3

/-! Dicts whose keys are ints and texts, or tuples of them. -/
namespace L3
open PySem PySem.Spec PyProof.Rows L2
def keyD : D → Option Key
  | .int i => some (.inl i)
  | .str x => some (.inr x)
  | _ => none
def keysD : List D → Option (List Key)
  | [] => some []
  | d :: r => (keyD d).bind fun k => (keysD r).bind fun l => some (k :: l)
section
variable {κ : Type} [DecidableEq κ]
def valK (kvs : List (κ × D)) (k : κ) : Option D := (kvs.find? fun p => decide (p.1 = k)).map (·.2)
def hasK (kvs : List (κ × D)) (k : κ) : Bool := kvs.any fun p => decide (p.1 = k)
def putKD (kvs : List (κ × D)) (k : κ) (d : D) : List (κ × D) := if hasK kvs k = true then kvs.map (fun p => if p.1 = k then (p.1, d) else p) else kvs ++ [(k, d)]
end
section
variable {K : PySem.W.Frag} {mg : Str → Option Value} {β : List Addr} {H : Hp} {st : Sto}
theorem keyD_rel {d : D} {v : V} {k : Key} (h : keyD d = some k) (r : VR K β H d v) : v = kV k := by
  cases d with
  | int i => cases h; exact VR.int.mp r
  | str i => cases h; exact VR.str.mp r
  | _ => cases h
theorem keysD_rel : ∀ {ds : List D} {vs : List V} {ks : List Key}, keysD ds = some ks → VRs K β H ds vs → vs = ks.map kV
  | [], vs, ks, h, r => by cases h; rw [VRs.nil.mp r]; rfl
  | d :: ds, vs, ks, h, r => by
    obtain ⟨v, us, rfl, r1, r2⟩ := VRs.cons.mp r
    obtain ⟨k, hk, h⟩ := Option.bind_eq_some_iff.mp h
    obtain ⟨l, hl, h⟩ := Option.bind_eq_some_iff.mp h
    cases h
    rw [keyD_rel hk r1, keysD_rel hl r2]
    rfl
def OptR (K : PySem.W.Frag) (β : List Addr) (H : Hp) : Option D → Option V → Prop
  | some z, ov => ∃ u, ov = some u ∧ VR K β H z u
  | none, ov => ov = none
theorem KR.val {κ : Type} [DecidableEq κ] {kvs : List (κ × D)} {ws : List (κ × V)} {k : κ} (h : KR K β H kvs ws) : OptR K β H (valK kvs k) (valV ws k) := by
  unfold valK valV
  induction h with
  | nil => rfl
  | @cons p q l r h1 h2 ih =>
    obtain ⟨n1, d1⟩ := p
    obtain ⟨n2, v2⟩ := q
    obtain ⟨rfl, hv⟩ := h1
    simp only [List.find?_cons]
    cases hn : decide (n1 = k) with
    | true => exact ⟨v2, rfl, hv⟩
    | false => exact ih
theorem KR.has {κ : Type} [DecidableEq κ] {kvs : List (κ × D)} {ws : List (κ × V)} {k : κ} (h : KR K β H kvs ws) : (ws.any fun p => decide (p.1 = k)) = hasK kvs k := by
  unfold hasK
  induction h with
  | nil => rfl
  | @cons p q l r h1 h2 ih => rw [List.any_cons, List.any_cons, ih, h1.1]
theorem KR.putK {κ : Type} [dq : DecidableEq κ] {kvs : List (κ × D)} {ws : List (κ × V)} {k : κ} {d : D} {v : V} (h : KR K β H kvs ws) (hv : VR K β H d v) : KR K β H (putKD kvs k d) (L2.putK ws k v) := by
  unfold putKD L2.putK
  rw [h.has]
  cases hasK kvs k with
  | true =>
    simp only [if_true]
    induction h with
    | nil => exact .nil
    | @cons p q l r h1 h2 ih =>
      obtain ⟨n1, d1⟩ := p
      obtain ⟨n2, v2⟩ := q
      obtain ⟨rfl, h1⟩ := h1
      simp only [List.map_cons]
      by_cases hn : n1 = k
      · simp only [if_pos hn]; exact .cons ⟨rfl, hv⟩ ih
      · simp only [if_neg hn]; exact .cons ⟨rfl, h1⟩ ih
  | false => exact Paired.snoc h ⟨rfl, hv⟩
/-- what a dict holds at a key; none: no dict, no key -/
def dGet (d y : D) (st : Sto) : Option (Option D) := match d with
  | .loc n => match st[n]? with
    | some (.dK kvs) => (keyD y).map fun k => valK kvs k
    | some (.dT kvs) => match y with
      | .tup ds => (keysD ds).map fun ks => valK kvs ks
      | _ => none
    | _ => none
  | _ => none
theorem dGet_rel {d y : D} {v w : V} {o : Option D} (S : Sim K mg β st H) (rd : VR K β H d v) (ry : VR K β H y w) (h : dGet d y st = some o) : ∃ a ov, v = .ref a ∧ DGet H a w ov ∧ OptR K β H o ov := by
  cases d with
  | loc n =>
    obtain ⟨a, h1, rfl⟩ := VR.loc.mp rd
    obtain ⟨o', h2, h3⟩ := S.at h1
    simp only [dGet, h2] at h
    cases o' with
    | dK kvs =>
      obtain ⟨ks, h4, h5⟩ := h3
      obtain ⟨k, hk, rfl⟩ := Option.map_eq_some_iff.mp h
      have hw := keyD_rel hk ry
      subst hw
      exact ⟨a, valV ks k, rfl, DGet.k h4, h5.val⟩
    | dT kvs =>
      obtain ⟨ks, h4, h5⟩ := h3
      cases y with
      | tup ds =>
        obtain ⟨k, hk, rfl⟩ := Option.map_eq_some_iff.mp h
        obtain ⟨b, vs, rfl, h6, h7⟩ := VR.tup.mp ry
        rw [keysD_rel hk h7] at h6
        exact ⟨a, valV ks k, rfl, DGet.t h4 h6, h5.val⟩
      | _ => cases h
    | _ => cases h
  | _ => cases h
end
def inX (neg : Bool) (x y : D) (st : Sto) : R D := match dGet y x st with
  | some o => .ok (.bl (neg != o.isSome)) st
  | none => inD neg x y st
def ixX (x y : D) (st : Sto) : R D := match dGet x y st with
  | some (some d) => .ok d st
  | some none => .bad
  | none => ixD x y st
/-- d[k] = v, or a list's place -/
def setX (o i v : D) (st : Sto) : Option Sto := match o with
  | .loc n => match st[n]? with
    | some (.dK kvs) => match keyD i with
      | some k => if kvs.length < 16777216 then some (st.set n (.dK (putKD kvs k v))) else none
      | none => none
    | some (.dT kvs) => match i with
      | .tup ds => match keysD ds with
        | some ks => if kvs.length < 16777216 then some (st.set n (.dT (putKD kvs ks v))) else none
        | none => none
      | _ => none
    | _ => setL o i v st
  | _ => none
def lenX (ds : List D) (st : Sto) : R D := match ds with
  | [.loc n] => match st[n]? with
    | some (.dK kvs) => .ok (.int kvs.length) st
    | some (.dT kvs) => .ok (.int kvs.length) st
    | _ => lenF ds st
  | _ => lenF ds st
def kDT0 : KE := fun _ st => .ok (.loc st.length) (st ++ [.dT []])
section
variable {X : Cx} {W : WX} {pos : Pos}
theorem q_dictT : PE X (.Dict [] [] pos) (lift X.K X.mg W kDT0) :=
  PE.imp pe_dnewT fun σ H Q ⟨β, ρ, st, S, E, p⟩ => fun q hq => p _ _ (ext_new hq) (S.push hq ⟨[], upd_same, .nil⟩) _ (VR.loc.mpr ⟨q, by rw [← S.len]; simp, rfl⟩)
theorem opt_some {K : PySem.W.Frag} {β : List Addr} {H : Hp} {o : Option D} {ov : Option V} (h : OptR K β H o ov) : ov.isSome = o.isSome := by
  cases o with
  | some z => obtain ⟨u, rfl, _⟩ := h; rfl
  | none => rw [show ov = none from h]; rfl
theorem o_inX (hu : X.A.units + 65 < cLine) : OpS X W (compareOp .In) (inX false) := fun pins s σ H x y v u Q β st dx dy I rx ry S vx vy p => by
  unfold inX at p
  split at p
  · rename_i o ho
    obtain ⟨a, ov, rfl, g, hz⟩ := dGet_rel S vy vx ho
    cases (show u = Value.ref a from ry)
    exact d_in (by omega) I g rx fun s2 I2 => ⟨.bl o.isSome, H, I2, by rw [opt_some hz]; exact rfl, by have := fin p S (VR.bl.mpr rfl); simpa using this⟩
  · exact o_in hu pins s σ H x y v u Q β st dx dy I rx ry S vx vy p
theorem o_notInX (hu : X.A.units + 65 < cLine) : OpS X W (compareOp .NotIn) (inX true) := fun pins s σ H x y v u Q β st dx dy I rx ry S vx vy p => by
  unfold inX at p
  split at p
  · rename_i o ho
    obtain ⟨a, ov, rfl, g, hz⟩ := dGet_rel S vy vx ho
    cases (show u = Value.ref a from ry)
    exact d_notIn (by omega) I g rx fun s2 I2 => ⟨.bl (!o.isSome), H, I2, by rw [opt_some hz]; exact rfl, by have := fin p S (VR.bl.mpr rfl); simpa using this⟩
  · exact o_notIn hu pins s σ H x y v u Q β st dx dy I rx ry S vx vy p
theorem ix_dct (hu : X.A.units + 1 < cLine) : IxR X (fun x y H Q => ∃ a v, x = V.ref a ∧ DGet H a y (some v) ∧ Q v H) := by
  intro value slice pins s σ H x y v u Q I rx ry ⟨a, w, ex, g, q⟩ hs
  subst ex
  cases (show v = Value.ref a from rx)
  have hT := dict_typeIs I g
  unfold subscriptTail
  refine wpAny_bind ?_
  rw [getitemInPython_of_ne hT.not_modules]
  refine wpAny_bind (wpAny_specialOf hT PySem.F.slot_dict_getitem.lookup ?_)
  have go : wpAny (model X.prog X.w) X.A (subscripted slice false (.ref a) u) (fun z s3 => wpAny (model X.prog X.w) X.A (letTemporaryGo value (.ref a) z >>= fun _ => pure z) (EP X pins σ Q) X.xe s3) X.xe s := by
    rw [hs]
    exact wpAny_operating (wpAny_mono (d_getItem hu I g ry fun z s2 I2 rz => (⟨w, H, I2, rz, q⟩ : EP X pins σ Q z s2)) (fun z s3 h3 => wpAny_bind (wpAny_letTemporaryGo (wpAny_pure h3))) fun _ _ h3 => h3)
  first
    | exact wpAny_pure (wpAny_bind go)
    | exact wpAny_bind (wpAny_pure (wpAny_bind go))
    | exact wpAny_bind go
theorem x_ixX (hu : X.A.units + 1 < cLine) : IxS X W ixX := fun value slice pins s σ H x y v u Q β st dx dy I rx ry S vx vy p hs => by
  unfold ixX at p
  split at p
  · rename_i d ho
    obtain ⟨a, ov, rfl, g, z, rfl, rz⟩ := dGet_rel S vx vy ho
    exact ix_dct hu value slice pins s σ H _ y v u Q I rx ry ⟨a, z, rfl, g, fin p S rz⟩ hs
  · exact p.elim
  · exact x_ix value slice pins s σ H x y v u Q β st dx dy I rx ry S vx vy p hs
theorem c_lenX : CallS X W (.builtin "len") lenX := fun pins s σ H xs us Q β st ds I r S rd p => by
  unfold lenX at p
  split at p
  · rename_i n
    obtain ⟨v, rfl, r1⟩ := rd.one
    obtain ⟨a, h1, rfl⟩ := VR.loc.mp r1
    obtain ⟨o, h2, h3⟩ := S.at h1
    simp only [h2] at p
    cases o with
    | dK kvs =>
      obtain ⟨ks, h4, h5⟩ := h3
      obtain ⟨u, rfl, ru⟩ := vals1 r
      cases (show u = Value.ref a from ru)
      exact d_len I (.inl h4) fun t s2 I2 => ⟨.int ks.length, H, I2, ⟨t, rfl⟩, fin p S (VR.int.mpr (by rw [h5.length]))⟩
    | dT kvs =>
      obtain ⟨ks, h4, h5⟩ := h3
      exact call_len_dT pins s σ H _ us Q I r ⟨a, ks, rfl, h4, fin p S (VR.int.mpr (by rw [h5.length]))⟩
    | lst _ => exact f_len pins s σ H _ us Q β st _ I r S rd p
    | ins _ _ => exact f_len pins s σ H _ us Q β st _ I r S rd p
    | tb _ _ => exact f_len pins s σ H _ us Q β st _ I r S rd p
  · exact f_len pins s σ H _ us Q β st _ I r S rd p
def rSetX : TSet := fun o i v H Q => rSetD o i v H Q ∨ rSetL o i v H Q
theorem set_any (hu : X.A.units + 1 < cLine) : PSet X rSetX := by
  intro pins s σ H o i v ov iv u Q I ro ri rv h
  rcases h with h | h
  · exact set_dict hu pins s σ H o i v ov iv u Q I ro ri rv h
  · exact set_list pins s σ H o i v ov iv u Q I ro ri rv h
theorem setX_ok : SetS X rSetX setX := by
  intro H o i v β st dx di dv st' Q S r1 r2 r3 h k
  unfold setX at h
  cases dx with
  | loc n =>
    obtain ⟨a, h1, rfl⟩ := VR.loc.mp r1
    obtain ⟨u, h2, h3⟩ := S.at h1
    simp only [h2] at h
    cases u with
    | dK kvs =>
      obtain ⟨ks, h4, h5⟩ := h3
      simp only at h
      split at h
      · rename_i key hk
        split at h
        · rename_i hz
          cases h
          rw [keyD_rel hk r2]
          have ex := S.ext (o := .dK (L2.putK ks key v)) h1
          exact .inl ⟨a, _, rfl, DPut.k h4 (by rw [← h5.length]; have := sizeLine_eq; omega), k _ ex (S.set h1 ⟨_, upd_same, (KR.putK h5 r3).mono0 ex.toExt0⟩)⟩
        · cases h
      · cases h
    | dT kvs =>
      obtain ⟨ks, h4, h5⟩ := h3
      cases di with
      | tup ds =>
        simp only at h
        split at h
        · rename_i key hk
          split at h
          · rename_i hz
            cases h
            obtain ⟨b, vs, rfl, h6, h7⟩ := VR.tup.mp r2
            rw [keysD_rel hk h7] at h6
            have ex := S.ext (o := .dT (L2.putK ks key v)) h1
            exact .inl ⟨a, _, rfl, DPut.t h4 h6 (by rw [← h5.length]; have := sizeLine_eq; omega), k _ ex (S.set h1 ⟨_, upd_same, (KR.putK h5 r3).mono0 ex.toExt0⟩)⟩
          · cases h
        · cases h
      | _ => cases h
    | lst _ => exact .inr (setL_ok H _ i v β st _ di dv st' Q S r1 r2 r3 h k)
    | ins _ _ => exact .inr (setL_ok H _ i v β st _ di dv st' Q S r1 r2 r3 h k)
    | tb _ _ => exact .inr (setL_ok H _ i v β st _ di dv st' Q S r1 r2 r3 h k)
  | _ => cases h
end
end L3

/-! Lists of tuples of ints and texts, sorted. -/
namespace L3
open PySem PySem.Spec PyProof.Rows L2
/-! ### the order of keys -/
def ltKey : Key → Key → Bool
  | .inl i, .inl j => decide (i < j)
  | .inl _, .inr _ => true
  | .inr _, .inl _ => false
  | .inr x, .inr y => decide (x.cps.toList < y.cps.toList)
def lexK : List Key → List Key → Bool
  | [], [] => false
  | [], _ :: _ => true
  | _ :: _, [] => false
  | a :: as, b :: bs => if a = b then lexK as bs else ltKey a b
theorem ltKey_irr (a : Key) : ltKey a a = false := by
  cases a with
  | inl i => simp [ltKey]
  | inr x => simp [ltKey, List.lt_irrefl]
theorem str_ext {x y : Str} (h : x.cps.toList = y.cps.toList) : x = y := by
  obtain ⟨⟨a⟩⟩ := x
  obtain ⟨⟨b⟩⟩ := y
  simp only at h
  subst h
  rfl
theorem ltKey_tr {a b c : Key} (h1 : ltKey a b = true) (h2 : ltKey b c = true) : ltKey a c = true := by
  cases a <;> cases b <;> cases c <;> simp only [ltKey, decide_eq_true_eq, Bool.false_eq_true] at h1 h2 ⊢
  · omega
  · exact List.lt_trans h1 h2
theorem ltKey_tri {a b : Key} (h : a ≠ b) : ltKey a b = true ∨ ltKey b a = true := by
  cases a with
  | inl i => cases b with
    | inl j =>
      simp only [ltKey, decide_eq_true_eq]
      have : i ≠ j := fun e => h (by rw [e])
      omega
    | inr y => exact .inl rfl
  | inr x => cases b with
    | inl j => exact .inr rfl
    | inr y =>
      simp only [ltKey, decide_eq_true_eq]
      have hne : x.cps.toList ≠ y.cps.toList := fun e => h (by rw [str_ext e])
      rcases Std.lt_trichotomy x.cps.toList y.cps.toList with q | q | q
      · exact .inl q
      · exact absurd q hne
      · exact .inr q
theorem lexK_irr : ∀ a : List Key, lexK a a = false
  | [] => rfl
  | a :: as => by unfold lexK; rw [if_pos rfl]; exact lexK_irr as
theorem lexK_tr : ∀ {a b c : List Key}, lexK a b = true → lexK b c = true → lexK a c = true
  | [], [], _, h, _ => by cases h
  | _ :: _, [], _, h, _ => by cases h
  | [], _ :: _, [], _, h => by cases h
  | [], _ :: _, _ :: _, _, _ => rfl
  | _ :: _, _ :: _, [], _, h => by cases h
  | a :: as, b :: bs, c :: cs, h1, h2 => by
    unfold lexK at h1 h2 ⊢
    by_cases e1 : a = b
    · subst e1
      rw [if_pos rfl] at h1
      by_cases e2 : a = c
      · rw [if_pos e2] at h2 ⊢; exact lexK_tr h1 h2
      · rw [if_neg e2] at h2 ⊢; exact h2
    · rw [if_neg e1] at h1
      by_cases e2 : b = c
      · subst e2; rw [if_neg e1]; exact h1
      · rw [if_neg e2] at h2
        have h3 := ltKey_tr h1 h2
        have e3 : a ≠ c := fun e => by subst e; rw [ltKey_irr] at h3; cases h3
        rw [if_neg e3]; exact h3
theorem lexK_tri : ∀ {a b : List Key}, a ≠ b → lexK a b = true ∨ lexK b a = true
  | [], [], h => absurd rfl h
  | [], _ :: _, _ => .inl rfl
  | _ :: _, [], _ => .inr rfl
  | a :: as, b :: bs, h => by
    unfold lexK
    by_cases e : a = b
    · subst e
      rw [if_pos rfl, if_pos rfl]
      exact lexK_tri fun e => h (by rw [e])
    · rw [if_neg e, if_neg (Ne.symm e)]
      exact ltKey_tri e
theorem swo_row {α : Type} (k : α → List Key) : SrtO.Swo fun x y : α => lexK (k x) (k y) := by
  refine ⟨fun x y h => ?_, fun x y z h1 h2 => ?_⟩
  · cases h2 : lexK (k y) (k x) with
    | false => rfl
    | true => have := lexK_tr h h2; rw [lexK_irr] at this; cases this
  · cases h3 : lexK (k z) (k x) with
    | false => rfl
    | true =>
      by_cases e : k x = k y
      · rw [e, h2] at h3; cases h3
      · rcases lexK_tri e with q | q
        · rw [lexK_tr h3 q] at h2; cases h2
        · rw [h1] at q; cases q
/-- the same kinds at the same places -/
def sameK : List Key → List Key → Bool
  | [], [] => true
  | .inl _ :: as, .inl _ :: bs => sameK as bs
  | .inr _ :: as, .inr _ :: bs => sameK as bs
  | _, _ => false
def RowAt (h : Heap) (v : Value) (ks : List Key) : Prop := ∃ a o its n, v = .ref a ∧ h.get? a = some o ∧ o.cls = .type "tuple" ∧ o.data = .seq its n ∧ Vals (ks.map kV) its.toList
theorem RowAt.keeps {h h' : Heap} {v : Value} {ks : List Key} (p : RowAt h v ks) (k : ∀ b o, h.get? b = some o → o.cls = .type "tuple" → h'.get? b = some o) : RowAt h' v ks := by
  obtain ⟨a, o, its, n, e, ho, hc, hd, hv⟩ := p
  exact ⟨a, o, its, n, e, k a o ho hc, hc, hd, hv⟩
section
variable {prog : Program} {w : World} {A : Around} {E : Value → Shared → Prop} {s : Shared} {Q : Bool → Shared → Prop}
theorem lt1_int (c : Bool) {p q : Int} {t u : Tok} (h : Q (decide (p < q)) s) : wpAny (model prog w) A (oneLt' c (.int p t) (.int q u)) Q E s := by
  cases c with
  | true => exact oneLt_int h
  | false => exact PySem.W.kat_one _ _ (PyProof.Rows.lt_int (Q := PySem.W.BoolBack Q) h)
theorem lt1_str (c : Bool) {p q : Str} {t u : Tok} (h : Q (decide (p.cps.toList < q.cps.toList)) s) : wpAny (model prog w) A (oneLt' c (.str p t) (.str q u)) Q E s := by
  cases c with
  | true => exact oneLt_str h
  | false => exact PySem.W.kat_one _ _ (PyProof.Rows.lt_str (Q := PySem.W.BoolBack Q) h)
theorem vals_cons {x : V} {xs : List V} {us : List Value} (h : Vals (x :: xs) us) : ∃ u r, us = u :: r ∧ RelV x u ∧ Vals xs r := by
  cases h with
  | cons a b => exact ⟨_, _, rfl, a, b⟩
theorem lex_rows : ∀ (ks js : List Key) (us ws : List Value) (i : Nat), Vals (ks.map kV) us → Vals (js.map kV) ws → sameK ks js = true → Q (lexK ks js) s → PySem.W.KatLex prog w A true false Q (us.zip ws) i s
  | [], [], us, ws, i, r, q, _, h => by
    cases r
    cases q
    exact PySem.W.kat_nil h
  | .inl x :: ks, .inl y :: js, us, ws, i, r, q, hs, h => by
    rw [List.map_cons] at r q
    obtain ⟨v, us, rfl, r1, r2⟩ := vals_cons r
    obtain ⟨z, ws, rfl, q1, q2⟩ := vals_cons q
    obtain ⟨t, rfl⟩ := (show ∃ t, v = Value.int x t from r1)
    obtain ⟨u, rfl⟩ := (show ∃ t, z = Value.int y t from q1)
    rw [List.zip_cons_cons]
    refine PySem.W.kat_cons (SeqAt.EqAt.int_int x t y u prog w _ _ (PySem.W.kat_go (fun e => ?_) fun e => ?_))
    · have e : x = y := by simpa using e
      subst e
      refine PySem.W.kat_yes (lex_rows ks js _ _ (i + 1) r2 q2 hs ?_)
      unfold lexK at h
      rwa [if_pos rfl] at h
    · have e : x ≠ y := by simpa using e
      refine PySem.W.kat_no (lt1_int _ ?_)
      unfold lexK at h
      rwa [if_neg (fun z => e (Sum.inl.inj z))] at h
  | .inr x :: ks, .inr y :: js, us, ws, i, r, q, hs, h => by
    rw [List.map_cons] at r q
    obtain ⟨v, us, rfl, r1, r2⟩ := vals_cons r
    obtain ⟨z, ws, rfl, q1, q2⟩ := vals_cons q
    obtain ⟨t, rfl⟩ := (show ∃ t, v = Value.str x t from r1)
    obtain ⟨u, rfl⟩ := (show ∃ t, z = Value.str y t from q1)
    rw [List.zip_cons_cons]
    refine PySem.W.kat_cons (SeqAt.EqAt.str_str x t y u prog w _ _ (PySem.W.kat_go (fun e => ?_) fun e => ?_))
    · have e : x = y := by simpa using e
      subst e
      refine PySem.W.kat_yes (lex_rows ks js _ _ (i + 1) r2 q2 hs ?_)
      unfold lexK at h
      rwa [if_pos rfl] at h
    · have e : x ≠ y := by simpa using e
      refine PySem.W.kat_no (lt1_str _ ?_)
      unfold lexK at h
      rwa [if_neg (fun z => e (Sum.inr.inj z))] at h
  | [], _ :: _, _, _, _, _, _, hs, _ => by cases hs
  | .inl _ :: _, [], _, _, _, _, _, hs, _ => by cases hs
  | .inr _ :: _, [], _, _, _, _, _, hs, _ => by cases hs
  | .inl _ :: _, .inr _ :: _, _, _, _, _, _, hs, _ => by cases hs
  | .inr _ :: _, .inl _ :: _, _, _, _, _, _, hs, _ => by cases hs
theorem same_len : ∀ {a b : List Key}, sameK a b = true → a.length = b.length
  | [], [], _ => rfl
  | .inl _ :: as, .inl _ :: bs, h => by rw [List.length_cons, List.length_cons, same_len (a := as) (b := bs) h]
  | .inr _ :: as, .inr _ :: bs, h => by rw [List.length_cons, List.length_cons, same_len (a := as) (b := bs) h]
  | [], _ :: _, h => by cases h
  | .inl _ :: _, [], h => by cases h
  | .inr _ :: _, [], h => by cases h
  | .inl _ :: _, .inr _ :: _, h => by cases h
  | .inr _ :: _, .inl _ :: _, h => by cases h
theorem row_cmp {vs : List Value} {k : Value → List Key} (hp : ∀ v ∈ vs, RowAt s.heap v (k v)) (hs : ∀ v ∈ vs, ∀ u ∈ vs, sameK (k v) (k u) = true) : SrtO.Cmp prog w A s (tuples' true) (fun p => p.1 ∈ vs) (SrtO.lt2 fun v u => lexK (k v) (k u)) := by
  intro p q hm hm'
  obtain ⟨a, o, its, n, e, ho, hc, hd, hv⟩ := hp _ hm
  obtain ⟨a', o', its', n', e', ho', hc', hd', hv'⟩ := hp _ hm'
  have hsm := hs _ hm _ hm'
  show wpAny (model prog w) A (keyLt' (tuples' true) p.1 q.1) (fun r s' => s' = s ∧ r = lexK (k p.1) (k q.1)) (fun _ _ => False) s
  have hl : its.size = its'.size := by
    have h1 := hv.length
    have h2 := hv'.length
    have h3 := same_len hsm
    simp only [List.length_map, Array.length_toList] at h1 h2
    omega
  rw [e, e']
  refine PySem.W.kat_lt ho hd ho' hd' ?_
  rw [decide_eq_false (p := its.size < its'.size) (by omega), ← e, ← e']
  exact lex_rows _ _ _ _ 0 hv hv' hsm ⟨rfl, rfl⟩
end
end L3

/-! sorted(..) of a list or a tuple of such tuples. -/
namespace L3
open PySem PySem.Spec PyProof.Rows L2
section
open PyProof.Rows Srt SrtO in
theorem sorted_seq {prog : Program} {w : World} {A : Around} {E : Value → Shared → Prop} {s : Shared} {l : Addr} {T : String} {o : Obj} {n : Nat} {vs : List Value} {ltv : Value → Value → Bool} {Q : Value → Shared → Prop} (hT : T = "list" ∨ T = "tuple") (ho : s.heap.get? l = some o) (hc : o.cls = .type T) (hd : o.data = .seq vs.toArray n)
    (O : SrtO.Swo ltv) (hz : vs.length ≤ sizeLine)
    (hS : 2 ≤ vs.length → ∀ (h1 : Heap) (a : Addr), h1.get? a = some (seqObj "list" vs.toArray 0) → (∀ b x, s.heap.get? b = some x → b ≠ a ∧ h1.get? b = some x) → SrtO.SortableO prog w A.in1.in1 { s with heap := h1 } a vs ltv)
    (h : ∀ (h1 h' : Heap) (d : Addr) (out : List Value), SrtO.Srtd ltv out → SrtO.Stb ltv out vs → (∀ b x, s.heap.get? b = some x → h1.get? b = some x) → (∀ b x, h1.get? b = some x → h'.get? b = some x) → h1.objs.size ≤ d → (∃ n, h'.get? d = some (seqObj "list" out.toArray n)) → Q (.ref d) { s with heap := h' }) :
    wpAny (model prog w) A (call (.builtin "sorted") [.ref l]) Q E s := by
  refine Calls.call_function_entry kind_sorted plain_sorted entry_sorted (args_sorted1 _) ?_
  unfold Builtin.«sorted»
  refine wpAny_bind (m := checkCount "sorted" 1 1 _) (wpAny_pure (wpAny_bind (wpAny_collect_seq l hT ho hc hd (fun h1 hk => ?_) (by rw [List.size_toArray]; exact hz))))
  have el : vs.toArray.toList = vs := by simp
  rw [el]
  refine wpAny_bind (wpAny_newList ?_ hz)
  have hoL : (h1.push (seqObj "list" vs.toArray 0)).get? h1.objs.size = some (seqObj "list" vs.toArray 0) := Heap.get?_push_size _ rfl
  have keep1 : ∀ b x, h1.get? b = some x → b ≠ h1.objs.size ∧ (h1.push (seqObj "list" vs.toArray 0)).get? b = some x := fun b x q =>
    ⟨Nat.ne_of_lt (Heap.lt_size q), Heap.get?_push_of_some _ q⟩
  refine wpAny_bind (wpAny_holding (wpAny_call_entry slot_list_sort ⟨_, hoL, rfl⟩ entry_list_sort (list_sort_ord O hoL hz (fun h2 => hS h2 _ _ hoL fun b x q => keep1 b x (hk b x q)) fun out hs hb => ⟨_, rfl, ?_⟩) (args_list_sort _)))
  refine wpAny_pure ⟨_, rfl, h h1 _ _ out hs hb hk (fun b x q => ?_) (Nat.le_refl _) (sortedHeap_at hoL)⟩
  rw [sortedHeap_old (keep1 b x q).1 (Heap.lt_size (keep1 b x q).2)]
  exact (keep1 b x q).2
end

/-! ### as a rule -/
theorem keys_inj : ∀ {ks js : List Key} {us : List Value}, Vals (ks.map kV) us → Vals (js.map kV) us → ks = js
  | [], [], _, _, _ => rfl
  | [], _ :: _, us, h, g => by cases h; cases g
  | _ :: _, [], us, h, g => by cases g; cases h
  | k :: ks, j :: js, us, h, g => by
    rw [List.map_cons] at h g
    obtain ⟨u, r, rfl, h1, h2⟩ := vals_cons h
    obtain ⟨u', r', e, g1, g2⟩ := vals_cons g
    cases e
    rw [keys_inj h2 g2]
    cases k with
    | inl i =>
      obtain ⟨t, rfl⟩ := (show ∃ t, u = Value.int i t from h1)
      cases j with
      | inl j => obtain ⟨t', e⟩ := (show ∃ t', Value.int i t = Value.int j t' from g1); cases e; rfl
      | inr j => obtain ⟨t', e⟩ := (show ∃ t', Value.int i t = Value.str j t' from g1); cases e
    | inr i =>
      obtain ⟨t, rfl⟩ := (show ∃ t, u = Value.str i t from h1)
      cases j with
      | inl j => obtain ⟨t', e⟩ := (show ∃ t', Value.str i t = Value.int j t' from g1); cases e
      | inr j => obtain ⟨t', e⟩ := (show ∃ t', Value.str i t = Value.str j t' from g1); cases e; rfl
theorem row_uniq {h : Heap} {v : Value} {ks js : List Key} (p : RowAt h v ks) (q : RowAt h v js) : ks = js := by
  obtain ⟨a, o, its, n, rfl, h1, _, h2, h3⟩ := p
  obtain ⟨a', o', its', n', e, g1, _, g2, g3⟩ := q
  cases e
  rw [h1] at g1
  cases g1
  rw [h2] at g2
  cases g2
  exact keys_inj h3 g3
theorem firsts3 {h : Heap} {k : Value → List Key} : ∀ {vs : List Value}, (∀ v ∈ vs, RowAt h v (k v) ∧ k v ≠ []) → ∃ fs : List Value, PySem.W.KatTups h vs fs ∧ fs.length = vs.length ∧ ∀ f ∈ fs, ∃ v ∈ vs, ∃ key rest, k v = key :: rest ∧ RelV (kV key) f
  | [], _ => ⟨[], PySem.W.KatTups.nil, rfl, fun f hm => nomatch hm⟩
  | v :: vs, hp => by
    obtain ⟨fs, h1, h2, h3⟩ := firsts3 (vs := vs) fun u hu => hp u (List.mem_cons_of_mem _ hu)
    obtain ⟨⟨a, o, its, n, e, ho, hc, hd, hv⟩, hne⟩ := hp v List.mem_cons_self
    obtain ⟨key, rest, hk⟩ := List.exists_cons_of_ne_nil hne
    rw [hk, List.map_cons] at hv
    obtain ⟨f, r, hl, r1, r2⟩ := vals_cons hv
    have h0 : its[0]? = some f := by rw [← Array.getElem?_toList, hl]; rfl
    subst e
    refine ⟨f :: fs, PySem.W.KatTups.cons ho hc hd h0 h1, by simp [h2], fun g hg => ?_⟩
    rcases List.mem_cons.mp hg with rfl | hg
    · exact ⟨_, List.mem_cons_self, key, rest, hk, r1⟩
    · obtain ⟨u, hu, q⟩ := h3 g hg
      exact ⟨u, List.mem_cons_of_mem _ hu, q⟩
theorem row_sortable {prog : Program} {w : World} {A : Around} {s : Shared} {a : Addr} {vs : List Value} {k : Value → List Key} (h0 : 0 < vs.length) (hp : ∀ v ∈ vs, RowAt s.heap v (k v) ∧ k v ≠ []) (hs : ∀ v ∈ vs, ∀ u ∈ vs, sameK (k v) (k u) = true) (ha : ∀ o, s.heap.get? a = some o → o.cls ≠ .type "tuple") :
    SrtO.SortableO prog w A s a vs fun v u => lexK (k v) (k u) := by
  intro h' keep
  have hp' : ∀ v ∈ vs, RowAt h' v (k v) ∧ k v ≠ [] := fun v hm => ⟨(hp v hm).1.keeps fun b o e c => keep b o (fun z => by subst z; exact ha o e c) e, (hp v hm).2⟩
  obtain ⟨fs, h1, h2, h3⟩ := firsts3 hp'
  obtain ⟨v0, hv0⟩ : ∃ v, v ∈ vs := ⟨vs[0], List.getElem_mem h0⟩
  obtain ⟨key0, rest0, hk0⟩ := List.exists_cons_of_ne_nil (hp v0 hv0).2
  refine ⟨tuples' true, fun Q E hq => ?_, row_cmp (fun v hm => (hp' v hm).1) hs⟩
  cases key0 with
  | inl i0 =>
    refine PySem.W.kat_kind (T := .type "int") h1 (by omega) (fun f hm => ?_) (by rfl) ?_
    · obtain ⟨v, hv, key, rest, hk, r⟩ := h3 f hm
      have hsm := hs v0 hv0 v hv
      rw [hk0, hk] at hsm
      cases key with
      | inl i => obtain ⟨t, rfl⟩ := (show ∃ t, f = Value.int i t from r); exact PySem.W.Looks.now
      | inr i => cases hsm
    · rw [show (Value.type "int" != Value.type "tuple") = true by first | decide +kernel | rfl]
      exact hq
  | inr i0 =>
    refine PySem.W.kat_kind (T := .type "str") h1 (by omega) (fun f hm => ?_) (by rfl) ?_
    · obtain ⟨v, hv, key, rest, hk, r⟩ := h3 f hm
      have hsm := hs v0 hv0 v hv
      rw [hk0, hk] at hsm
      cases key with
      | inl i => cases hsm
      | inr i => obtain ⟨t, rfl⟩ := (show ∃ t, f = Value.str i t from r); exact PySem.W.Looks.now
    · rw [show (Value.type "str" != Value.type "tuple") = true by first | decide +kernel | rfl]
      exact hq
def keyOf (d : D) : List Key := match d with
  | .tup xs => (keysD xs).getD []
  | _ => []
def rowOk (d : D) : Bool := match d with
  | .tup xs => (keysD xs).isSome && !xs.isEmpty
  | _ => false
def leRow (a b : D) : Bool := !lexK (keyOf b) (keyOf a)
def sortD (xs : List D) : List D := xs.mergeSort leRow
def sortRows (xs : List D) (st : Sto) : R D := if (xs.all rowOk && (xs.all fun x => xs.all fun y => sameK (keyOf x) (keyOf y))) = true then .ok (.loc st.length) (st ++ [.lst (sortD xs)]) else .bad
def sortF (ds : List D) (st : Sto) : R D := match ds with
  | [.tup xs] => sortRows xs st
  | [.frz xs] => sortRows xs st
  | [.loc n] => match st[n]? with
    | some (.lst xs) => sortRows xs st
    | _ => .bad
  | _ => .bad
theorem leRow_tr (a b c : D) (h1 : leRow a b = true) (h2 : leRow b c = true) : leRow a c = true := by
  have O := swo_row (α := D) keyOf
  unfold leRow at h1 h2 ⊢
  rw [Bool.not_eq_true'] at h1 h2 ⊢
  exact O.tr a b c h1 h2
theorem leRow_tot (a b : D) : (leRow a b || leRow b a) = true := by
  have O := swo_row (α := D) keyOf
  unfold leRow
  cases h : lexK (keyOf b) (keyOf a) with
  | false => rfl
  | true => rw [show lexK (keyOf a) (keyOf b) = false from O.asym b a h]; rfl
theorem keysD_inj : ∀ {xs ys : List D} {ks : List Key}, keysD xs = some ks → keysD ys = some ks → xs = ys
  | [], [], _, _, _ => rfl
  | [], y :: ys, ks, h, g => by
    cases h
    obtain ⟨k, hk, g⟩ := Option.bind_eq_some_iff.mp g
    obtain ⟨l, hl, g⟩ := Option.bind_eq_some_iff.mp g
    cases g
  | x :: xs, [], ks, h, g => by
    cases g
    obtain ⟨k, hk, h⟩ := Option.bind_eq_some_iff.mp h
    obtain ⟨l, hl, h⟩ := Option.bind_eq_some_iff.mp h
    cases h
  | x :: xs, y :: ys, ks, h, g => by
    obtain ⟨k, hk, h⟩ := Option.bind_eq_some_iff.mp h
    obtain ⟨l, hl, h⟩ := Option.bind_eq_some_iff.mp h
    cases h
    obtain ⟨k', hk', g⟩ := Option.bind_eq_some_iff.mp g
    obtain ⟨l', hl', g⟩ := Option.bind_eq_some_iff.mp g
    cases g
    rw [keysD_inj hl hl']
    congr 1
    cases x <;> cases y <;> first | (cases hk; cases hk'; rfl) | (cases hk; done) | (cases hk'; done) | (cases hk; cases hk')
theorem row_keys {d : D} (h : rowOk d = true) : ∃ xs ks, d = .tup xs ∧ keysD xs = some ks ∧ keyOf d = ks ∧ ks ≠ [] := by
  cases d with
  | tup xs =>
    obtain ⟨h1, h2⟩ := Bool.and_eq_true_iff.mp h
    obtain ⟨ks, hk⟩ := Option.isSome_iff_exists.mp h1
    refine ⟨xs, ks, rfl, hk, by simp only [keyOf, hk, Option.getD_some], fun e => ?_⟩
    subst e
    cases xs with
    | nil => simp at h2
    | cons x xs =>
      obtain ⟨k, _, h⟩ := Option.bind_eq_some_iff.mp hk
      obtain ⟨l, _, h⟩ := Option.bind_eq_some_iff.mp h
      cases h
  | _ => cases h
theorem row_eq {a b : D} (ha : rowOk a = true) (hb : rowOk b = true) (h1 : leRow a b = true) (h2 : leRow b a = true) : a = b := by
  obtain ⟨xs, ks, rfl, e1, e2, _⟩ := row_keys ha
  obtain ⟨ys, js, rfl, g1, g2, _⟩ := row_keys hb
  unfold leRow at h1 h2
  rw [e2, g2, Bool.not_eq_true'] at h1 h2
  by_cases e : ks = js
  · subst e; rw [keysD_inj e1 g1]
  · rcases lexK_tri e with q | q
    · rw [q] at h2; cases h2
    · rw [q] at h1; cases h1
theorem perm_pair {α γ : Type} {F : α → γ → Prop} {us out : List γ} (h : out.Perm us) : ∀ {xs : List α}, Paired F xs us → ∃ ys, ys.Perm xs ∧ Paired F ys out := by
  induction h with
  | nil => intro xs p; cases p; exact ⟨[], .nil, .nil⟩
  | cons u _ ih =>
    intro xs p
    cases p with
    | cons a p => obtain ⟨ys, q1, q2⟩ := ih p; exact ⟨_ :: ys, q1.cons _, .cons a q2⟩
  | swap u v l =>
    intro xs p
    cases p with
    | @cons a1 _ as _ a p => cases p with
      | @cons b1 _ bs _ b p => exact ⟨b1 :: a1 :: bs, List.Perm.swap _ _ _, .cons b (.cons a p)⟩
  | trans _ _ ih1 ih2 =>
    intro xs p
    obtain ⟨ys, q1, q2⟩ := ih2 p
    obtain ⟨zs, q3, q4⟩ := ih1 q2
    exact ⟨zs, q3.trans q1, q4⟩
theorem paired_mem {α γ : Type} {F : α → γ → Prop} {xs : List α} {us : List γ} (p : Paired F xs us) : (∀ u ∈ us, ∃ x ∈ xs, F x u) ∧ ∀ x ∈ xs, ∃ u ∈ us, F x u := by
  induction p with
  | nil => exact ⟨fun u h => (by cases h), fun u h => (by cases h)⟩
  | cons a p ih =>
    refine ⟨fun u h => ?_, fun u h => ?_⟩
    · rcases List.mem_cons.mp h with rfl | h
      · exact ⟨_, List.mem_cons_self, a⟩
      · obtain ⟨x, hx, q⟩ := ih.1 u h; exact ⟨x, List.mem_cons_of_mem _ hx, q⟩
    · rcases List.mem_cons.mp h with rfl | h
      · exact ⟨_, List.mem_cons_self, a⟩
      · obtain ⟨x, hx, q⟩ := ih.2 u h; exact ⟨x, List.mem_cons_of_mem _ hx, q⟩
theorem paired_pw {α γ : Type} {F : α → γ → Prop} {R : γ → γ → Prop} {R' : α → α → Prop} (hR : ∀ x y u v, F x u → F y v → R u v → R' x y) {xs : List α} {us : List γ} (p : Paired F xs us) (h : us.Pairwise R) : xs.Pairwise R' := by
  induction p with
  | nil => exact .nil
  | @cons x u xs us a p ih =>
    cases h with
    | cons h1 h2 =>
      refine .cons (fun y hy => ?_) (ih h2)
      obtain ⟨v, hv, q⟩ := (paired_mem p).2 y hy
      exact hR x y u v a q (h1 v hv)
theorem pair3 {K : PySem.W.Frag} {β : List Addr} {H : Hp} : ∀ {xs : List D} {vs : List V} {us : List Value}, VRs K β H xs vs → Vals vs us → Paired (fun d u => ∃ v, VR K β H d v ∧ RelV v u) xs us
  | [], vs, us, r, q => by rw [VRs.nil.mp r] at q; cases q; exact .nil
  | d :: ds, vs, us, r, q => by
    obtain ⟨v, r', rfl, h1, h2⟩ := VRs.cons.mp r
    obtain ⟨u, us, rfl, q1, q2⟩ := vals_cons q
    exact .cons ⟨v, h1, q1⟩ (pair3 h2 q2)
section
variable {X : Cx} {W : WX}
theorem sort_one {pins : List (Addr × Obj)} {s : Shared} {σ : L2.St} {H : Hp} {Q : VK} {β : List Addr} {st : Sto} {xs : List D} {vs : List V} {us : List Value} {a : Addr} {T : String} {o : Obj} {n : Nat} (I : Inv X pins σ H s) (S : Sim X.K X.mg β st H) (hT : T = "list" ∨ T = "tuple") (ho : s.heap.get? a = some o) (hc : o.cls = .type T) (hd : o.data = .seq us.toArray n)
    (rv : Vals vs us) (rd : VRs X.K β H xs vs) (hz : us.length ≤ sizeLine) (p : PostA X.K X.mg W σ (okE X.K Q) β H (sortRows xs st)) : wpAny (model X.prog X.w) X.A (call (.builtin "sorted") [.ref a]) (EP X pins σ Q) X.xe s := by
  unfold sortRows at p
  split at p
  · rename_i hb
    obtain ⟨hb1, hb2⟩ := Bool.and_eq_true_iff.mp hb
    have P := pair3 rd rv
    obtain ⟨k, hk⟩ : ∃ k : Value → List Key, ∀ u ks, RowAt s.heap u ks → k u = ks := by
      classical
      refine ⟨fun u => if h : ∃ ks, RowAt s.heap u ks then h.choose else [], fun u ks h => ?_⟩
      simp only
      rw [dif_pos ⟨ks, h⟩]
      exact row_uniq (Exists.choose_spec (⟨ks, h⟩ : ∃ ks, RowAt s.heap u ks)) h
    have row : ∀ d u, d ∈ xs → (∃ v, VR X.K β H d v ∧ RelV v u) → RowAt s.heap u (keyOf d) ∧ keyOf d ≠ [] ∧ ∃ t, u = Value.ref t := fun d u hdm ⟨v, r1, r2⟩ => by
      obtain ⟨ds, ks, rfl, e1, e2, e3⟩ := row_keys (List.all_eq_true.mp hb1 d hdm)
      obtain ⟨t, ws, rfl, h1, h2⟩ := VR.tup.mp r1
      have hu : u = Value.ref t := r2
      subst hu
      rw [e2]
      refine ⟨?_, e3, t, rfl⟩
      rw [keysD_rel e1 h2] at h1
      obtain ⟨_, its, r, x, g1, g2, m, g3⟩ := (show ObjOk X.prog X.w H s.heap t (.tup (ks.map kV)) from I.hok t _ h1)
      exact ⟨t, x, its.toArray, m, rfl, g1, g2, g3, by simpa using r⟩
    have rk : ∀ u ∈ us, ∃ d ∈ xs, (∃ v, VR X.K β H d v ∧ RelV v u) ∧ k u = keyOf d ∧ RowAt s.heap u (k u) ∧ k u ≠ [] := fun u hu => by
      obtain ⟨d, hdm, q⟩ := (paired_mem P).1 u hu
      obtain ⟨g1, g2, _⟩ := row d u hdm q
      have e := hk u _ g1
      exact ⟨d, hdm, q, e, by rw [e]; exact g1, by rw [e]; exact g2⟩
    refine sorted_seq hT ho hc hd (swo_row k) hz (fun h2 h1 b hb' keep => row_sortable (s := { s with heap := h1 }) (by omega) (fun u hu => ?_) (fun u hu v hv => ?_) fun x e => ?_) fun h1 h' d out hs hp kp1 kp2 hd' hn => ?_
    · obtain ⟨_, _, _, _, g1, g2⟩ := rk u hu
      exact ⟨g1.keeps fun b x e _ => (keep b x e).2, g2⟩
    · obtain ⟨d1, m1, _, e1, _, _⟩ := rk u hu
      obtain ⟨d2, m2, _, e2, _, _⟩ := rk v hv
      rw [e1, e2]
      exact List.all_eq_true.mp (List.all_eq_true.mp hb2 d1 m1) d2 m2
    · have e' : some x = some (seqObj "list" us.toArray 0) := e.symm.trans hb'
      cases e'
      intro c
      exact absurd (Value.type.inj c) (by decide)
    · obtain ⟨ys, q1, q2⟩ := perm_pair hp.perm P
      have hys : ∀ y ∈ ys, y ∈ xs := fun y hy => q1.mem_iff.mp hy
      have e : ys = sortD xs := by
        refine (q1.trans (List.mergeSort_perm xs leRow).symm).eq_of_pairwise (le := fun a b => leRow a b = true) (fun a b ha hb' h1 h2 => ?_) ?_ ?_
        · exact row_eq (List.all_eq_true.mp hb1 a (hys a ha)) (List.all_eq_true.mp hb1 b ((List.mergeSort_perm xs leRow).mem_iff.mp hb')) h1 h2
        · have q3 : Paired (fun d u => d ∈ xs ∧ ∃ v, VR X.K β H d v ∧ RelV v u) ys out := by
            clear hs hp hn
            have : ∀ {l : List D} {m : List Value}, (∀ y ∈ l, y ∈ xs) → Paired (fun d u => ∃ v, VR X.K β H d v ∧ RelV v u) l m → Paired (fun d u => d ∈ xs ∧ ∃ v, VR X.K β H d v ∧ RelV v u) l m := fun hl z => by
              induction z with
              | nil => exact .nil
              | cons c z ih => exact .cons ⟨hl _ List.mem_cons_self, c⟩ (ih fun y hy => hl y (List.mem_cons_of_mem _ hy))
            exact this hys q2
          refine paired_pw (fun x y u v ⟨hx, hu⟩ ⟨hy, hv⟩ h => ?_) q3 hs
          obtain ⟨g1, _⟩ := row x u hx hu
          obtain ⟨g2, _⟩ := row y v hy hv
          have h : lexK (k v) (k u) = false := h
          rw [hk u _ g1, hk v _ g2] at h
          unfold leRow
          rw [h]
          rfl
        · exact List.pairwise_mergeSort leRow_tr leRow_tot xs
      subst e
      have h3 : ∀ u ∈ out, ∃ t, u = Value.ref t := fun u hu => by
        obtain ⟨y, hy, q⟩ := (paired_mem q2).1 u hu
        exact (row y u (hys y hy) q).2.2
      obtain ⟨m, hn⟩ := hn
      have I1 := I.kept (t' := s.toks) kp1
      have hf : H d = none := I1.hok.fresh hd'
      have hl : (out.map backV).length ≤ sizeLine := by rw [List.length_map, hp.len]; exact hz
      have J : Inv X pins σ (upd H d (.lst (out.map backV))) { s with heap := h', toks := s.toks } := I1.laid (t' := s.toks) kp2 hd' ⟨hl, out, m, vals_back h3, hn⟩
      have ex := ext_new (β := β) (o := .lst (out.map backV)) hf
      have vr : ∀ {l : List D} {r : List Value}, Paired (fun d u => ∃ v, VR X.K β H d v ∧ RelV v u) l r → (∀ u ∈ r, ∃ t, u = Value.ref t) → VRs X.K β H l (r.map backV) := fun z => by
        induction z with
        | nil => intro _; exact VRs.nil.mpr rfl
        | @cons d1 u1 l r c z ih =>
          intro hr
          obtain ⟨v1, c1, c2⟩ := c
          obtain ⟨t, rfl⟩ := hr _ List.mem_cons_self
          have ev : v1 = V.ref t := by
            cases v1 <;> first | (cases c2; rfl) | (cases c2; done) | (obtain ⟨_, c2⟩ := c2; cases c2)
          rw [List.map_cons]
          exact VRs.cons.mpr ⟨_, _, rfl, by rw [← show v1 = backV (.ref t) from ev]; exact c1, ih fun u hu => hr u (List.mem_cons_of_mem _ hu)⟩
      exact ⟨.ref d, _, J, rfl, p _ _ ex (S.push hf ⟨_, upd_same, VRs.mono ex _ _ (vr q2 h3)⟩) _ (VR.loc.mpr ⟨d, by rw [← S.len]; simp, rfl⟩)⟩
  · exact p.elim
end
section
variable {X : Cx} {W : WX}
theorem c_sorted : CallS X W (.builtin "sorted") sortF := fun pins s σ H xs us Q β st ds I r S rd p => by
  unfold sortF at p
  have lst : ∀ {a : Addr} {ys : List D} {ws : List V} {z : List Value}, SqL X.K H a ws → VRs X.K β H ys ws → Vals [V.ref a] z → PostA X.K X.mg W σ (okE X.K Q) β H (sortRows ys st) → wpAny (model X.prog X.w) X.A (call (.builtin "sorted") z) (EP X pins σ Q) X.xe s := fun h1 h2 rz q => by
    obtain ⟨u, rfl, ru⟩ := vals1 rz
    cases ru
    obtain ⟨its, rv, hl, hz⟩ := I.list h1
    obtain ⟨o, ho, hc, n, hd⟩ := hl.isList
    exact sort_one I S (.inl rfl) ho hc hd rv h2 (by rw [← rv.length]; exact hz) q
  split at p
  · obtain ⟨v, rfl, r1⟩ := rd.one
    obtain ⟨a, ws, rfl, h1, h2⟩ := VR.tupS r1
    obtain ⟨u, rfl, ru⟩ := vals1 r
    cases ru
    obtain ⟨its, rv, ⟨o, ho, hc, n, hd⟩, hz⟩ := I.tuple h1
    exact sort_one I S (.inr rfl) ho hc hd rv h2 (by rw [← rv.length]; exact hz) p
  · obtain ⟨v, rfl, r1⟩ := rd.one
    obtain ⟨a, ws, rfl, h1, h2⟩ := VR.frz.mp r1
    exact lst h1.sq h2 r p
  · obtain ⟨v, rfl, r1⟩ := rd.one
    obtain ⟨a, h1, rfl⟩ := VR.loc.mp r1
    obtain ⟨o, h2, h3⟩ := S.at h1
    simp only [h2] at p
    cases o with
    | lst ys => obtain ⟨ws, h4, h5⟩ := h3; exact lst (SqL.of h4) h5 r p
    | _ => exact p.elim
  · exact p.elim
theorem bt_sorted : bootBuiltins "sorted" = some (.builtin "sorted") := by decide +kernel
end
end L3

/-! Ranges with a step. -/
namespace L3
open PySem PySem.Spec PyProof.Rows L2
def stepIts (lo c : Int) (n : Nat) : List D := (List.range n).map fun (i : Nat) => .int (lo + (i : Nat) * c)
def rngN (i j c : Int) : Nat := (Builtin.Range.rangeSize i j c).toNat
def rngF3 (ds : List D) (st : Sto) : R Src := match ds with
  | [.int i, .int j, .int c] => if c ≠ 0 ∧ c.natAbs < 1073741824 ∧ Builtin.Range.small i j c = true ∧ Builtin.Range.rangeSize i j c = rngN i j c then .ok (.its (stepIts i c (rngN i j c))) st else .bad
  | _ => .bad
def iR3 (a : KA) : KI := fun ρ st => (a ρ st).bind rngF3
section
variable {X : Cx} {W : WX} {tg a b c : Expr} {pos p : Pos} {kas : KA}
theorem step_ok {K : PySem.W.Frag} {mg : Str → Option Value} {β : List Addr} {H : Hp} (lo d : Int) (n : Nat) : ItOk K mg β H (.its (stepIts lo d n)) (Itc lo d n) := fun i β2 H2 st2 e2 S2 => by
  have key : ∀ j : Nat, (stepIts lo d n)[j]? = if j < n then some (.int (lo + (j : Nat) * d)) else none := fun j => by
    unfold stepIts
    rw [List.getElem?_map]
    by_cases h : j < n
    · rw [List.getElem?_range h, if_pos h]; rfl
    · rw [if_neg h, List.getElem?_eq_none (by simpa using h)]; rfl
  refine ⟨fun x hx => ?_, fun hx => ?_⟩
  · have hx' := Option.some.inj hx
    rw [key] at hx'
    by_cases h : i < n
    · rw [if_pos h] at hx'
      cases hx'
      exact ⟨h, fun y H' ⟨eH, hy⟩ => by subst eH hy; exact ⟨β2, Ext.refl _ _, S2, VR.int.mpr rfl⟩⟩
    · rw [if_neg h] at hx'; cases hx'
  · have hx' := Option.some.inj hx
    rw [key] at hx'
    by_cases h : i < n
    · rw [if_pos h] at hx'; cases hx'
    · exact Nat.le_of_not_lt h
theorem i_rng3 (hg : Gl X "range") (hm : X.mg "range" = none) (ha : PA X [a, b, c] (liftA X.K X.mg W kas)) (hs : starEach [a, b, c] X.env = (false, eval a X.env) :: starEach [b, c] X.env := by rfl) (hpl : (backTo pos (starEach [b, c] X.env)).any (·.1) = false := by rfl) :
    PI X tg (.Call (.Name "range" p) [a, b, c] [] pos) (liftI X.K X.mg W (iR3 kas)) :=
  PI.imp (pi_range3 hg hm ha hs hpl) fun σ H R ⟨β, ρ, st, S, E, q⟩ => liftA.bind S E q fun ds vs β1 H1 st1 e1 S1 E1 r1 p1 => by
    unfold rngF3 at p1
    split at p1
    · rename_i i j d
      split at p1
      · rename_i hb
        obtain ⟨v1, r1', rfl, h1, h2⟩ := VRs.cons.mp r1
        obtain ⟨v2, r2', rfl, h3, h4⟩ := VRs.cons.mp h2
        obtain ⟨v3, r3', rfl, h5, h6⟩ := VRs.cons.mp h4
        cases VRs.nil.mp h6
        cases VR.int.mp h1
        cases VR.int.mp h3
        cases VR.int.mp h5
        exact ⟨i, j, d, rngN i j d, rfl, hb, p1 β1 H1 (Ext.refl _ _) S1 _ (step_ok i d _)⟩
      · exact p1.elim
    · exact p1.elim
end
/-- a, b, .. = a list of that length -/
def sAsgL (n : Nat) (g : KGs) (a : KE) : KS := fun ρ st => (a ρ st).toS ρ fun d st1 => match d with
  | .loc m => match st1[m]? with
    | some (.lst ds) => if ds.length = n then (match g ds ρ with
      | some ρ' => .nx ρ' st1
      | none => .bad) else .bad
    | _ => .bad
  | _ => .bad
section
variable {X : Cx} {W : WX} {e : Expr} {pos : Pos} {ka : KE}
theorem s_asgL {es : List Expr} {is : List Nat} {g : KGs} {k n : Nat} {tpos : Pos} (hc : X.calm = true) (hg : TGts X es is g) (he : PE X e (lift X.K X.mg W ka)) (hn : (assignEach es X.env).length = n := by rfl) (hst : (assignEach es X.env).findIdx? (·.1) = none := by rfl)
    (hs : swapsWithSole [.Tuple es k tpos] e pos.line X.env = pure false := by rfl) (hw : swappedStores [.Tuple es k tpos] e X.env = pure none := by rfl) (h1 : (assignEach [.Tuple es k tpos] X.env).map (·.2) = [assign (.Tuple es k tpos) X.env] := by rfl) :
    PS X (.Assign [.Tuple es k tpos] e pos) (liftS X.K X.mg W (sAsgL n g ka)) := by
  obtain ⟨t, p, kk⟩ := hg.ex
  refine PS.imp (ps_asg he (pg_unl hc p hn hst) hs hw h1) fun Dn σ H ⟨β, ρ, st, S, E, p⟩ => lift.toS S E p fun d v β1 H1 st1 e1 S1 E1 r1 p1 => ?_
  cases d with
  | loc m =>
    obtain ⟨q, h2, rfl⟩ := VR.loc.mp r1
    obtain ⟨o, h3, h4⟩ := S1.at h2
    simp only [h3] at p1
    cases o with
    | lst ds =>
      obtain ⟨us, h5, h6⟩ := h4
      simp only at p1
      split at p1
      · rename_i hl
        split at p1
        · rename_i ρ' hg
          exact ⟨q, us, rfl, SqL.of h5, by rw [h6.length]; exact hl, kk ds us σ H1 ρ β1 _ ρ' h6 E1 hg fun σ' E' _ => p1 β1 H1 σ' (Ext.refl _ _) S1 E'⟩
        · exact p1.elim
      · exact p1.elim
    | _ => exact p1.elim
  | _ => exact p1.elim
end
end L3

/-! min and max of a list or tuple of such tuples. -/
namespace L3
open PySem PySem.Spec PyProof.Rows L2
def pk : Key → PyData
  | .inl i => .int i
  | .inr x => .str x
def rowP (d : D) : PyData := .tuple ((keyOf d).map pk)
theorem pk_blt (a b : Key) (hs : sameK [a] [b] = true) (r t : List (Int ⊕ List Nat)) : lexLt itemOrd (PySem.W.keyToks (pk a) ++ r) (PySem.W.keyToks (pk b) ++ t) = if a = b then lexLt itemOrd r t else ltKey a b := by
  cases a with
  | inl i => cases b with
    | inl j =>
      show (decide (i < j) || (!decide (j < i) && lexLt itemOrd r t)) = _
      by_cases e : i = j
      · subst e; simp
      · rw [if_neg (fun z => e (Sum.inl.inj z))]
        show _ = decide (i < j)
        by_cases h : i < j
        · simp [h]
        · have : j < i := by omega
          simp [h, this]
    | inr y => cases hs
  | inr x => cases b with
    | inl j => cases hs
    | inr y =>
      show (decide (x.cps.toList < y.cps.toList) || (!decide (y.cps.toList < x.cps.toList) && lexLt itemOrd r t)) = _
      by_cases e : x = y
      · subst e; simp [List.lt_irrefl]
      · rw [if_neg (fun z => e (Sum.inr.inj z))]
        show _ = decide (x.cps.toList < y.cps.toList)
        rcases ltKey_tri (a := .inr x) (b := .inr y) (fun z => e (Sum.inr.inj z)) with h | h
        · have h : x.cps.toList < y.cps.toList := of_decide_eq_true h
          simp [h]
        · have h : y.cps.toList < x.cps.toList := of_decide_eq_true h
          have h2 : ¬ x.cps.toList < y.cps.toList := fun z => List.lt_irrefl _ (List.lt_trans h z)
          simp [h, h2]
theorem lexLt_one (r t : List (Int ⊕ List Nat)) : lexLt itemOrd (.inl 1 :: r) (.inl 1 :: t) = lexLt itemOrd r t := by
  show (decide ((1 : Int) < 1) || (!decide ((1 : Int) < 1) && lexLt itemOrd r t)) = _
  simp
theorem row_lt : ∀ ks js : List Key, sameK ks js = true → lexLt itemOrd (PySem.W.keyToksAll (ks.map pk)) (PySem.W.keyToksAll (js.map pk)) = lexK ks js
  | [], [], _ => by
    simp only [List.map_nil, PySem.W.keyToksAll, lexK]
    show (decide ((0 : Int) < 0) || (!decide ((0 : Int) < 0) && false)) = false
    simp
  | a :: ks, b :: js, h => by
    have h1 : sameK [a] [b] = true := by cases a <;> cases b <;> first | rfl | cases h
    have h2 : sameK ks js = true := by cases a <;> cases b <;> first | exact h | cases h
    simp only [List.map_cons, PySem.W.keyToksAll]
    rw [lexLt_one, pk_blt a b h1, row_lt ks js h2]
    conv => rhs; unfold lexK
  | [], _ :: _, h => by cases h
  | .inl _ :: _, [], h => by cases h
  | .inr _ :: _, [], h => by cases h
theorem row_dataLt {a b : D} (h : sameK (keyOf a) (keyOf b) = true) : PySem.W.dataLt (rowP a) (rowP b) = lexK (keyOf a) (keyOf b) := by
  unfold PySem.W.dataLt rowP
  simp only [PySem.W.keyToks]
  exact row_lt _ _ h
theorem row_alike : ∀ ks js : List Key, sameK ks js = true → PySem.W.alikeAll (ks.map pk) (js.map pk) = true
  | [], [], _ => by simp [PySem.W.alikeAll]
  | .inl _ :: ks, .inl _ :: js, h => by
    simp only [List.map_cons, pk, PySem.W.alikeAll, PySem.W.alike, Bool.true_and]
    exact row_alike ks js h
  | .inr _ :: ks, .inr _ :: js, h => by
    simp only [List.map_cons, pk, PySem.W.alikeAll, PySem.W.alike, Bool.true_and]
    exact row_alike ks js h
  | [], _ :: _, h => by cases h
  | .inl _ :: _, [], h => by cases h
  | .inr _ :: _, [], h => by cases h
  | .inl _ :: _, .inr _ :: _, h => by cases h
  | .inr _ :: _, .inl _ :: _, h => by cases h
def minRow (x : D) (xs : List D) : D := xs.foldl (fun a y => if lexK (keyOf y) (keyOf a) = true then y else a) x
def maxRow (x : D) (xs : List D) : D := xs.foldl (fun a y => if lexK (keyOf a) (keyOf y) = true then y else a) x
theorem minRow_mem : ∀ (xs : List D) (x : D), minRow x xs ∈ x :: xs
  | [], x => List.mem_cons_self
  | y :: ys, x => by
    unfold minRow
    rw [List.foldl_cons]
    have h := minRow_mem ys (if lexK (keyOf y) (keyOf x) = true then y else x)
    unfold minRow at h
    rcases List.mem_cons.mp h with h | h
    · rw [h]
      split
      · exact List.mem_cons_of_mem _ List.mem_cons_self
      · exact List.mem_cons_self
    · exact List.mem_cons_of_mem _ (List.mem_cons_of_mem _ h)
theorem maxRow_mem : ∀ (xs : List D) (x : D), maxRow x xs ∈ x :: xs
  | [], x => List.mem_cons_self
  | y :: ys, x => by
    unfold maxRow
    rw [List.foldl_cons]
    have h := maxRow_mem ys (if lexK (keyOf x) (keyOf y) = true then y else x)
    unfold maxRow at h
    rcases List.mem_cons.mp h with h | h
    · rw [h]
      split
      · exact List.mem_cons_of_mem _ List.mem_cons_self
      · exact List.mem_cons_self
    · exact List.mem_cons_of_mem _ (List.mem_cons_of_mem _ h)
theorem minRow_data : ∀ (xs : List D) (x : D), (∀ a ∈ x :: xs, ∀ b ∈ x :: xs, sameK (keyOf a) (keyOf b) = true) → PySem.W.minD (rowP x) (xs.map rowP) = rowP (minRow x xs)
  | [], x, _ => rfl
  | y :: ys, x, h => by
    have hy := h y (by simp) x (by simp)
    unfold PySem.W.minD minRow
    rw [List.map_cons, List.foldl_cons, List.foldl_cons, row_dataLt hy]
    have h2 : ∀ z ∈ [x, y], (∀ a ∈ z :: ys, ∀ b ∈ z :: ys, sameK (keyOf a) (keyOf b) = true) := fun z hz a ha b hb => by
      refine h a ?_ b ?_
      · rcases List.mem_cons.mp ha with rfl | ha
        · simp only [List.mem_cons, List.not_mem_nil, or_false] at hz; rcases hz with rfl | rfl <;> simp
        · exact List.mem_cons_of_mem _ (List.mem_cons_of_mem _ ha)
      · rcases List.mem_cons.mp hb with rfl | hb
        · simp only [List.mem_cons, List.not_mem_nil, or_false] at hz; rcases hz with rfl | rfl <;> simp
        · exact List.mem_cons_of_mem _ (List.mem_cons_of_mem _ hb)
    cases lexK (keyOf y) (keyOf x) with
    | true => exact minRow_data ys y (h2 y (by simp))
    | false => exact minRow_data ys x (h2 x (by simp))
theorem maxRow_data : ∀ (xs : List D) (x : D), (∀ a ∈ x :: xs, ∀ b ∈ x :: xs, sameK (keyOf a) (keyOf b) = true) → PySem.W.maxD (rowP x) (xs.map rowP) = rowP (maxRow x xs)
  | [], x, _ => rfl
  | y :: ys, x, h => by
    have hy := h x (by simp) y (by simp)
    unfold PySem.W.maxD maxRow
    rw [List.map_cons, List.foldl_cons, List.foldl_cons, row_dataLt hy]
    have h2 : ∀ z ∈ [x, y], (∀ a ∈ z :: ys, ∀ b ∈ z :: ys, sameK (keyOf a) (keyOf b) = true) := fun z hz a ha b hb => by
      refine h a ?_ b ?_
      · rcases List.mem_cons.mp ha with rfl | ha
        · simp only [List.mem_cons, List.not_mem_nil, or_false] at hz; rcases hz with rfl | rfl <;> simp
        · exact List.mem_cons_of_mem _ (List.mem_cons_of_mem _ ha)
      · rcases List.mem_cons.mp hb with rfl | hb
        · simp only [List.mem_cons, List.not_mem_nil, or_false] at hz; rcases hz with rfl | rfl <;> simp
        · exact List.mem_cons_of_mem _ (List.mem_cons_of_mem _ hb)
    cases lexK (keyOf x) (keyOf y) with
    | true => exact maxRow_data ys y (h2 y (by simp))
    | false => exact maxRow_data ys x (h2 x (by simp))

def mmRows (mx : Bool) (xs : List D) (st : Sto) : R D := match xs with
  | [] => .bad
  | x :: r => if (xs.all rowOk && (xs.all fun x => xs.all fun y => sameK (keyOf x) (keyOf y))) = true then .ok (if mx = true then maxRow x r else minRow x r) st else .bad
def mmX (mx : Bool) (f : List D → Sto → R D) (ds : List D) (st : Sto) : R D := match ds with
  | [.tup xs] => mmRows mx xs st
  | [.frz xs] => mmRows mx xs st
  | [.loc n] => match st[n]? with
    | some (.lst xs) => mmRows mx xs st
    | _ => .bad
  | ds => f ds st
section
variable {X : Cx} {W : WX}
theorem row_pd {st : Sto} {n : Nat} : ∀ {xs : List D} {ks : List Key}, keysD xs = some ks → allO (xs.map (pd st n)) = some (ks.map pk)
  | [], ks, h => by cases h; rfl
  | x :: xs, ks, h => by
    obtain ⟨k, hk, h⟩ := Option.bind_eq_some_iff.mp h
    obtain ⟨l, hl, h⟩ := Option.bind_eq_some_iff.mp h
    cases h
    have e : pd st n x = some (pk k) := by cases x <;> first | (cases hk; cases n <;> rfl) | cases hk
    show (pd st n x).bind (fun a => (allO (xs.map (pd st n))).bind fun l => some (a :: l)) = _
    rw [e, row_pd hl]
    rfl
theorem row_dp {K : PySem.W.Frag} {mg : Str → Option Value} {β : List Addr} {st : Sto} {H : Hp} {d : D} {v : V} (S : Sim K mg β st H) (h : rowOk d = true) (r : VR K β H d v) : Dp K H v (rowP d) := by
  refine pd_ok S 1 d v (rowP d) ?_ r
  obtain ⟨xs, ks, rfl, e1, e2, _⟩ := row_keys h
  show (allO (xs.map (pd st 0))).bind (fun l => some (.tuple l)) = some (rowP (.tup xs))
  rw [row_pd e1]
  unfold rowP
  rw [e2]
  rfl
theorem rows_dp {K : PySem.W.Frag} {mg : Str → Option Value} {β : List Addr} {st : Sto} {H : Hp} (S : Sim K mg β st H) : ∀ {xs : List D} {vs : List V}, (∀ d ∈ xs, rowOk d = true) → VRs K β H xs vs → DpAll K H vs (xs.map rowP)
  | [], vs, _, r => by rw [VRs.nil.mp r]; exact .nil
  | d :: ds, vs, h, r => by
    obtain ⟨v, u, rfl, r1, r2⟩ := VRs.cons.mp r
    exact .cons (row_dp S (h d List.mem_cons_self) r1) (rows_dp S (fun e he => h e (List.mem_cons_of_mem _ he)) r2)
theorem pk_plain : ∀ ks : List Key, PyData.plainAll (ks.map pk) = true
  | [] => by simp [PyData.plainAll]
  | .inl _ :: ks => by simp [PyData.plainAll, PyData.plain, pk, pk_plain ks]
  | .inr _ :: ks => by simp [PyData.plainAll, PyData.plain, pk, pk_plain ks]
theorem pk_depth : ∀ ks : List Key, PyData.depthAll (ks.map pk) ≤ 1
  | [] => by simp [PyData.depthAll]
  | .inl _ :: ks => by have := pk_depth ks; simp only [List.map_cons, PyData.depthAll, PyData.depth, pk]; omega
  | .inr _ :: ks => by have := pk_depth ks; simp only [List.map_cons, PyData.depthAll, PyData.depth, pk]; omega
theorem rowP_depth : ∀ xs : List D, PyData.depthAll (xs.map rowP) ≤ 3
  | [] => by simp [PyData.depthAll]
  | d :: ds => by
    have h1 := rowP_depth ds
    have h2 := pk_depth (keyOf d)
    simp only [List.map_cons, PyData.depthAll, rowP, PyData.depth]
    omega
theorem pk_inj : ∀ {ks js : List Key}, ks.map pk = js.map pk → ks = js
  | [], [], _ => rfl
  | [], _ :: _, h => by cases h
  | _ :: _, [], h => by cases h
  | k :: ks, j :: js, h => by
    rw [List.map_cons, List.map_cons] at h
    obtain ⟨h1, h2⟩ := List.cons.inj h
    rw [pk_inj h2]
    cases k <;> cases j <;> first | (cases h1; rfl) | cases h1
theorem rowP_inj {a b : D} (ha : rowOk a = true) (hb : rowOk b = true) (h : rowP a = rowP b) : a = b := by
  obtain ⟨xs, ks, rfl, e1, e2, _⟩ := row_keys ha
  obtain ⟨ys, js, rfl, g1, g2, _⟩ := row_keys hb
  unfold rowP at h
  rw [e2, g2] at h
  have e : ks = js := pk_inj (by injection h)
  subst e
  rw [keysD_inj e1 g1]
theorem mm_one {pins : List (Addr × Obj)} {s : Shared} {σ : L2.St} {H : Hp} {Q : VK} {β : List Addr} {st : Sto} {xs : List D} {vs : List V} {us : List Value} {a : Addr} {mx : Bool} (hc : X.calm = true) (hu : X.A.units + 64 < cLine) (I : Inv X pins σ H s) (S : Sim X.K X.mg β st H)
    (hl : s.heap.IsList a us.toArray ∨ s.heap.IsTuple a us.toArray) (rv : Vals vs us) (rd : VRs X.K β H xs vs) (p : PostA X.K X.mg W σ (okE X.K Q) β H (mmRows mx xs st)) : wpAny (model X.prog X.w) X.A (call (.builtin (if mx = true then "max" else "min")) [.ref a]) (EP X pins σ Q) X.xe s := by
  cases xs with
  | nil => exact p.elim
  | cons x r =>
    unfold mmRows at p
    simp only at p
    split at p
    · rename_i hb
      obtain ⟨hb1, hb2⟩ := Bool.and_eq_true_iff.mp hb
      have ok : ∀ d ∈ x :: r, rowOk d = true := fun d hd => List.all_eq_true.mp hb1 d hd
      have same : ∀ d ∈ x :: r, ∀ e ∈ x :: r, sameK (keyOf d) (keyOf e) = true := fun d hd e he => List.all_eq_true.mp (List.all_eq_true.mp hb2 d hd) e he
      obtain ⟨as, hr⟩ := Dp.readsAll I _ _ _ (rows_dp S ok rd) rv
      rw [List.map_cons] at hr
      have hr' : ReadsAll s.heap us.toArray.toList (rowP x :: r.map rowP) as := by simpa using hr
      have al : PySem.W.AlikeAll (rowP x :: r.map rowP) := by
        refine ⟨fun q hq t ht => ?_, fun q hq => ?_⟩
        · rw [← List.map_cons] at hq ht
          obtain ⟨d, hd, rfl⟩ := List.mem_map.mp hq
          obtain ⟨e, he, rfl⟩ := List.mem_map.mp ht
          unfold rowP
          simp only [PySem.W.alike]
          exact row_alike _ _ (same d hd e he)
        · rw [← List.map_cons] at hq
          obtain ⟨d, hd, rfl⟩ := List.mem_map.mp hq
          exact fun z => by cases z
      have dep := rowP_depth (x :: r)
      rw [List.map_cons] at dep
      have P := pair3 rd rv
      have fin2 : ∀ (y : D) (i : Nat) (u : Value) (h' : Heap) (tk : Nat) (bs : List Addr), y ∈ x :: r → us.toArray[i]? = some u → Reads h' u (rowP y) bs → (∀ b o, s.heap.get? b = some o → h'.get? b = some o) → (∀ v, VR X.K β H y v → Q v H) → EP X pins σ Q u { s with heap := h', toks := tk } := fun y i u h' tk bs hy hi hrd kp hq => by
        have hi' : u ∈ us := by
          have := List.mem_of_getElem? (show us[i]? = some u by simpa using hi)
          exact this
        obtain ⟨d, hd, v, r1, r2⟩ := (paired_mem P).1 u hi'
        obtain ⟨cs, hr3⟩ := Dp.reads I _ _ _ (row_dp S (ok d hd) r1) r2
        have e := SeqAt.plain_unique _ _ _ _ _ (show PyData.plain (rowP d) = true by unfold rowP; simp only [PyData.plain]; exact pk_plain _) (PySem.W.reads_keeps kp hr3) hrd
        have e2 := rowP_inj (ok d hd) (ok y hy) e
        subst e2
        exact ⟨v, H, I.kept (t' := tk) kp, r2, hq v r1⟩
      cases mx with
      | true =>
        have hq : ∀ v, VR X.K β H (maxRow x r) v → Q v H := fun v rr => p β H (Ext.refl _ _) S v rr
        rcases hl with hl | hl
        · exact PySem.W.max_list_data (I.ok.hd hc) hl hr' al (by omega) fun i u h' tk bs hi hrd kp => fin2 (maxRow x r) i u h' tk bs (maxRow_mem r x) hi (by rw [← maxRow_data r x same]; exact hrd) kp hq
        · exact PySem.W.max_tuple_data (I.ok.hd hc) hl hr' al (by omega) fun i u h' tk bs hi hrd kp => fin2 (maxRow x r) i u h' tk bs (maxRow_mem r x) hi (by rw [← maxRow_data r x same]; exact hrd) kp hq
      | false =>
        have hq : ∀ v, VR X.K β H (minRow x r) v → Q v H := fun v rr => p β H (Ext.refl _ _) S v rr
        rcases hl with hl | hl
        · exact PySem.W.min_list_data (I.ok.hd hc) hl hr' al (by omega) fun i u h' tk bs hi hrd kp => fin2 (minRow x r) i u h' tk bs (minRow_mem r x) hi (by rw [← minRow_data r x same]; exact hrd) kp hq
        · exact PySem.W.min_tuple_data (I.ok.hd hc) hl hr' al (by omega) fun i u h' tk bs hi hrd kp => fin2 (minRow x r) i u h' tk bs (minRow_mem r x) hi (by rw [← minRow_data r x same]; exact hrd) kp hq
    · exact p.elim
end
section
variable {X : Cx} {W : WX}
theorem c_mm {mx : Bool} {f : List D → Sto → R D} (hc : X.calm = true) (hu : X.A.units + 64 < cLine) (hf : CallS X W (.builtin (if mx = true then "max" else "min")) f) : CallS X W (.builtin (if mx = true then "max" else "min")) (mmX mx f) := fun pins s σ H xs us Q β st ds I r S rd p => by
  have lst : ∀ {a : Addr} {ys : List D} {ws : List V} {z : List Value}, SqL X.K H a ws → VRs X.K β H ys ws → Vals [V.ref a] z → PostA X.K X.mg W σ (okE X.K Q) β H (mmRows mx ys st) → wpAny (model X.prog X.w) X.A (call (.builtin (if mx = true then "max" else "min")) z) (EP X pins σ Q) X.xe s := fun h1 h2 rz q => by
    obtain ⟨u, rfl, ru⟩ := vals1 rz
    cases ru
    obtain ⟨its, rv, hl, hz⟩ := I.list h1
    exact mm_one hc hu I S (.inl hl.isList) rv h2 q
  unfold mmX at p
  split at p
  · obtain ⟨v, rfl, r1⟩ := rd.one
    obtain ⟨a, ws, rfl, h1, h2⟩ := VR.tupS r1
    obtain ⟨u, rfl, ru⟩ := vals1 r
    cases ru
    obtain ⟨its, rv, ⟨o, ho, hc', n, hd⟩, hz⟩ := I.tuple h1
    exact mm_one hc hu I S (.inr ⟨o, ho, hc', n, hd⟩) rv h2 p
  · obtain ⟨v, rfl, r1⟩ := rd.one
    obtain ⟨a, ws, rfl, h1, h2⟩ := VR.frz.mp r1
    exact lst h1.sq h2 r p
  · obtain ⟨v, rfl, r1⟩ := rd.one
    obtain ⟨a, h1, rfl⟩ := VR.loc.mp r1
    obtain ⟨o, h2, h3⟩ := S.at h1
    simp only [h2] at p
    cases o with
    | lst ys => obtain ⟨ws, h4, h5⟩ := h3; exact lst (SqL.of h4) h5 r p
    | _ => exact p.elim
  · exact hf pins s σ H xs us Q β st ds I r S rd p
theorem c_min (hc : X.calm = true) (hu : X.A.units + 64 < cLine) : CallS X W (.builtin "min") (mmX false minF) := c_mm (mx := false) hc hu (f_min hc)
theorem c_max (hc : X.calm = true) (hu : X.A.units + 64 < cLine) : CallS X W (.builtin "max") (mmX true maxF) := c_mm (mx := true) hc hu (f_max hc)
end
end L3

/-! The looks, from the library's own. -/
namespace L3
open PySem PySem.Spec PyProof.Rows L2
section
open PySem.W
variable {K : Frag} {C f p g : Addr} {m n : Str}
theorem clB_of (h1 : plainGet K C Str.empty = true) (h2 : hasDictIn K C = true) (h3 : plainOver K C = true) (h4 : findIn K (.ref C) "__setattr__" = some (some (.builtin "object.__setattr__"))) : clB K C = true := by
  unfold clB; rw [h1, h2, h3, h4]; simp
theorem naB_nil : naB K C [] = true := rfl
theorem naB_cons {ns : List Str} (h : findIn K (.ref C) n = some none) (t : naB K C ns = true) : naB K C (n :: ns) = true := by
  unfold naB at t ⊢
  rw [List.all_cons, t, h]; simp
theorem mkB_of (h1 : makesIn K C = true) (h2 : findIn K (.ref C) "__init__" = some (some (.ref f))) (h3 : isFn K (.ref f) = true) (h4 : keepIn K (.ref C) = true) : mkB K C f = true := by
  unfold mkB; rw [h1, h2, h3, h4]; simp
theorem mtB_of (h2 : findIn K (.ref C) m = some (some (.ref f))) (h3 : isFn K (.ref f) = true) (h4 : keepIn K (.ref f) = true) : mtB K C m f = true := by
  unfold mtB; rw [h2, h3, h4]; simp
theorem prB_of {r : List Value} (h1 : findIn K (.ref C) n = some (some (.ref p))) (h2 : specialIn K (.ref p) "__get__" = some (some (.builtin "property.__get__"))) (h3 : takesIn K (.ref p) = some true) (h4 : recIn K p "property" = some (.ref g :: r)) : prB K C n p g = true := by
  unfold prB; rw [h1, h2, h3, h4]; simp
theorem cmB_of {mc : Value} {r : List Value} (h1 : readsIn K C mc = true) (h2 : specialIn K (.ref C) "__getattribute__" = some (some (.builtin "type.__getattribute__"))) (h3 : findCls K (.ref C) mc m = some (.get (.builtin "classmethod.__get__") (.ref p) .none (.ref C))) (h4 : fnIn K g = true) (h5 : recIn K p "classmethod" = some (.ref g :: r)) : cmB K C mc m p g = true := by
  unfold cmB; rw [h1, h2, h3, h4, h5]; simp
theorem kit_self : kitOne K (.ref C) (.ref C) = some true := by unfold kitOne; rw [if_pos (by simp)]
theorem kit_not {a : String} (h1 : isClsIn K C = true) (h2 : typeIn K (.ref C) = some (.type "type")) (h3 : subIn K (.type a) (.ref C) = some false) : kitOne K (.type a) (.ref C) = some false := by
  unfold kitOne kitCls
  rw [if_neg (by simp)]
  simp only
  rw [show (clsIn K C).isSome = true from h1, h2, h3]
  simp
theorem nsOk_of {N : Addr} {c} {d} {es} {n} {sl} (h : K.lookup N = some ⟨c, d, .dict es n, sl⟩) (he : (es.toList.all fun e => match e.key with | .str _ _ => true | _ => false) = true) : nsOkIn K N = true := by
  unfold nsOkIn
  rw [h]
  rw [Array.all_toList] at he
  exact he
theorem isB_of (h0 : clB K C = true) (h1 : findIn K (.ref C) "__class__" = some (some (.builtin "object.__class__"))) (h2 : specialIn K (.builtin "object.__class__") "__get__" = some (some (.builtin "getset_descriptor.__get__"))) (h3 : takesIn K (.builtin "object.__class__") = some true) (h4 : mroIn K C (.type "object") = some true) (h5 : kitOne K (.ref C) (.ref C) = some true)
    (k1 : kitOne K (.type "NoneType") (.ref C) = some false) (k2 : kitOne K (.type "bool") (.ref C) = some false) (k3 : kitOne K (.type "int") (.ref C) = some false) (k4 : kitOne K (.type "str") (.ref C) = some false) (k5 : kitOne K (.type "tuple") (.ref C) = some false) (k6 : kitOne K (.type "list") (.ref C) = some false) (k7 : kitOne K (.type "dict") (.ref C) = some false) : isB K C = true := by
  unfold isB
  rw [h0, h1, h2, h3, h4, h5]
  simp [k1, k2, k3, k4, k5, k6, k7]
theorem eqB_of {dd : Option Addr} {nm qn : Str} {bs : List Value} {ns : Addr} {hd : Bool} {sn : List Str} {sub : List Value} {ab : Bool} {col : Option Bool} {k0 k1 k2 k3 k5 : Option Value} (h1 : findIn K (.ref C) "__eq__" = some (some (.ref f))) (h2 : isFn K (.ref f) = true)
    (l : K.lookup C = some ⟨.type "type", dd, .cls ⟨nm, bs, [.ref C, .type "object"], ns, qn, hd, sn, sub, ab, col, false⟩, #[k0, k1, k2, k3, some (.builtin "object.__new__"), k5]⟩) (h3 : nsOkIn K ns = true) (h4 : nsIn K ns "__eq__" = some (some (.ref f))) (h5 : nsIn K ns "__ne__" = some none) : eqB K C f = true := by
  unfold eqB
  rw [h1, h2, l]
  simp [h3, h4, h5]
end
end L3

/-! More of what laws say: `in` with any data and a tuple, == with a tuple of the program's own, str of an int, min, max, sorted of ints. -/
namespace L3
open PySem PySem.Spec PyProof.Rows L2
section
variable {X : Cx} {W : WX}
def inY (neg : Bool) (x y : D) (st : Sto) : R D := match y with
  | .tup xs => match pd st 40 x, pd st 40 (.tup xs) with
    | some d, some (.tuple ds) => if SeqAt.shaped d = true ∧ SeqAt.shaped (.tuple ds) = true then .ok (.bl (neg != ds.any fun z => PyData.eqv z d)) st else .bad
    | _, _ => .bad
  | _ => inD neg x y st
def rInTD (K : PySem.W.Frag) (neg : Bool) : R2 := fun x y H Q => ∃ d ds, Dp K H x d ∧ Dp K H y (.tuple ds) ∧ SeqAt.shaped d = true ∧ SeqAt.shaped (.tuple ds) = true ∧ Q (.bl (neg != ds.any fun z => PyData.eqv z d)) H
theorem op_inTD (hu : X.A.units + 65 < cLine) : OpR X (compareOp .In) (rInTD X.K false) := by
  intro pins s σ H x y v u Q I rx ry h
  obtain ⟨d, ds, hd, he, sd, se, q⟩ := h
  obtain ⟨as, r1⟩ := Dp.reads I d x v hd rx
  obtain ⟨bs, r2⟩ := Dp.reads I (.tuple ds) y u he ry
  exact SeqAt.in_tuple_reads r2 r1 (SeqAt.canLay_of_shaped se) (SeqAt.canLay_of_shaped sd) (room_in_shaped sd hu) ⟨.bl _, H, I, rfl, by simpa using q⟩
theorem op_notInTD (hu : X.A.units + 65 < cLine) : OpR X (compareOp .NotIn) (rInTD X.K true) := by
  intro pins s σ H x y v u Q I rx ry h
  obtain ⟨d, ds, hd, he, sd, se, q⟩ := h
  obtain ⟨as, r1⟩ := Dp.reads I d x v hd rx
  obtain ⟨bs, r2⟩ := Dp.reads I (.tuple ds) y u he ry
  exact SeqAt.notIn_tuple_reads r2 r1 (SeqAt.canLay_of_shaped se) (SeqAt.canLay_of_shaped sd) (room_in_shaped sd hu) ⟨.bl _, H, I, rfl, by simpa using q⟩
theorem o_inY (hu : X.A.units + 65 < cLine) : OpS X W (compareOp .In) (inY false) := fun pins s σ H x y v u Q β st dx dy I r1 r2 S rx ry p => by
  unfold inY at p
  split at p
  · split at p
    · rename_i d ds h1 h2
      split at p
      · rename_i hs
        exact op_inTD hu pins s σ H x y v u Q I r1 r2 ⟨d, ds, pd_ok S 40 dx x d h1 rx, pd_ok S 40 _ y _ h2 ry, hs.1, hs.2, fin p S (VR.bl.mpr rfl)⟩
      · exact p.elim
    · exact p.elim
  · exact o_in hu pins s σ H x y v u Q β st dx dy I r1 r2 S rx ry p
theorem o_notInY (hu : X.A.units + 65 < cLine) : OpS X W (compareOp .NotIn) (inY true) := fun pins s σ H x y v u Q β st dx dy I r1 r2 S rx ry p => by
  unfold inY at p
  split at p
  · split at p
    · rename_i d ds h1 h2
      split at p
      · rename_i hs
        exact op_notInTD hu pins s σ H x y v u Q I r1 r2 ⟨d, ds, pd_ok S 40 dx x d h1 rx, pd_ok S 40 _ y _ h2 ry, hs.1, hs.2, fin p S (VR.bl.mpr rfl)⟩
      · exact p.elim
    · exact p.elim
  · exact o_notIn hu pins s σ H x y v u Q β st dx dy I r1 r2 S rx ry p

/-! ### == with a tuple of ints that the program keeps -/
def eqG (neg : Bool) (is : List Int) (x : D) (st : Sto) : R D := match pd st 40 x with
  | some d => if SeqAt.shaped d = true ∧ SeqAt.shaped (.tuple (is.map PyData.int)) = true then .ok (.bl (neg != PyData.eqv d (.tuple (is.map PyData.int)))) st else .bad
  | none => .bad
/-- an object of the program's own: a tuple of these ints -/
def TupK (K : PySem.W.Frag) (a : Addr) (is : List Int) : Prop := ∃ (o : Obj) (its : Array Value) (n : Nat), K.lookup a = some o ∧ o.cls = .type "tuple" ∧ o.data = .seq its n ∧ its.size ≤ sizeLine ∧ Vals (is.map V.int) its.toList
theorem dp_ints {K : PySem.W.Frag} {H : Hp} : ∀ is : List Int, DpAll K H (is.map V.int) (is.map PyData.int)
  | [] => .nil
  | i :: is => .cons (.int i) (dp_ints is)
theorem TupK.dp {K : PySem.W.Frag} {H : Hp} {a : Addr} {is : List Int} (h : TupK K a is) : Dp K H (.ref a) (.tuple (is.map PyData.int)) := by
  obtain ⟨o, its, n, h1, h2, h3, h4, h5⟩ := h
  exact .tup (.inr ⟨o, its, n, h1, h2, h3, h4, h5⟩) (dp_ints is)
theorem TupK.of {K : PySem.W.Frag} {a : Addr} {is : List Int} {od : Option Addr} {its : Array Value} {n : Nat} {sl : Array (Option Value)} (h : K.lookup a = some ⟨.type "tuple", od, .seq its n, sl⟩) (hz : its.size ≤ sizeLine) (hv : Vals (is.map V.int) its.toList) : TupK K a is :=
  ⟨_, its, n, h, rfl, rfl, hz, hv⟩
variable {a : Expr} {ka : KE} {pos p1 : Pos} {x : Str} {t : Addr} {is : List Int}
theorem q_eqG_run {op : CmpOp} {f : D → Sto → R D} (hg : Gl X x) (hm : X.mg x = some (.ref t)) (hd : (x == ("__debug__" : Str)) = false) (ho : ∀ (pins : List (Addr × Obj)) (s : Shared) (σ : L2.St) (H : Hp) (y : V) (v : Value) (Q : VK) (β : List Addr) (st : Sto) (dy : D), Inv X pins σ H s → RelV y v → Sim X.K X.mg β st H → VR X.K β H dy y →
    PostA X.K X.mg W σ (okE X.K Q) β H (f dy st) → wpAny (model X.prog X.w) X.A (compareOp op v (.ref t)) (EP X pins σ Q) X.xe s)
    (ha : PE X a (lift X.K X.mg W ka)) (hmk : behindInMarks op (.Name x p1) = false) : PE X (.Compare a [op] [.Name x p1] pos) (lift X.K X.mg W (k1 f ka)) := by
  refine ⟨fun pins s σ H Q I ⟨β, ρ, st, S, E, p⟩ => ?_⟩
  refine wpAny_Compare1 (thn (ha.run pins s σ H (fun y H1 => ∃ β1 st1 dy, Sim X.K X.mg β1 st1 H1 ∧ VR X.K β1 H1 dy y ∧ PostA X.K X.mg W σ (okE X.K Q) β1 H1 (f dy st1)) I
    (lift.bind S E p fun d v β' H' st' e' S' E' r' p' => ⟨β', st', d, S', r', p'⟩)) fun v s1 ⟨y, H1, I1, r1, β1, st1, dy, S1, v1, p1'⟩ => ?_) hmk
  refine thn ((pe_glob (v := .ref t) hg hm rfl hd).run pins s1 σ H1 (fun w H2 => w = .ref t ∧ H2 = H1) I1 ⟨rfl, rfl⟩) fun u s2 ⟨w, H2, I2, r2, e1, e2⟩ => ?_
  subst e1 e2
  cases r2
  exact ho pins s2 σ H2 y v Q β1 st1 dy I2 r1 S1 v1 p1'
theorem q_neG (hu : X.A.units + 64 < cLine) (hg : Gl X x) (hm : X.mg x = some (.ref t)) (hk : TupK X.K t is) (ha : PE X a (lift X.K X.mg W ka)) (hd : (x == ("__debug__" : Str)) = false := by decide) : PE X (.Compare a [.NotEq] [.Name x p1] pos) (lift X.K X.mg W (k1 (eqG true is) ka)) :=
  q_eqG_run hg hm hd (fun pins s σ H y v Q β st dy I r S rd p => by
    unfold eqG at p
    split at p
    · rename_i d h1
      split at p
      · rename_i hs
        exact op_neD hu pins s σ H y (.ref t) v (.ref t) Q I r rfl ⟨d, _, pd_ok S 40 dy y d h1 rd, hk.dp, hs.1, hs.2, fin p S (VR.bl.mpr (by simp))⟩
      · exact p.elim
    · exact p.elim) ha rfl
theorem q_eqGe (hu : X.A.units + 64 < cLine) (hg : Gl X x) (hm : X.mg x = some (.ref t)) (hk : TupK X.K t is) (ha : PE X a (lift X.K X.mg W ka)) (hd : (x == ("__debug__" : Str)) = false := by decide) : PE X (.Compare a [.Eq] [.Name x p1] pos) (lift X.K X.mg W (k1 (eqG false is) ka)) :=
  q_eqG_run hg hm hd (fun pins s σ H y v Q β st dy I r S rd p => by
    unfold eqG at p
    split at p
    · rename_i d h1
      split at p
      · rename_i hs
        exact op_eqD hu pins s σ H y (.ref t) v (.ref t) Q I r rfl ⟨d, _, pd_ok S 40 dy y d h1 rd, hk.dp, hs.1, hs.2, fin p S (VR.bl.mpr (by simp))⟩
      · exact p.elim
    · exact p.elim) ha rfl

/-! ### str of an int -/
def strF (ds : List D) (st : Sto) : R D := match ds with
  | [.int i] => if i.natAbs.log2 < 1920 then .ok (.str (toString i)) st else .bad
  | _ => .bad
theorem f_str : CallS X W (.type "str") strF := CallS.of call_str_int fun σ H xs Q β st ds S r p => by
  unfold strF at p
  split at p
  · obtain ⟨v, rfl, r1⟩ := r.one
    cases VR.int.mp r1
    split at p
    · rename_i hz
      exact ⟨_, rfl, hz, fin p S (VR.str.mpr rfl)⟩
    · exact p.elim
  · exact p.elim

/-! ### min, max of ints -/
theorem intsO_eq : ∀ {xs : List D} {is : List Int}, intsO xs = some is → xs = is.map D.int
  | [], is, h => by cases h; rfl
  | d :: ds, is, h => by
    cases d with
    | int i =>
      obtain ⟨l, h1, h2⟩ := Option.bind_eq_some_iff.mp (show (intsO ds).bind (fun l => some (i :: l)) = some is from h)
      cases h2
      rw [intsO_eq h1]; rfl
    | _ => cases h
theorem intsO_map : ∀ is : List Int, intsO (is.map D.int) = some is
  | [] => rfl
  | i :: is => by
    show (intsO (is.map D.int)).bind (fun l => some (i :: l)) = _
    rw [intsO_map is]; rfl
theorem ints_vr {K : PySem.W.Frag} {β : List Addr} {H : Hp} : ∀ {is : List Int} {vs : List V}, VRs K β H (is.map D.int) vs → vs = is.map V.int
  | [], vs, r => VRs.nil.mp r
  | i :: is, vs, r => by
    obtain ⟨v, r', rfl, h1, h2⟩ := VRs.cons.mp r
    cases VR.int.mp h1
    rw [ints_vr h2]; rfl
def minI (x : Int) (xs : List Int) : Int := xs.foldl (fun a y => if y < a then y else a) x
def maxI (x : Int) (xs : List Int) : Int := xs.foldl (fun a y => if a < y then y else a) x
theorem minI_data : ∀ (xs : List Int) (x : Int), PySem.W.minD (PyData.int x) (xs.map PyData.int) = PyData.int (minI x xs)
  | [], x => rfl
  | y :: ys, x => by
    unfold PySem.W.minD minI
    rw [List.map_cons, List.foldl_cons, List.foldl_cons, show (if PySem.W.dataLt (PyData.int y) (PyData.int x) = true then PyData.int y else PyData.int x) = PyData.int (if y < x then y else x) by rw [PySem.W.dataLt_int]; simp only [decide_eq_true_eq]; split <;> rfl]
    exact minI_data ys _
theorem maxI_data : ∀ (xs : List Int) (x : Int), PySem.W.maxD (PyData.int x) (xs.map PyData.int) = PyData.int (maxI x xs)
  | [], x => rfl
  | y :: ys, x => by
    unfold PySem.W.maxD maxI
    rw [List.map_cons, List.foldl_cons, List.foldl_cons, show (if PySem.W.dataLt (PyData.int x) (PyData.int y) = true then PyData.int y else PyData.int x) = PyData.int (if x < y then y else x) by rw [PySem.W.dataLt_int]; simp only [decide_eq_true_eq]; split <;> rfl]
    exact maxI_data ys _
def mmInts (mx : Bool) (xs : List D) (st : Sto) : R D := match intsO xs with
  | some (i :: is) => .ok (.int (if mx = true then maxI i is else minI i is)) st
  | _ => .bad
def mmI (mx : Bool) (f : List D → Sto → R D) (ds : List D) (st : Sto) : R D := match ds with
  | [.tup xs] => mmInts mx xs st
  | [.frz xs] => mmInts mx xs st
  | [.loc n] => match st[n]? with
    | some (.lst xs) => mmInts mx xs st
    | _ => .bad
  | ds => f ds st
theorem ints_depth : ∀ is : List Int, PyData.depthAll (is.map PyData.int) ≤ 1
  | [] => by simp [PyData.depthAll]
  | i :: is => by
    have := ints_depth is
    simp only [List.map_cons, PyData.depthAll, PyData.depth]
    omega
theorem mmI_one {pins : List (Addr × Obj)} {s : Shared} {σ : L2.St} {H : Hp} {Q : VK} {β : List Addr} {st : Sto} {xs : List D} {vs : List V} {us : List Value} {a : Addr} {mx : Bool} (hc : X.calm = true) (hu : X.A.units + 64 < cLine) (I : Inv X pins σ H s) (S : Sim X.K X.mg β st H)
    (hl : s.heap.IsList a us.toArray ∨ s.heap.IsTuple a us.toArray) (rv : Vals vs us) (rd : VRs X.K β H xs vs) (p : PostA X.K X.mg W σ (okE X.K Q) β H (mmInts mx xs st)) : wpAny (model X.prog X.w) X.A (call (.builtin (if mx = true then "max" else "min")) [.ref a]) (EP X pins σ Q) X.xe s := by
  unfold mmInts at p
  split at p
  · rename_i i is e
    have ex := intsO_eq e
    subst ex
    have ev := ints_vr rd
    subst ev
    obtain ⟨as, hr⟩ := Dp.readsAll I _ _ _ (dp_ints (K := X.K) (H := H) (i :: is)) rv
    rw [List.map_cons] at hr
    have hr' : ReadsAll s.heap us.toArray.toList (PyData.int i :: is.map PyData.int) as := by simpa using hr
    have al : PySem.W.AlikeAll (PyData.int i :: is.map PyData.int) := by
      refine ⟨fun q hq t ht => ?_, fun q hq => ?_⟩
      · rw [← List.map_cons] at hq ht
        obtain ⟨d, hd, rfl⟩ := List.mem_map.mp hq
        obtain ⟨e, he, rfl⟩ := List.mem_map.mp ht
        rfl
      · rw [← List.map_cons] at hq
        obtain ⟨d, hd, rfl⟩ := List.mem_map.mp hq
        exact fun z => by cases z
    have dep := ints_depth (i :: is)
    rw [List.map_cons] at dep
    have fin2 : ∀ (y : Int) (j : Nat) (u : Value) (h' : Heap) (tk : Nat) (bs : List Addr), Reads h' u (PyData.int y) bs → (∀ b o, s.heap.get? b = some o → h'.get? b = some o) → Q (.int y) H → EP X pins σ Q u { s with heap := h', toks := tk } := fun y j u h' tk bs hrd kp hq => by
      cases hrd
      exact ⟨.int y, H, I.kept (t' := tk) kp, ⟨_, rfl⟩, hq⟩
    cases mx with
    | true =>
      have hq : Q (.int (maxI i is)) H := p β H (Ext.refl _ _) S (.int (maxI i is)) (VR.int.mpr rfl)
      rcases hl with hl | hl
      · exact PySem.W.max_list_data (I.ok.hd hc) hl hr' al (by omega) fun i u h' tk bs hi hrd kp => fin2 _ i u h' tk bs (by rw [← maxI_data]; exact hrd) kp hq
      · exact PySem.W.max_tuple_data (I.ok.hd hc) hl hr' al (by omega) fun i u h' tk bs hi hrd kp => fin2 _ i u h' tk bs (by rw [← maxI_data]; exact hrd) kp hq
    | false =>
      have hq : Q (.int (minI i is)) H := p β H (Ext.refl _ _) S (.int (minI i is)) (VR.int.mpr rfl)
      rcases hl with hl | hl
      · exact PySem.W.min_list_data (I.ok.hd hc) hl hr' al (by omega) fun i u h' tk bs hi hrd kp => fin2 _ i u h' tk bs (by rw [← minI_data]; exact hrd) kp hq
      · exact PySem.W.min_tuple_data (I.ok.hd hc) hl hr' al (by omega) fun i u h' tk bs hi hrd kp => fin2 _ i u h' tk bs (by rw [← minI_data]; exact hrd) kp hq
  · exact p.elim
theorem c_mmI {mx : Bool} {f : List D → Sto → R D} (hc : X.calm = true) (hu : X.A.units + 64 < cLine) (hf : CallS X W (.builtin (if mx = true then "max" else "min")) f) : CallS X W (.builtin (if mx = true then "max" else "min")) (mmI mx f) := fun pins s σ H xs us Q β st ds I r S rd p => by
  have lst : ∀ {a : Addr} {ys : List D} {ws : List V} {z : List Value}, SqL X.K H a ws → VRs X.K β H ys ws → Vals [V.ref a] z → PostA X.K X.mg W σ (okE X.K Q) β H (mmInts mx ys st) → wpAny (model X.prog X.w) X.A (call (.builtin (if mx = true then "max" else "min")) z) (EP X pins σ Q) X.xe s := fun h1 h2 rz q => by
    obtain ⟨u, rfl, ru⟩ := vals1 rz
    cases ru
    obtain ⟨its, rv, hl, hz⟩ := I.list h1
    exact mmI_one hc hu I S (.inl hl.isList) rv h2 q
  unfold mmI at p
  split at p
  · obtain ⟨v, rfl, r1⟩ := rd.one
    obtain ⟨a, ws, rfl, h1, h2⟩ := VR.tupS r1
    obtain ⟨u, rfl, ru⟩ := vals1 r
    cases ru
    obtain ⟨its, rv, ⟨o, ho, hc', n, hd⟩, hz⟩ := I.tuple h1
    exact mmI_one hc hu I S (.inr ⟨o, ho, hc', n, hd⟩) rv h2 p
  · obtain ⟨v, rfl, r1⟩ := rd.one
    obtain ⟨a, ws, rfl, h1, h2⟩ := VR.frz.mp r1
    exact lst h1.sq h2 r p
  · obtain ⟨v, rfl, r1⟩ := rd.one
    obtain ⟨a, h1, rfl⟩ := VR.loc.mp r1
    obtain ⟨o, h2, h3⟩ := S.at h1
    simp only [h2] at p
    cases o with
    | lst ys => obtain ⟨ws, h4, h5⟩ := h3; exact lst (SqL.of h4) h5 r p
    | _ => exact p.elim
  · exact hf pins s σ H xs us Q β st ds I r S rd p
theorem c_minI (hc : X.calm = true) (hu : X.A.units + 64 < cLine) : CallS X W (.builtin "min") (mmI false minF) := c_mmI (mx := false) hc hu (f_min hc)
theorem c_maxI (hc : X.calm = true) (hu : X.A.units + 64 < cLine) : CallS X W (.builtin "max") (mmI true maxF) := c_mmI (mx := true) hc hu (f_max hc)

/-! ### sorted of ints -/
def sortIs (is : List Int) : List Int := is.mergeSort fun a b => decide (a ≤ b)
def sortInts (xs : List D) (st : Sto) : R D := match intsO xs with
  | some is => .ok (.loc st.length) (st ++ [.lst ((sortIs is).map D.int)])
  | none => .bad
def sortI (ds : List D) (st : Sto) : R D := match ds with
  | [.tup xs] => sortInts xs st
  | [.frz xs] => sortInts xs st
  | [.loc n] => match st[n]? with
    | some (.lst xs) => sortInts xs st
    | _ => .bad
  | _ => .bad
theorem vrs_ints {K : PySem.W.Frag} {β : List Addr} {H : Hp} : ∀ is : List Int, VRs K β H (is.map D.int) (is.map V.int)
  | [] => VRs.nil.mpr rfl
  | i :: is => VRs.cons.mpr ⟨.int i, is.map V.int, rfl, VR.int.mpr rfl, vrs_ints is⟩
theorem sortI_one {pins : List (Addr × Obj)} {s : Shared} {σ : L2.St} {H : Hp} {Q : VK} {β : List Addr} {st : Sto} {xs : List D} {vs : List V} {us : List Value} {a : Addr} {T : String} {o : Obj} {n : Nat} (I : Inv X pins σ H s) (S : Sim X.K X.mg β st H) (hT : T = "list" ∨ T = "tuple") (ho : s.heap.get? a = some o) (hc : o.cls = .type T) (hd : o.data = .seq us.toArray n)
    (rv : Vals vs us) (rd : VRs X.K β H xs vs) (hz : us.length ≤ sizeLine) (p : PostA X.K X.mg W σ (okE X.K Q) β H (sortInts xs st)) : wpAny (model X.prog X.w) X.A (call (.builtin "sorted") [.ref a]) (EP X pins σ Q) X.xe s := by
  unfold sortInts at p
  split at p
  · rename_i is e
    have ex := intsO_eq e
    subst ex
    have ev := ints_vr rd
    subst ev
    have hi := rv.ints
    refine sorted_seq hT ho hc hd SrtO.swo_int hz (fun h2 h1 b hb' keep => SrtO.ints_sortable hi h2) fun h1 h' d out hs hp kp1 kp2 hd' hn => ?_
    obtain ⟨k1, k2, k3⟩ := SrtO.ints_out hi hs hp
    have e : out.map SrtO.iv = sortIs is := by
      refine (k2.trans (List.mergeSort_perm is _).symm).eq_of_pairwise (le := fun a b => a ≤ b) (fun a b _ _ h1 h2 => by omega) k3 ?_
      have := List.pairwise_mergeSort (le := fun a b : Int => decide (a ≤ b)) (fun a b c h1 h2 => by simp only [decide_eq_true_eq] at *; omega) (fun a b => by simp only [Bool.or_eq_true, decide_eq_true_eq]; omega) is
      exact this.imp fun h => of_decide_eq_true h
    obtain ⟨m, hn⟩ := hn
    have I1 := I.kept (t' := s.toks) kp1
    have hf : H d = none := I1.hok.fresh hd'
    have hl : ((out.map SrtO.iv).map V.int).length ≤ sizeLine := by
      rw [List.length_map, List.length_map, hp.len]; exact hz
    have J : Inv X pins σ (upd H d (.lst ((out.map SrtO.iv).map V.int))) { s with heap := h', toks := s.toks } := I1.laid (t' := s.toks) kp2 hd' ⟨hl, out, m, vals_of_ints k1, hn⟩
    have ex := ext_new (β := β) (o := .lst ((out.map SrtO.iv).map V.int)) hf
    rw [e] at J ex
    exact ⟨.ref d, _, J, rfl, p _ _ ex (S.push hf ⟨_, upd_same, vrs_ints _⟩) _ (VR.loc.mpr ⟨d, by rw [← S.len]; simp, rfl⟩)⟩
  · exact p.elim
theorem c_sortI : CallS X W (.builtin "sorted") sortI := fun pins s σ H xs us Q β st ds I r S rd p => by
  unfold sortI at p
  have lst : ∀ {a : Addr} {ys : List D} {ws : List V} {z : List Value}, SqL X.K H a ws → VRs X.K β H ys ws → Vals [V.ref a] z → PostA X.K X.mg W σ (okE X.K Q) β H (sortInts ys st) → wpAny (model X.prog X.w) X.A (call (.builtin "sorted") z) (EP X pins σ Q) X.xe s := fun h1 h2 rz q => by
    obtain ⟨u, rfl, ru⟩ := vals1 rz
    cases ru
    obtain ⟨its, rv, hl, hz⟩ := I.list h1
    obtain ⟨o, ho, hc, n, hd⟩ := hl.isList
    exact sortI_one I S (.inl rfl) ho hc hd rv h2 (by rw [← rv.length]; exact hz) q
  split at p
  · obtain ⟨v, rfl, r1⟩ := rd.one
    obtain ⟨a, ws, rfl, h1, h2⟩ := VR.tupS r1
    obtain ⟨u, rfl, ru⟩ := vals1 r
    cases ru
    obtain ⟨its, rv, ⟨o, ho, hc, n, hd⟩, hz⟩ := I.tuple h1
    exact sortI_one I S (.inr rfl) ho hc hd rv h2 (by rw [← rv.length]; exact hz) p
  · obtain ⟨v, rfl, r1⟩ := rd.one
    obtain ⟨a, ws, rfl, h1, h2⟩ := VR.frz.mp r1
    exact lst h1.sq h2 r p
  · obtain ⟨v, rfl, r1⟩ := rd.one
    obtain ⟨a, h1, rfl⟩ := VR.loc.mp r1
    obtain ⟨o, h2, h3⟩ := S.at h1
    simp only [h2] at p
    cases o with
    | lst ys => obtain ⟨ws, h4, h5⟩ := h3; exact lst (SqL.of h4) h5 r p
    | _ => exact p.elim
  · exact p.elim
end
end L3
namespace L3
open PySem PySem.Spec PyProof.Rows L2
/-! ### a text against any value -/
section
variable {A : Around} {s : Shared}
theorem str_eq_declines_dict (b : Str) (u : Tok) (l : Addr) (c : Value) (es : Array DictEntry) (ep : Nat) (dd : Option Addr) (sl : Array (Option Value)) :
    Meets (Builtin.«str.__eq__» ⟨[.str b u, .ref l], []⟩) (fun _ R s => s.heap.get? l = some { cls := c, dict := dd, data := .dict es ep, slots := sl } ∧ R (.ok (.ret .notImplemented)) s) :=
  .of_wp fun prog w A R s h => by obtain ⟨hp, g, d, tk, os⟩ := s; obtain ⟨hl, h⟩ := h; wp_walk using wpAny_loadPart' hl, wpAny_load hl; exact ⟨_, rfl, h⟩
theorem dict_eq_declines_str (l : Addr) (es : Array DictEntry) (ep : Nat) (dd : Option Addr) (sl : Array (Option Value)) (b : Str) (u : Tok) :
    Meets (Builtin.«dict.__eq__» ⟨[.ref l, .str b u], []⟩) (fun _ R s => s.heap.get? l = some { cls := .type "dict", dict := dd, data := .dict es ep, slots := sl } ∧ R (.ok (.ret .notImplemented)) s) :=
  .of_wp fun prog w A R s h => by obtain ⟨hp, g, d, tk, os⟩ := s; obtain ⟨hl, h⟩ := h; have f1 := F.sub_str_dict; wp_walk using wpAny_loadPart' hl; exact ⟨_, rfl, h⟩
theorem RcAt.str_dict {l : Addr} {o : Obj} {es : Array DictEntry} {ep : Nat} (b : Str) (u : Tok) (hl : s.heap.get? l = some o) (hc : o.cls = .type "dict") (hd : o.data = .dict es ep) (hu : A.units < cLine) : SeqAt.RcAt A s (.str b u) (.ref l) false := fun prog w E Q h => by
  obtain ⟨cls, dd, data, sl⟩ := o
  simp only at hc hd
  subst hc hd
  exact SeqAt.rc_eq_decline_or (k := false) (typeIs_str s b u) ⟨_, hl, rfl⟩ (by decide) F.sub_dict_str F.slot_str_eq F.slot_dict_eq_refl
    (fun _ hq => call_meets F.slot_str_eq (typeIs_str s b u) F.entry_str_eq (F.args_str_eq_2 _ _) (str_eq_declines_dict b u l (.type "dict") es ep dd sl) ⟨hl, hq⟩)
    (fun _ hq => call_meets F.slot_dict_eq_refl ⟨_, hl, rfl⟩ F.entry_dict_eq (F.args_dict_eq_2 _ _) (dict_eq_declines_str l es ep dd sl b u) ⟨hl, hq⟩)
    (fun _ hq => wpAny_of_eq (rfl : isSame (.str b u) (.ref l) = pure false) hq) (.inr hu) h
theorem EqAt.str_dict {l : Addr} {o : Obj} {es : Array DictEntry} {ep : Nat} (b : Str) (u : Tok) (hl : s.heap.get? l = some o) (hc : o.cls = .type "dict") (hd : o.data = .dict es ep) (hu : A.units < cLine) : SeqAt.EqAt A s (.str b u) (.ref l) false := fun prog w E Q h => by
  unfold eqBool
  refine wpAny_holding ?_
  refine wpAny_ite_split (fun hab => absurd (eq_of_beq hab) nofun) (fun _ => ?_)
  exact wpAny_bind (RcAt.str_dict b u hl hc hd hu prog w E _ (wpAny_truthy_bool h))
end
/-- whether it is this text -/
def isT (d : D) (b : Str) : Bool := match d with
  | .str y => b == y
  | _ => false
/-- of which this can be said -/
def plW (d : D) (st : Sto) : Bool := match d with
  | .cls _ => false
  | .lam _ _ _ => false
  | .fn _ _ => false
  | .fdk _ _ => false
  | .loc n => match st[n]? with
    | some (.lst _) => true
    | some (.dK _) => true
    | _ => false
  | _ => true
section
variable {X : Cx} {W : WX}
theorem eqAt_text {A : Around} {pins : List (Addr × Obj)} {s : Shared} {σ : L2.St} {H : Hp} {β : List Addr} {st : Sto} (I : Inv X pins σ H s) (S : Sim X.K X.mg β st H) (b : Str) (t : Tok) {d : D} {v : V} {u : Value} (hd : plW d st = true) (r : VR X.K β H d v) (ru : RelV v u) (hu : A.units < cLine) : SeqAt.EqAt A s (.str b t) u (isT d b) := by
  have lst : ∀ {a : Addr} {ws : List V}, SqL X.K H a ws → SeqAt.EqAt A s (.str b t) (.ref a) false := fun h => by
    obtain ⟨its, rv, hl, _⟩ := I.list h
    exact SeqAt.EqAt.str_list b t hl.isList hu
  cases d with
  | non => cases VR.non.mp r; cases ru; exact SeqAt.EqAt.str_none b t
  | bl k => cases VR.bl.mp r; cases ru; exact SeqAt.EqAt.str_bool b t k
  | int i => cases VR.int.mp r; obtain ⟨q, rfl⟩ := (show ∃ q, u = Value.int i q from ru); exact SeqAt.EqAt.str_int b t i q
  | str y => cases VR.str.mp r; obtain ⟨q, rfl⟩ := (show ∃ q, u = Value.str y q from ru); exact SeqAt.EqAt.str_str b t y q
  | tup xs =>
    obtain ⟨a, vs, rfl, h1, h2⟩ := VR.tupS r
    cases ru
    obtain ⟨its, rv, hl, _⟩ := I.tuple h1
    exact SeqAt.EqAt.str_tuple b t hl hu
  | frz xs =>
    obtain ⟨a, vs, rfl, h1, h2⟩ := VR.frz.mp r
    cases ru
    exact lst h1.sq
  | cls a => cases hd
  | lam _ _ _ => cases hd
  | fn _ _ => cases hd
  | fdk _ _ => cases hd
  | loc n =>
    obtain ⟨a, h1, rfl⟩ := VR.loc.mp r
    cases ru
    obtain ⟨o, h2, h3⟩ := S.at h1
    simp only [plW, h2] at hd
    cases o with
    | lst ys => obtain ⟨ws, h4, h5⟩ := h3; exact lst (SqL.of h4)
    | dK ks =>
      obtain ⟨ws, h4, h5⟩ := h3
      obtain ⟨_, _, vs, _, o, es, ep, g1, g2, g3, _⟩ := (show ObjOk X.prog X.w H s.heap a (.dK ws) from I.hok a _ h4)
      exact EqAt.str_dict b t g1 g2.1 g3 hu
    | _ => cases hd
end
end L3
namespace L3
open PySem PySem.Spec PyProof.Rows L2
/-- x in a tuple of texts, x any value -/
def inW (neg : Bool) (x y : D) (st : Sto) : R D := match y with
  | .tup ys => match strsO ys with
    | some ss => if plW x st = true then .ok (.bl (neg != ss.any fun b => isT x b)) st else .bad
    | none => .bad
  | _ => .bad
theorem strsO_eq : ∀ {xs : List D} {is : List Str}, strsO xs = some is → xs = is.map D.str
  | [], is, h => by cases h; rfl
  | d :: ds, is, h => by
    cases d with
    | str i =>
      obtain ⟨l, h1, h2⟩ := Option.bind_eq_some_iff.mp (show (strsO ds).bind (fun l => some (i :: l)) = some is from h)
      cases h2
      rw [strsO_eq h1]; rfl
    | _ => cases h
theorem strs_vr {K : PySem.W.Frag} {β : List Addr} {H : Hp} : ∀ {is : List Str} {vs : List V}, VRs K β H (is.map D.str) vs → vs = is.map V.str
  | [], vs, r => VRs.nil.mp r
  | i :: is, vs, r => by
    obtain ⟨v, r', rfl, h1, h2⟩ := VRs.cons.mp r
    cases VR.str.mp h1
    rw [strs_vr h2]; rfl
def isTv (d : D) (v : Value) : Bool := match v with
  | .str b _ => isT d b
  | _ => false
theorem any_texts {d : D} : ∀ {ss : List Str} {us : List Value}, Vals (ss.map V.str) us → us.any (isTv d) = ss.any fun b => isT d b
  | [], us, h => by cases h; rfl
  | b :: ss, us, h => by
    obtain ⟨u, r, rfl, h1, h2⟩ := vals_cons h
    obtain ⟨t, rfl⟩ := (show ∃ t, u = Value.str b t from h1)
    rw [List.any_cons, List.any_cons, any_texts h2]; rfl
theorem mem_texts : ∀ {ss : List Str} {us : List Value}, Vals (ss.map V.str) us → ∀ u ∈ us, ∃ b t, u = Value.str b t
  | [], us, h, u, hu => by cases h; cases hu
  | b :: ss, us, h, u, hu => by
    obtain ⟨u', r, rfl, h1, h2⟩ := vals_cons h
    obtain ⟨t, rfl⟩ := (show ∃ t, u' = Value.str b t from h1)
    rcases List.mem_cons.mp hu with rfl | hu
    · exact ⟨b, t, rfl⟩
    · exact mem_texts h2 u hu
section
variable {X : Cx} {W : WX}
theorem o_inW (hu : X.A.units + 65 < cLine) : OpS X W (compareOp .In) (inW false) := fun pins s σ H x y v u Q β st dx dy I r1 r2 S rx ry p => by
  unfold inW at p
  split at p
  · split at p
    · rename_i ys ss e
      split at p
      · rename_i hp
        have e := strsO_eq e
        subst e
        obtain ⟨a, vs, rfl, h1, h2⟩ := VR.tupS ry
        cases r2
        obtain ⟨its, rv, hl, hz⟩ := I.tuple h1
        have ev := strs_vr h2
        subst ev
        have hq : Q (.bl (ss.any fun b => isT dx b)) H := by
          have := p β H (Ext.refl _ _) S _ (VR.bl.mpr rfl)
          simpa using this
        refine SeqAt.in_tupleAt (isTv dx) hl (fun w hw => ?_) ⟨.bl _, H, I, rfl, ?_⟩
        · obtain ⟨b, t, rfl⟩ := mem_texts rv w (by simpa using hw)
          exact eqAt_text I S b t hp rx r1 (by show X.A.units + 1 < cLine; omega)
        · rw [show its.toArray.any (isTv dx) = its.any (isTv dx) by simp, any_texts rv]
          exact hq
      · exact p.elim
    · exact p.elim
  · exact p.elim
theorem o_notInW (hu : X.A.units + 65 < cLine) : OpS X W (compareOp .NotIn) (inW true) := fun pins s σ H x y v u Q β st dx dy I r1 r2 S rx ry p => by
  unfold inW at p
  split at p
  · split at p
    · rename_i ys ss e
      split at p
      · rename_i hp
        have e := strsO_eq e
        subst e
        obtain ⟨a, vs, rfl, h1, h2⟩ := VR.tupS ry
        cases r2
        obtain ⟨its, rv, hl, hz⟩ := I.tuple h1
        have ev := strs_vr h2
        subst ev
        have hq : Q (.bl (!ss.any fun b => isT dx b)) H := by
          have := p β H (Ext.refl _ _) S _ (VR.bl.mpr rfl)
          simpa using this
        refine SeqAt.notIn_tupleAt (isTv dx) hl (fun w hw => ?_) ⟨.bl _, H, I, rfl, ?_⟩
        · obtain ⟨b, t, rfl⟩ := mem_texts rv w (by simpa using hw)
          exact eqAt_text I S b t hp rx r1 (by show X.A.units + 1 < cLine; omega)
        · rw [show its.toArray.any (isTv dx) = its.any (isTv dx) by simp, any_texts rv]
          exact hq
      · exact p.elim
    · exact p.elim
  · exact p.elim
end
end L3

/-! Lists that nobody changes: as values, without a place in the store. -/
namespace L3
open PySem PySem.Spec PyProof.Rows L2
/-- Q, or Q once the list that came is locked -/
def FQ (Q : VK) : VK := fun x H => Q x H ∨ ∃ q vs, x = .ref q ∧ H q = some (.lst vs) ∧ ∀ o, Q x (upd H q (.frz o (.lst vs)))
section
variable {X : Cx} {W : WX}
theorem EP_fz {pins : List (Addr × Obj)} {σ : L2.St} {Q : VK} {v : Value} {s : Shared} (h : EP X pins σ (FQ Q) v s) : EP X pins σ Q v s := by
  obtain ⟨x, H, I, r, q⟩ := h
  rcases q with q | ⟨a, vs, rfl, hl, q⟩
  · exact ⟨x, H, I, r, q⟩
  · obtain ⟨o, J⟩ := I.lock hl trivial
    exact ⟨_, _, J, r, q o⟩
theorem PE.fz {e : Expr} {t : TE} (h : PE X e t) : PE X e fun σ H Q => t σ H (FQ Q) :=
  ⟨fun pins s σ H Q I p => thn (h.run pins s σ H (FQ Q) I p) fun v s' q => EP_fz q⟩
theorem CallS.ofF {F : Value} {r : List V → Hp → VK → Prop} {f : List D → Sto → R D} (h : CallR X F r)
    (i : ∀ (σ : L2.St) (H : Hp) (xs : List V) (Q : VK) (β : List Addr) (st : Sto) (ds : List D), Sim X.K X.mg β st H → VRs X.K β H ds xs → PostA X.K X.mg W σ (okE X.K Q) β H (f ds st) → r xs H (FQ Q)) : CallS X W F f :=
  fun pins s σ H xs us Q β st ds I rx S vx p => thn (h pins s σ H xs us (FQ Q) I rx (i σ H xs Q β st ds S vx p)) fun v s' q => EP_fz q
theorem OpS.ofF {F : Value → Value → Sem Value} {r : R2} {f : D → D → Sto → R D} (h : OpR X F r)
    (i : ∀ (σ : L2.St) (H : Hp) (x y : V) (Q : VK) (β : List Addr) (st : Sto) (dx dy : D), Sim X.K X.mg β st H → VR X.K β H dx x → VR X.K β H dy y → PostA X.K X.mg W σ (okE X.K Q) β H (f dx dy st) → r x y H (FQ Q)) : OpS X W F f :=
  fun pins s σ H x y v u Q β st dx dy I rx ry S vx vy p => thn (h pins s σ H x y v u (FQ Q) I rx ry (i σ H x y Q β st dx dy S vx vy p)) fun v s' q => EP_fz q
/-- a new list, locked -/
theorem newFz {σ : L2.St} {Q : VK} {β : List Addr} {st : Sto} {H : Hp} {ds : List D} {vs : List V} {q : Addr} (S : Sim X.K X.mg β st H) (r : VRs X.K β H ds vs) (hq : H q = none) (p : PostA X.K X.mg W σ (okE X.K Q) β H (.ok (.frz ds) st)) :
    FQ Q (.ref q) (upd H q (.lst vs)) := by
  refine .inr ⟨q, vs, rfl, upd_same, fun o => ?_⟩
  rw [upd_upd]
  exact p β _ (ext_new0 hq) (S.new0 hq) _ (VR.frz.mpr ⟨q, vs, rfl, .inl ⟨o, upd_same⟩, VRs.mono (ext_new0 hq) _ _ r⟩)
variable {tg e a b c iter elt : Expr} {es ifs rest : List Expr} {body : List Stmt} {pos p : Pos} {ka kb kcc ke : KE} {kt kt' : KT} {kas : KA} {ks : KS} {ki : KI}
def frzF (xs : List D) (st : Sto) : R D := if xs.length ≤ 16777216 then .ok (.frz xs) st else .bad
theorem q_frz (h : PA X es (liftA X.K X.mg W kas)) : PE X (.List es pos) (lift X.K X.mg W (kF frzF kas)) :=
  PE.imp (PE.fz (pe_lst h)) fun σ H Q ⟨β, ρ, st, S, E, p⟩ => liftA.bind S E p fun ds vs β1 H1 st1 e1 S1 E1 r1 p1 => by
    unfold frzF at p1
    split at p1
    · rename_i hz
      exact ⟨by rw [r1.length]; exact szl hz, fun q hq => newFz S1 r1 hq p1⟩
    · exact p1.elim
/-- list(x) -/
def listZ (ds : List D) (st : Sto) : R D := match ds with
  | [.tup xs] => .ok (.frz xs) st
  | [d] => match itemsD d st with
    | some xs => .ok (.frz xs) st
    | none => .bad
  | _ => .bad
theorem f_listZ : CallS X W (.type "list") listZ := CallS.ofF call_list_of fun σ H xs Q β st ds S r p => by
  unfold listZ at p
  split at p
  · obtain ⟨v, rfl, h⟩ := r.one
    obtain ⟨a, vs, rfl, h1, h2⟩ := VR.tupS h
    exact ⟨a, vs, rfl, .inr h1, fun q hq => newFz S h2 hq p⟩
  · obtain ⟨v, rfl, h⟩ := r.one
    split at p
    · rename_i hi
      obtain ⟨a, vs, rfl, h1, h2⟩ := items_rel S h hi
      exact ⟨a, vs, rfl, .inl h1, fun q hq => newFz S h2 hq p⟩
    · exact p.elim
  · exact p.elim
/-- x[i:j] -/
def slZ (d : D) (lo hi : Option Int) (st : Sto) : R D := match d with
  | .tup xs => .ok (.tup (cutD xs lo hi)) st
  | .str x => if x.length ≤ 16777216 then .ok (.str (cutS x lo hi)) st else .bad
  | d => match itemsD d st with
    | some xs => .ok (.frz (cutD xs lo hi)) st
    | none => .bad
def kSz (a : KE) (lo hi : Env3 → Sto → R (Option Int)) : KE := fun ρ st => (a ρ st).bind fun d st1 => (lo ρ st1).bind fun l st2 => (hi ρ st2).bind fun u st3 => slZ d l u st3
theorem slZ_lst {σ : L2.St} {H : Hp} {Q : VK} {β : List Addr} {st : Sto} {d : D} {v : V} {l u : Option Int} (S : Sim X.K X.mg β st H) (r : VR X.K β H d v) (p : PostA X.K X.mg W σ (okE X.K Q) β H (match itemsD d st with | some xs => .ok (.frz (cutD xs l u)) st | none => .bad)) :
    ∃ q vs, v = .ref q ∧ SqL X.K H q vs ∧ ∀ z, H z = none → FQ Q (.ref z) (upd H z (.lst (cutV vs l u))) := by
  split at p
  · rename_i hi
    obtain ⟨q, vs, rfl, h1, h2⟩ := items_rel S r hi
    exact ⟨q, vs, rfl, h1, fun z hz => newFz S (cutD_rel h2 l u) hz p⟩
  · exact p.elim
theorem q_sliceZ {lo hi : Option Expr} {p2 : Pos} {kl kh : Env3 → Sto → R (Option Int)} (he : PE X a (lift X.K X.mg W ka)) (hl : PO X lo (liftO X.K X.mg W kl)) (hu : PO X hi (liftO X.K X.mg W kh)) : PE X (.Subscript a (.Slice lo hi none p2) pos) (lift X.K X.mg W (kSz ka kl kh)) :=
  PE.imp (PE.fz (pe_slice (sl_tupA.or (sl_list.or sl_str)) he hl hu)) fun σ H Q ⟨β, ρ, st, S, E, p⟩ => lift.bind S E p fun d v β1 H1 st1 e1 S1 E1 r1 p1 =>
    liftO.bind S1 E1 p1 fun l β2 H2 st2 e2 S2 E2 p2 => liftO.bind S2 E2 p2 fun u β3 H3 st3 e3 S3 E3 p3 => by
      have r3 := VR.mono e3 _ _ (VR.mono e2 _ _ r1)
      cases d with
      | tup xs =>
        obtain ⟨q, vs, rfl, h1, h2⟩ := VR.tup.mp r3
        refine .inl ⟨q, vs, rfl, .inl (.inl h1), fun hw => ?_, fun _ z hz => ?_⟩
        · refine .inl (p3 β3 H3 (Ext.refl _ _) S3 _ (VR.tup.mpr ⟨q, vs, rfl, h1, ?_⟩))
          have hc : cutD xs l u = xs := by
            unfold cutD
            rw [← h2.length, hw.1, hw.2, List.drop_zero, Nat.sub_zero, h2.length]
            exact List.take_length
          rw [hc]; exact h2
        · exact .inl (p3 β3 _ (ext_new0 hz) (S3.new0 hz) _ (VR.tup.mpr ⟨z, _, rfl, upd_same, VRs.mono (ext_new0 hz) _ _ (cutD_rel h2 l u)⟩))
      | str x =>
        unfold slZ at p3
        simp only at p3
        split at p3
        · rename_i hz
          exact .inr (.inr ⟨x, VR.str.mp r3, szl hz, .inl (p3 β3 H3 (Ext.refl _ _) S3 _ (VR.str.mpr rfl))⟩)
        · exact p3.elim
      | frz xs =>
        obtain ⟨q, vs, rfl, h1, h2⟩ := slZ_lst S3 r3 p3
        exact .inr (.inl ⟨q, vs, rfl, h1, h2⟩)
      | loc n =>
        obtain ⟨q, vs, rfl, h1, h2⟩ := slZ_lst S3 r3 p3
        exact .inr (.inl ⟨q, vs, rfl, h1, h2⟩)
      | _ => exact p3.elim
/-- sorted(x) -/
def sortZ (ds : List D) (st : Sto) : R D := match ds with
  | [.tup xs] => match intsO xs with
    | some is => .ok (.frz ((sortIs is).map D.int)) st
    | none => .bad
  | [d] => match (itemsD d st).bind intsO with
    | some is => .ok (.frz ((sortIs is).map D.int)) st
    | none => .bad
  | _ => .bad
theorem sortZ_one {pins : List (Addr × Obj)} {s : Shared} {σ : L2.St} {H : Hp} {Q : VK} {β : List Addr} {st : Sto} {is : List Int} {us : List Value} {a : Addr} {T : String} {o : Obj} {n : Nat} (I : Inv X pins σ H s) (S : Sim X.K X.mg β st H) (hT : T = "list" ∨ T = "tuple") (ho : s.heap.get? a = some o) (hc : o.cls = .type T) (hd : o.data = .seq us.toArray n)
    (rv : Vals (is.map V.int) us) (hz : us.length ≤ sizeLine) (p : PostA X.K X.mg W σ (okE X.K Q) β H (.ok (.frz ((sortIs is).map D.int)) st)) : wpAny (model X.prog X.w) X.A (call (.builtin "sorted") [.ref a]) (EP X pins σ Q) X.xe s := by
  have hi := rv.ints
  refine thn (Q := EP X pins σ (FQ Q)) (sorted_seq hT ho hc hd SrtO.swo_int hz (fun h2 h1 b hb' keep => SrtO.ints_sortable hi h2) fun h1 h' d out hs hp kp1 kp2 hd' hn => ?_) fun v s' q => EP_fz q
  obtain ⟨k1, k2, k3⟩ := SrtO.ints_out hi hs hp
  have e : out.map SrtO.iv = sortIs is := by
    refine (k2.trans (List.mergeSort_perm is _).symm).eq_of_pairwise (le := fun a b => a ≤ b) (fun a b _ _ h1 h2 => by omega) k3 ?_
    have := List.pairwise_mergeSort (le := fun a b : Int => decide (a ≤ b)) (fun a b c h1 h2 => by simp only [decide_eq_true_eq] at *; omega) (fun a b => by simp only [Bool.or_eq_true, decide_eq_true_eq]; omega) is
    exact this.imp fun h => of_decide_eq_true h
  obtain ⟨m, hn⟩ := hn
  have I1 := I.kept (t' := s.toks) kp1
  have hf : H d = none := I1.hok.fresh hd'
  have hl : ((out.map SrtO.iv).map V.int).length ≤ sizeLine := by
    rw [List.length_map, List.length_map, hp.len]; exact hz
  have J : Inv X pins σ (upd H d (.lst ((out.map SrtO.iv).map V.int))) { s with heap := h', toks := s.toks } := I1.laid (t' := s.toks) kp2 hd' ⟨hl, out, m, vals_of_ints k1, hn⟩
  rw [e] at J
  exact ⟨.ref d, _, J, rfl, newFz S (vrs_ints _) hf p⟩
theorem c_sortZ : CallS X W (.builtin "sorted") sortZ := fun pins s σ H xs us Q β st ds I r S rd p => by
  unfold sortZ at p
  split at p
  · obtain ⟨v, rfl, r1⟩ := rd.one
    obtain ⟨a, ws, rfl, h1, h2⟩ := VR.tupS r1
    split at p
    · rename_i is e
      have e := intsO_eq e
      subst e
      have e := ints_vr h2
      subst e
      obtain ⟨u, rfl, ru⟩ := vals1 r
      cases ru
      obtain ⟨its, rv, ⟨o, ho, hc, n, hd⟩, hz⟩ := I.tuple h1
      exact sortZ_one I S (.inr rfl) ho hc hd rv (by rw [← rv.length]; exact hz) p
    · exact p.elim
  · obtain ⟨v, rfl, r1⟩ := rd.one
    split at p
    · rename_i is e
      obtain ⟨xs, e1, e2⟩ := Option.bind_eq_some_iff.mp e
      obtain ⟨a, ws, rfl, h1, h2⟩ := items_rel S r1 e1
      have e := intsO_eq e2
      subst e
      have e := ints_vr h2
      subst e
      obtain ⟨u, rfl, ru⟩ := vals1 r
      cases ru
      obtain ⟨its, rv, hl, hz⟩ := I.list h1
      obtain ⟨o, ho, hc, n, hd⟩ := hl.isList
      exact sortZ_one I S (.inl rfl) ho hc hd rv (by rw [← rv.length]; exact hz) p
    · exact p.elim
  · exact p.elim
/-! ### list + list -/
theorem list_add_any (l : Addr) (items : Array Value) (n : Nat) (b : Addr) (items2 : Array Value) (n2 : Nat) (sl sl2 : Array (Option Value)) (hc0 : items.size + items2.size ≤ sizeLine) :
    Meets (Builtin.«list.__add__» ⟨[.ref l, .ref b], []⟩) (fun _ R s => s.heap.get? l = some { cls := .type "list", dict := none, data := .seq items n, slots := sl } ∧ s.heap.get? b = some { cls := .type "list", dict := none, data := .seq items2 n2, slots := sl2 } ∧ R (.ok (.ret (Value.ref s.heap.objs.size))) { s with heap := s.heap.push { cls := Value.type "list", data := Data.seq (items ++ items2) }, toks := s.toks }) :=
  .of_wp fun prog w A R s h => by obtain ⟨hp, g, d, tk, os⟩ := s; obtain ⟨hl, hb, h⟩ := h; have f1 := AutoSeq1.idx_int; have f2 := AutoSeq1.sub_tuple_tuple; have f3 := AutoSeq1.sub_list_list; have f4 := AutoSeq1.sub_tuple_list; have f5 := AutoSeq1.sub_list_tuple; wp_walk using AutoSeq1.wpAny_loadPart' hl, AutoSeq1.wpAny_loadPart' hb; exact ⟨_, rfl, h⟩
def rCatS (K : PySem.W.Frag) : R2 := fun x y H Q => ∃ l b xs zs, x = .ref l ∧ y = .ref b ∧ SqL K H l xs ∧ SqL K H b zs ∧ xs.length + zs.length ≤ sizeLine ∧ ∀ p, H p = none → Q (.ref p) (upd H p (.lst (xs ++ zs)))
theorem op_catS : OpR X (binaryOp .Add) (rCatS X.K) := by
  intro pins s σ H x y v u Q I rx ry h
  obtain ⟨l, b, xs, zs, rfl, rfl, hH, hB, hz, q⟩ := h
  cases rx
  cases ry
  obtain ⟨its, r, ⟨⟨c1, d1, t1, sl⟩, n, e, g1, g2, g3⟩, hl⟩ := I.list hH
  obtain ⟨its2, r2, ⟨⟨c2, d2, t2, sl2⟩, n2, e2, k1, k2, k3⟩, hl2⟩ := I.list hB
  simp only at g1 g2 g3 k1 k2 k3
  subst g1 g2 g3 k1 k2 k3
  have hlen := r.length
  have hlen2 := r2.length
  have hsz : its.toArray.size + its2.toArray.size ≤ sizeLine := by rw [List.size_toArray, List.size_toArray]; omega
  have ea : its.toArray ++ its2.toArray = (its ++ its2).toArray := by simp
  refine concat_meets ⟨_, e, rfl⟩ ⟨_, e2, rfl⟩ noFill_list_add seq_list_add F.slot_list_add F.entry_list_add (F.args_list_add_2 _ _) (list_add_any l its.toArray n b its2.toArray n2 sl sl2 hsz) ⟨e, e2, ?_⟩
  rw [ea]
  exact ⟨.ref _, _, I.lnew (t' := s.toks) (r.append r2) (by rw [List.length_append]; omega), rfl, q _ I.fresh⟩
/-- +: a list that comes is locked -/
def addZ (x y : D) (st : Sto) : R D := match itemsD x st, itemsD y st with
  | some xs, some ys => if xs.length + ys.length ≤ 16777216 then .ok (.frz (xs ++ ys)) st else .bad
  | _, _ => addD x y st
theorem o_addZ : OpS X W (binaryOp .Add) addZ := fun pins s σ H x y v u Q β st dx dy I r1 r2 S rx ry p => by
  unfold addZ at p
  split at p
  · rename_i xs ys e1 e2
    split at p
    · rename_i hz
      obtain ⟨a, vs, rfl, h1, h2⟩ := items_rel S rx e1
      obtain ⟨b, ws, rfl, g1, g2⟩ := items_rel S ry e2
      exact thn (op_catS pins s σ H _ _ v u (FQ Q) I r1 r2 ⟨a, b, vs, ws, rfl, rfl, h1, g1, by rw [h2.length, g2.length]; exact szl hz, fun q hq => newFz S (h2.append g2) hq p⟩) fun v s' q => EP_fz q
    · exact p.elim
  · exact o_add pins s σ H x y v u Q β st dx dy I r1 r2 S rx ry p
/-- +: a list that comes is a new one of the store -/
def addL (x y : D) (st : Sto) : R D := match itemsD x st, itemsD y st with
  | some xs, some ys => if xs.length + ys.length ≤ 16777216 then .ok (.loc st.length) (st ++ [.lst (xs ++ ys)]) else .bad
  | _, _ => addD x y st
theorem o_addL : OpS X W (binaryOp .Add) addL := fun pins s σ H x y v u Q β st dx dy I r1 r2 S rx ry p => by
  unfold addL at p
  split at p
  · rename_i xs ys e1 e2
    split at p
    · rename_i hz
      obtain ⟨a, vs, rfl, h1, h2⟩ := items_rel S rx e1
      obtain ⟨b, ws, rfl, g1, g2⟩ := items_rel S ry e2
      exact op_catS pins s σ H _ _ v u Q I r1 r2 ⟨a, b, vs, ws, rfl, rfl, h1, g1, by rw [h2.length, g2.length]; exact szl hz, fun q hq => by obtain ⟨x1, x2, x3⟩ := newLst S (h2.append g2) hq; exact p _ _ x1 x2 _ x3⟩
    · exact p.elim
  · exact o_add pins s σ H x y v u Q β st dx dy I r1 r2 S rx ry p
/-! ### comprehensions -/
def kLz (vs : List Nat) (g : KG) (it : KI) (cnd : KT) (elt : KE) : KE := fun ρ st => (it ρ st).bind fun src st1 => (lcGo g cnd elt src (wipeD ρ vs) (src.fuel st1) 0 st1 []).bind fun acc st2 => .ok (.frz acc) st2
theorem lc_mainZ {is vs : List Nat} {t : TG} {g : KG} (kg : PGK X is g t) (hv : ∀ i ∈ is, i ∈ vs) {σ : L2.St} {H : Hp} {Q Q2 : VK} (hQ : ∀ x H, FQ Q x H → Q2 x H) (h : lift X.K X.mg W (kLz vs g ki kt ke) σ H Q) : tLc (liftI X.K X.mg W ki) t (liftT X.K X.mg W0 kt) (lift X.K X.mg W0 ke) vs σ H Q2 := by
  obtain ⟨β, ρ, st, S, E, p⟩ := h
  refine liftI.bind S E p fun src β1 H1 st1 J e1 S1 E1 hJ p1 => ?_
  intro D hD
  refine ⟨fun i m H => ∃ β st acc us, Ext β1 H1 β H ∧ Sim X.K X.mg β st H ∧ H D = some (.lst us) ∧ D ∉ β ∧ VRs X.K β H acc us ∧ PostA X.K X.mg W σ (okE X.K Q) β1 H1 ((lcGo g kt ke src (wipeD ρ vs) m i st acc).bind fun acc st2 => .ok (.frz acc) st2),
    ⟨_, β1, st1, [], [], ext_new0 hD, S1.new0 hD, upd_same, fun hm => ?_, VRs.nil.mpr rfl, p1⟩, ?_⟩
  · obtain ⟨n, hn, e⟩ := List.mem_iff_getElem.mp hm
    exact S1.fresh hD (n := n) (by rw [List.getElem?_eq_getElem hn, e])
  rintro i m H ⟨β, st, acc, us, ex, S, hl, hn, ra, p⟩
  cases m with
  | zero => exact p.elim
  | succ m =>
    unfold lcGo at p
    obtain ⟨j1, j2⟩ := hJ i β H st ex S
    cases hat : src.at st i with
    | none => simp only [hat] at p; exact p.elim
    | some o =>
      cases o with
      | none =>
        simp only [hat] at p
        refine .inl ⟨j2 hat, hQ _ _ (.inr ⟨D, us, rfl, hl, fun o => ?_⟩)⟩
        obtain ⟨S', e5⟩ := S.updOut (o := .frz o (.lst us)) hl hn
        exact p β _ (ex.updNew hD) S' _ (VR.frz.mpr ⟨D, us, rfl, .inl ⟨o, upd_same⟩, VRs.mono0 e5 _ _ ra⟩)
      | some d =>
        simp only [hat] at p
        obtain ⟨go, yl⟩ := j1 d hat
        refine .inr ⟨go, fun H' => ∃ β' st' acc' us', Ext β1 H1 β' H' ∧ Sim X.K X.mg β' st' H' ∧ H' D = some (.lst us') ∧ D ∉ β' ∧ VRs X.K β' H' acc' us' ∧ PostA X.K X.mg W σ (okE X.K Q) β1 H1 ((lcGo g kt ke src (wipeD ρ vs) m (i + 1) st' acc').bind fun acc st2 => .ok (.frz acc) st2),
          fun H' ⟨β', st', acc', us', q⟩ => ⟨m, Nat.lt_succ_self _, β', st', acc', us', q⟩, fun x H' y => ?_⟩
        obtain ⟨β2, e2, S2, r2⟩ := yl x H' y
        have stay : ∀ {βa βb : List Addr} {Ha Hb : Hp}, Ext βa Ha βb Hb → Ha D = some (.lst us) → D ∉ βa → Hb D = some (.lst us) ∧ D ∉ βb := fun ee hh hnn => ⟨ee.keep D _ hh hnn (fun _ z => by cases z), fun z => by
          rcases ee.new D z with z | z | ⟨ps, z⟩
          · exact hnn z
          · rw [hh] at z; cases z
          · rw [hh] at z; cases z⟩
        obtain ⟨hl2, hn2⟩ := stay e2 hl hn
        cases hgd : g d (wipeD ρ vs) with
        | none => simp only [hgd] at p; exact p.elim
        | some ρ1 =>
          simp only [hgd] at p
          refine kg d x (L2.wipe σ vs) H' (wipeD ρ vs) β2 _ ρ1 r2 ((E1.mono (ex.trans e2)).wipe vs) hgd fun σ2 E2 wp => ⟨?_, ?_⟩
          · exact (wp vs hv).trans (wipe_wipe vs fun _ h => h)
          refine ⟨β2, ρ1, st, S2, E2, ?_⟩
          cases hk : kt ρ1 st with
          | exn _ _ => simp only [hk] at p; exact p.elim
          | bad => simp only [hk] at p; exact p.elim
          | ok k st3 =>
            simp only [hk] at p
            intro β3 H3 e3 S3
            obtain ⟨hl3, hn3⟩ := stay e3 hl2 hn2
            cases k with
            | false =>
              exact iteF ⟨β3, st3, acc, us, (ex.trans e2).trans e3, S3, hl3, hn3, VRs.mono e3 _ _ (VRs.mono e2 _ _ ra), p⟩
            | true =>
              simp only [if_true] at p
              refine iteT ⟨β3, ρ1, st3, S3, E2.mono e3, ?_⟩
              cases hy : ke ρ1 st3 with
              | exn _ _ => simp only [hy] at p; exact p.elim
              | bad => simp only [hy] at p; exact p.elim
              | ok y st4 =>
                simp only [hy] at p
                split at p
                · rename_i hz
                  intro β4 H4 e4 S4 v4 r4
                  obtain ⟨hl4, hn4⟩ := stay e4 hl3 hn3
                  have ra4 := VRs.mono e4 _ _ (VRs.mono e3 _ _ (VRs.mono e2 _ _ ra))
                  obtain ⟨S5, e5⟩ := S4.updOut (o := .lst (us ++ [v4])) hl4 hn4
                  refine ⟨us, hl4, ?_, β4, st4, acc ++ [y], us ++ [v4], (((ex.trans e2).trans e3).trans e4).updNew hD, S5, upd_same, hn4, VRs.mono0 e5 _ _ (ra4.append (VRs.cons.mpr ⟨v4, [], rfl, r4, VRs.nil.mpr rfl⟩)), p⟩
                  have : us.length < 16777215 := by rw [ra4.length]; exact hz
                  rw [sizeLine_eq]; omega
                · exact p.elim
theorem q_lcZ {scope : Scope} {own : List (Str × Nat)} {is : List Nat} {g : KG} {t : TG} (hc : X.calm = true) (hN : X.N.Nodup) (hi : PI X tg iter (liftI X.K X.mg W ki)) (ok : BlkOk X.N X.env.scope scope own)
    (hg : ∀ (s : Shared) (H : Hp) (C : Addr) (cl : List (Str × Addr)) (fp : List Addr), PG (X.blk s H scope (compEnvC scope cl C X.env) fp) tg t) (kg : PGK X is g t) (hv : ∀ i ∈ is, i ∈ own.map (·.2))
    (ht : ∀ (s : Shared) (H : Hp) (C : Addr) (cl : List (Str × Addr)) (fp : List Addr), PTs (X.blk s H scope (compEnvC scope cl C X.env) fp) ifs (liftT X.K X.mg W0 kt))
    (he : ∀ (s : Shared) (H : Hp) (C : Addr) (cl : List (Str × Addr)) (fp : List Addr), PE (X.blk s H scope (compEnvC scope cl C X.env) fp) elt (lift X.K X.mg W0 ke)) (hs : ∀ x, foldedSetIterable iter X.env x = pure x := by intro _; rfl) :
    PE X (.ListComp elt [⟨tg, iter, ifs, 0⟩] scope pos) (lift X.K X.mg W (kLz (own.map (·.2)) g ki kt ke)) :=
  PE.imp (PE.fz (pe_lc hc hN hi ok hg ht he hs)) fun σ H Q h => lc_mainZ kg hv (fun _ _ z => z) h
theorem PS.fz {st : Stmt} {t : TS} (h : PS X st t) : PS X st fun D σ H => t { D with nx := fun σ' H' => D.nx σ' H' ∨ ∃ q vs, H' q = some (.lst vs) ∧ ∀ o, D.nx σ' (upd H' q (.frz o (.lst vs))) } σ H :=
  ⟨fun pins s σ H D I p => thn (h.run pins s σ H _ I p) fun f s' q => by
    cases f with
    | next =>
      obtain ⟨σ', H', J, z⟩ := q
      rcases z with z | ⟨a, vs, hl, z⟩
      · exact ⟨σ', H', J, z⟩
      · obtain ⟨o, J2⟩ := J.lock hl trivial
        exact ⟨σ', _, J2, z o⟩
    | brk => exact q
    | cont => exact q
    | ret u => exact q⟩
theorem s_setLcZ {i : Nat} {y : Str} {py spos : Pos} {scope : Scope} {own : List (Str × Nat)} {is : List Nat} {g : KG} {t : TG} (hc : X.calm = true) (hN : X.N.Nodup) (hy : X.N[i]? = some y) (hyl : X.env.scope.names.lookup y = some .local)
    (hsw : swapsWith (.ListComp elt [⟨tg, iter, ifs, 0⟩] scope pos) (some (.Name y py)) spos.line X.env = pure true) (hi : PI X tg iter (liftI X.K X.mg W ki)) (ok : BlkOk X.N X.env.scope scope own)
    (hg : ∀ (s : Shared) (H : Hp) (C : Addr) (cl : List (Str × Addr)) (fp : List Addr), PG (X.blk s H scope (compEnvC scope cl C X.env) fp) tg t) (kg : PGK X is g t) (hv : ∀ i ∈ is, i ∈ own.map (·.2))
    (ht : ∀ (s : Shared) (H : Hp) (C : Addr) (cl : List (Str × Addr)) (fp : List Addr), PTs (X.blk s H scope (compEnvC scope cl C X.env) fp) ifs (liftT X.K X.mg W0 kt))
    (he : ∀ (s : Shared) (H : Hp) (C : Addr) (cl : List (Str × Addr)) (fp : List Addr), PE (X.blk s H scope (compEnvC scope cl C X.env) fp) elt (lift X.K X.mg W0 ke)) (hs : ∀ x, foldedSetIterable iter X.env x = pure x := by intro _; rfl) :
    PS X (.Assign [.Name y py] (.ListComp elt [⟨tg, iter, ifs, 0⟩] scope pos) spos) (liftS X.K X.mg W (sSet i (kLz (own.map (·.2)) g ki kt ke))) :=
  PS.imp (PS.fz (ps_setLc hc hN hy hyl hsw hi ok hg ht he hs)) fun Dn σ H ⟨β, ρ, st, S, E, p⟩ => by
    show tLc _ _ _ _ _ σ H _
    refine lc_mainZ (Q := fun x H1 => Dn.nx (σ.set i (some x)) H1) kg hv (fun x H1 z => ?_) (lift.toS S E p fun d v β1 H1 st1 e1 S1 E1 r1 p1 => ?_)
    · rcases z with z | ⟨q, vs, rfl, hl, z⟩
      · exact .inl z
      · exact .inr ⟨q, vs, hl, z⟩
    · exact p1 β1 H1 _ (Ext.refl _ _) S1 (E1.set i r1)
end
end L3

/-! Reckoning with meanings. -/
namespace L3
open PySem L2
@[simp] theorem RS_toS_ok {α : Type} (a : α) (st : Sto) (ρ : Env3) (f : α → Sto → RS) : (R.ok a st).toS ρ f = f a st := rfl
/-- a draws' list stands at n -/
def DieAt (n : Nat) (st : Sto) : Prop := ∃ a b c : Int, st[n]? = some (.lst [.int a, .int b, .int c])
/-- all else stands, the draws' list stays one, the store grows -/
structure Step (n : Nat) (st st' : Sto) : Prop where
  keep : ∀ (m : Nat) (o : O), m ≠ n → st[m]? = some o → st'[m]? = some o
  die : DieAt n st'
  len : st.length ≤ st'.length
theorem Step.refl {n : Nat} {st : Sto} (h : DieAt n st) : Step n st st := ⟨fun _ _ _ h => h, h, Nat.le_refl _⟩
theorem Step.trans {n : Nat} {st st1 st2 : Sto} (a : Step n st st1) (b : Step n st1 st2) : Step n st st2 :=
  ⟨fun m o hm h => b.keep m o hm (a.keep m o hm h), b.die, Nat.le_trans a.len b.len⟩
theorem DieAt.lt {n : Nat} {st : Sto} (h : DieAt n st) : n < st.length := by obtain ⟨a, b, c, h⟩ := h; exact (List.getElem?_eq_some_iff.mp h).1
theorem Step.grow {n : Nat} {st : Sto} (h : DieAt n st) (g : Sto) : Step n st (st ++ g) := by
  have hl := h.lt
  obtain ⟨a, b, c, h⟩ := h
  exact ⟨fun m o hm q => by rw [List.getElem?_append_left (List.getElem?_eq_some_iff.mp q).1]; exact q, ⟨a, b, c, by rw [List.getElem?_append_left hl]; exact h⟩, by simp⟩
theorem Step.draw {n : Nat} {st : Sto} (h : DieAt n st) (a b c : Int) : Step n st (st.set n (.lst [.int a, .int b, .int c])) :=
  ⟨fun m o hm q => by rw [List.getElem?_set_ne (Ne.symm hm)]; exact q, ⟨a, b, c, by rw [List.getElem?_set_self h.lt]⟩, by simp⟩
theorem Step.new {n : Nat} {st st' : Sto} (h : Step n st st') (o : O) : Step n st (st' ++ [o]) := h.trans (Step.grow h.die _)

/-- what a draw must be -/
def CastS (r : L3.Run) : Prop := ∀ (st : Sto) (n : Nat) (tot : Int), DieAt n st → 0 < tot → tot < 1073741824 → ∃ (k : Int) (st' : Sto), 0 ≤ k ∧ k < tot ∧ r [.loc n, .int tot] st = .ok (.int k) st' ∧ st'.length = st.length ∧ Step n st st'
end L3
namespace L3
open PySem L2
section
variable {ρ : Env3} {st : Sto} {a b c : KE} {d : D}
theorem runDef_eq {n np : Nat} {body : KS} {ds : List D} (h : ds.length = np) : runDef n np body ds st = finR (body (start3 n ds) st) := by unfold runDef; rw [if_pos h]
theorem kv_ok {i : Nat} (h : ρ[i]? = some (some d)) : kv i ρ st = .ok d st := by unfold kv; rw [h]
theorem ixD_loc {n : Nat} {xs : List D} {i : Int} (h : st[n]? = some (.lst xs)) (h2 : atI xs i = some d) : ixD (.loc n) (.int i) st = .ok d st := by simp only [ixD, h, h2]
theorem ixD_tup {xs : List D} {i : Int} (h2 : atI xs i = some d) : ixD (.tup xs) (.int i) st = .ok d st := by simp only [ixD, h2]
theorem ixD_frz {xs : List D} {i : Int} (h2 : atI xs i = some d) : ixD (.frz xs) (.int i) st = .ok d st := by simp only [ixD, h2]
theorem setL_loc {n : Nat} {xs : List D} {k : Int} {j : Nat} {v : D} (h : st[n]? = some (.lst xs)) (h2 : ixN xs.length k = some j) : setL (.loc n) (.int k) v st = some (st.set n (.lst (xs.set j v))) := by simp only [setL, h, h2]
theorem atI_zero {α : Type} {x : α} {xs : List α} : atI (x :: xs) 0 = some x := atI_nat (j := 0) rfl
theorem atI_one {α : Type} {x y : α} {xs : List α} : atI (x :: y :: xs) 1 = some y := atI_nat (j := 1) rfl
theorem atI_two {α : Type} {x y z : α} {xs : List α} : atI (x :: y :: z :: xs) 2 = some z := atI_nat (j := 2) rfl
end
end L3
namespace L3
open PySem L2
/-- a text that is not long, of signs that there are -/
def strG (x : Str) : Bool := decide (x.length ≤ 1000) && x.cps.all (· < 0x110000)
/-- data without the draws' list: nothing of it is at n -/
inductive Pl (n : Nat) (st : Sto) : D → Prop
  | non : Pl n st .non
  | bl (b : Bool) : Pl n st (.bl b)
  | int (i : Int) : Pl n st (.int i)
  | str (x : Str) : strG x = true → Pl n st (.str x)
  | tup {xs : List D} : xs.length ≤ 1000 → (∀ x ∈ xs, Pl n st x) → Pl n st (.tup xs)
  | frz {xs : List D} : xs.length ≤ 1000 → (∀ x ∈ xs, Pl n st x) → Pl n st (.frz xs)
  | lst {m : Nat} {xs : List D} : m ≠ n → st[m]? = some (.lst xs) → Pl n st (.loc m)
  | dK {m : Nat} {xs : List (Key × D)} : m ≠ n → st[m]? = some (.dK xs) → Pl n st (.loc m)
theorem Pl.step {n : Nat} {st st' : Sto} (s : Step n st st') {d : D} (h : Pl n st d) : Pl n st' d := by
  induction h with
  | non => exact .non
  | bl b => exact .bl b
  | int i => exact .int i
  | str x h => exact .str x h
  | tup h _ ih => exact .tup h ih
  | frz h _ ih => exact .frz h ih
  | lst h1 h2 => exact .lst h1 (s.keep _ _ h1 h2)
  | dK h1 h2 => exact .dK h1 (s.keep _ _ h1 h2)
theorem Pl.ty {n : Nat} {st : Sto} {d : D} (h : Pl n st d) : ∃ a, tyN d st = some a ∧ a ∈ ["NoneType", "bool", "int", "str", "tuple", "list", "dict"] := by
  cases h with
  | non => exact ⟨_, rfl, by decide⟩
  | bl b => exact ⟨_, rfl, by decide⟩
  | int i => exact ⟨_, rfl, by decide⟩
  | str x => exact ⟨_, rfl, by decide⟩
  | tup _ _ => exact ⟨_, rfl, by decide⟩
  | frz _ _ => exact ⟨_, rfl, by decide⟩
  | lst h1 h2 => exact ⟨"list", by simp only [tyN, h2], by decide⟩
  | dK h1 h2 => exact ⟨"dict", by simp only [tyN, h2], by decide⟩
/-- what may be picked from -/
def seqD (d : D) (st : Sto) : Option (List D) := match d with
  | .tup xs => some xs
  | .frz xs => some xs
  | .str x => if x.length ≤ 16777216 then some (strIts x) else none
  | .loc n => match st[n]? with
    | some (.lst xs) => some xs
    | _ => none
  | _ => none
theorem seqD_step {n : Nat} {st st' : Sto} (s : Step n st st') {d : D} {xs : List D} (hd : ∀ m, d = .loc m → m ≠ n) (h : seqD d st = some xs) : seqD d st' = some xs := by
  cases d with
  | loc m =>
    unfold seqD at h ⊢
    cases ho : st[m]? with
    | none => simp only [ho] at h; cases h
    | some o =>
      have h2 := s.keep m o (hd m rfl) ho
      simp only [ho] at h
      simp only [h2]
      exact h
  | _ => exact h
theorem lenF_seq {d : D} {st : Sto} {xs : List D} (h : seqD d st = some xs) : lenF [d] st = .ok (.int xs.length) st := by
  cases d with
  | tup ys => cases h; rfl
  | frz ys => cases h; rfl
  | str x =>
    unfold seqD at h
    simp only at h
    split at h
    · rename_i hz
      cases h
      have e : (strIts x).length = x.length := by unfold strIts; simp [Str.length]
      simp only [lenF, if_pos hz, e]
    · cases h
  | loc m =>
    unfold seqD at h
    simp only at h
    split at h
    · rename_i ys he; cases h; simp only [lenF, he]
    · cases h
  | _ => cases h
theorem atI_lt {α : Type} {xs : List α} {k : Int} (h0 : 0 ≤ k) (h1 : k < xs.length) : atI xs k = some (xs[k.toNat]'(by omega)) := by
  have e : (k.toNat : Int) = k := Int.toNat_of_nonneg h0
  have h := atI_nat (xs := xs) (j := k.toNat) (List.getElem?_eq_getElem (by omega))
  rw [e] at h
  exact h
theorem ixD_seq {d : D} {st : Sto} {xs : List D} {k : Int} (h : seqD d st = some xs) (h0 : 0 ≤ k) (h1 : k < xs.length) : ∃ y, xs[k.toNat]? = some y ∧ ixD d (.int k) st = .ok y st := by
  have hl : k.toNat < xs.length := by omega
  cases d with
  | tup ys => cases h; exact ⟨xs[k.toNat], List.getElem?_eq_getElem hl, ixD_tup (atI_lt h0 h1)⟩
  | frz ys => cases h; exact ⟨xs[k.toNat], List.getElem?_eq_getElem hl, ixD_frz (atI_lt h0 h1)⟩
  | str x =>
    unfold seqD at h
    simp only at h
    split at h
    · rename_i hz
      cases h
      have e : (strIts x).length = x.cps.toList.length := by unfold strIts; simp
      have h2 : k < x.cps.toList.length := by rw [← e]; exact h1
      have h3 := atI_lt h0 h2
      refine ⟨.str ⟨#[x.cps.toList[k.toNat]'(by omega)]⟩, ?_, ?_⟩
      · unfold strIts
        rw [List.getElem?_map, List.getElem?_eq_getElem (by omega)]
        rfl
      · simp only [ixD, if_pos hz, h3]
    · cases h
  | loc m =>
    unfold seqD at h
    simp only at h
    split at h
    · rename_i ys he; cases h; exact ⟨xs[k.toNat], List.getElem?_eq_getElem hl, ixD_loc he (atI_lt h0 h1)⟩
    · cases h
  | _ => cases h
/-- what a pick must be -/
def PickS (r : L3.Run) : Prop := ∀ (st : Sto) (n : Nat) (it : D) (xs : List D), DieAt n st → seqD it st = some xs → (∀ m, it = .loc m → m ≠ n) → xs ≠ [] → xs.length < 1073741824 →
  ∃ (y : D) (st' : Sto), y ∈ xs ∧ r [.loc n, it] st = .ok y st' ∧ st'.length = st.length ∧ Step n st st'
def NumsS (r : L3.Run) : Prop := ∀ (st : Sto) (ns : List Int) (k : Int), 0 ≤ k → ∃ a b : Int, r [.frz (ns.map D.int), .int k] st = .ok (.loc st.length) (st ++ [.lst [.int a, .int b, .int 0]])
theorem pow_ok {i j : Int} {st : Sto} (h : 0 ≤ j ∧ (Builtin.Int.intBits i : Int) * j ≤ 2 ^ 27) : powD (.int i) (.int j) st = .ok (.int (i ^ j.toNat)) st := by unfold powD; simp only [if_pos h]
end L3
namespace L3
open PySem L2
theorem kb_NoneType_int : kitB "NoneType" "int" = some false := by decide +kernel
theorem kb_bool_int : kitB "bool" "int" = some true := by decide +kernel
theorem kb_int_int : kitB "int" "int" = some true := by decide +kernel
theorem kb_str_int : kitB "str" "int" = some false := by decide +kernel
theorem kb_tuple_int : kitB "tuple" "int" = some false := by decide +kernel
theorem kb_list_int : kitB "list" "int" = some false := by decide +kernel
theorem kb_dict_int : kitB "dict" "int" = some false := by decide +kernel
theorem kb_NoneType_bool : kitB "NoneType" "bool" = some false := by decide +kernel
theorem kb_bool_bool : kitB "bool" "bool" = some true := by decide +kernel
theorem kb_int_bool : kitB "int" "bool" = some false := by decide +kernel
theorem kb_str_bool : kitB "str" "bool" = some false := by decide +kernel
theorem kb_tuple_bool : kitB "tuple" "bool" = some false := by decide +kernel
theorem kb_list_bool : kitB "list" "bool" = some false := by decide +kernel
theorem kb_dict_bool : kitB "dict" "bool" = some false := by decide +kernel
theorem kb_NoneType_str : kitB "NoneType" "str" = some false := by decide +kernel
theorem kb_bool_str : kitB "bool" "str" = some false := by decide +kernel
theorem kb_int_str : kitB "int" "str" = some false := by decide +kernel
theorem kb_str_str : kitB "str" "str" = some true := by decide +kernel
theorem kb_tuple_str : kitB "tuple" "str" = some false := by decide +kernel
theorem kb_list_str : kitB "list" "str" = some false := by decide +kernel
theorem kb_dict_str : kitB "dict" "str" = some false := by decide +kernel
theorem kb_NoneType_tuple : kitB "NoneType" "tuple" = some false := by decide +kernel
theorem kb_bool_tuple : kitB "bool" "tuple" = some false := by decide +kernel
theorem kb_int_tuple : kitB "int" "tuple" = some false := by decide +kernel
theorem kb_str_tuple : kitB "str" "tuple" = some false := by decide +kernel
theorem kb_tuple_tuple : kitB "tuple" "tuple" = some true := by decide +kernel
theorem kb_list_tuple : kitB "list" "tuple" = some false := by decide +kernel
theorem kb_dict_tuple : kitB "dict" "tuple" = some false := by decide +kernel
theorem kb_NoneType_list : kitB "NoneType" "list" = some false := by decide +kernel
theorem kb_bool_list : kitB "bool" "list" = some false := by decide +kernel
theorem kb_int_list : kitB "int" "list" = some false := by decide +kernel
theorem kb_str_list : kitB "str" "list" = some false := by decide +kernel
theorem kb_tuple_list : kitB "tuple" "list" = some false := by decide +kernel
theorem kb_list_list : kitB "list" "list" = some true := by decide +kernel
theorem kb_dict_list : kitB "dict" "list" = some false := by decide +kernel
theorem kb_NoneType_dict : kitB "NoneType" "dict" = some false := by decide +kernel
theorem kb_bool_dict : kitB "bool" "dict" = some false := by decide +kernel
theorem kb_int_dict : kitB "int" "dict" = some false := by decide +kernel
theorem kb_str_dict : kitB "str" "dict" = some false := by decide +kernel
theorem kb_tuple_dict : kitB "tuple" "dict" = some false := by decide +kernel
theorem kb_list_dict : kitB "list" "dict" = some false := by decide +kernel
theorem kb_dict_dict : kitB "dict" "dict" = some true := by decide +kernel

theorem isF_of {T a : String} {b : Bool} {d : D} {st : Sto} (h : tyN d st = some a) (k : kitB a T = some b) : isF T d st = .ok (.bl b) st := by
  unfold isF
  rw [h, Option.bind_some, k]
section
variable {st : Sto} {n : Nat}
/-- whether it is an int, a bool .. -/
def isIntD : D → Bool
  | .int _ => true
  | .bl _ => true
  | _ => false
def isBlD : D → Bool
  | .bl _ => true
  | _ => false
def isStrD : D → Bool
  | .str _ => true
  | _ => false
def isTupD : D → Bool
  | .tup _ => true
  | _ => false
theorem is_int {d : D} (h : Pl n st d) : isF "int" d st = .ok (.bl (isIntD d)) st := by
  cases h with
  | non => exact isF_of rfl kb_NoneType_int
  | bl b => exact isF_of rfl kb_bool_int
  | int i => exact isF_of rfl kb_int_int
  | str x => exact isF_of rfl kb_str_int
  | tup _ _ => exact isF_of rfl kb_tuple_int
  | frz _ _ => exact isF_of rfl kb_list_int
  | lst h1 h2 => exact isF_of (by simp only [tyN, h2]) kb_list_int
  | dK h1 h2 => exact isF_of (by simp only [tyN, h2]) kb_dict_int
theorem is_bool {d : D} (h : Pl n st d) : isF "bool" d st = .ok (.bl (isBlD d)) st := by
  cases h with
  | non => exact isF_of rfl kb_NoneType_bool
  | bl b => exact isF_of rfl kb_bool_bool
  | int i => exact isF_of rfl kb_int_bool
  | str x => exact isF_of rfl kb_str_bool
  | tup _ _ => exact isF_of rfl kb_tuple_bool
  | frz _ _ => exact isF_of rfl kb_list_bool
  | lst h1 h2 => exact isF_of (by simp only [tyN, h2]) kb_list_bool
  | dK h1 h2 => exact isF_of (by simp only [tyN, h2]) kb_dict_bool
theorem is_str {d : D} (h : Pl n st d) : isF "str" d st = .ok (.bl (isStrD d)) st := by
  cases h with
  | non => exact isF_of rfl kb_NoneType_str
  | bl b => exact isF_of rfl kb_bool_str
  | int i => exact isF_of rfl kb_int_str
  | str x => exact isF_of rfl kb_str_str
  | tup _ _ => exact isF_of rfl kb_tuple_str
  | frz _ _ => exact isF_of rfl kb_list_str
  | lst h1 h2 => exact isF_of (by simp only [tyN, h2]) kb_list_str
  | dK h1 h2 => exact isF_of (by simp only [tyN, h2]) kb_dict_str
theorem is_tup {d : D} (h : Pl n st d) : isF "tuple" d st = .ok (.bl (isTupD d)) st := by
  cases h with
  | non => exact isF_of rfl kb_NoneType_tuple
  | bl b => exact isF_of rfl kb_bool_tuple
  | int i => exact isF_of rfl kb_int_tuple
  | str x => exact isF_of rfl kb_str_tuple
  | tup _ _ => exact isF_of rfl kb_tuple_tuple
  | frz _ _ => exact isF_of rfl kb_list_tuple
  | lst h1 h2 => exact isF_of (by simp only [tyN, h2]) kb_list_tuple
  | dK h1 h2 => exact isF_of (by simp only [tyN, h2]) kb_dict_tuple
end
/-! ### stores that grow -/
section
variable {st l : Sto} {k : Nat} {o : O}
theorem stA : (st ++ l)[st.length + k]? = l[k]? := by rw [List.getElem?_append_right (by omega)]; congr 1; omega
theorem stA0 : (st ++ l)[st.length]? = l[0]? := by rw [List.getElem?_append_right (by omega)]; congr 1; omega
theorem stS : (st ++ l).set (st.length + k) o = st ++ l.set k o := by rw [List.set_append_right _ _ (by omega)]; congr 2; omega
theorem stS0 : (st ++ l).set st.length o = st ++ l.set 0 o := by rw [List.set_append_right _ _ (by omega)]; congr 2; omega
end
theorem cutD_sub {xs : List D} {lo hi : Option Int} {x : D} (h : x ∈ cutD xs lo hi) : x ∈ xs := by
  unfold cutD at h
  exact List.mem_of_mem_drop (List.mem_of_mem_take h)
theorem cutD_len (xs : List D) (lo hi : Option Int) : (cutD xs lo hi).length ≤ xs.length := by
  unfold cutD
  rw [List.length_take, List.length_drop]
  omega
theorem addD_tup {xs ys : List D} {st : Sto} (h : xs.length + ys.length ≤ 16777216) : addD (.tup xs) (.tup ys) st = .ok (.tup (xs ++ ys)) st := by simp only [addD, if_pos h]
theorem addD_lst {m n : Nat} {xs ys : List D} {st : Sto} (h1 : st[m]? = some (.lst xs)) (h2 : st[n]? = some (.lst ys)) (h : xs.length + ys.length ≤ 16777216) : addD (.loc m) (.loc n) st = .ok (.loc st.length) (st ++ [.lst (xs ++ ys)]) := by simp only [addD, h1, h2, if_pos h]
theorem appendM_ok {n : Nat} {xs : List D} {y : D} {st : Sto} (h1 : st[n]? = some (.lst xs)) (h : xs.length < 16777216) : appendM (.loc n) [y] st = .ok .non (st.set n (.lst (xs ++ [y]))) := by simp only [appendM, h1, if_pos h]
theorem tyD_lst {n : Nat} {xs : List D} {st : Sto} (h1 : st[n]? = some (.lst xs)) : tyD "list" (.loc n) st = true := by simp only [tyD, h1]; rfl
/-! ### data of ints -/
theorem pd_ints (st : Sto) (n : Nat) : ∀ is : List Int, allO ((is.map D.int).map (pd st n)) = some (is.map PyData.int)
  | [] => rfl
  | i :: is => by
    show (pd st n (.int i)).bind (fun a => (allO ((is.map D.int).map (pd st n))).bind fun l => some (a :: l)) = _
    rw [pd_ints st n is]
    cases n <;> rfl
theorem canLay_ints : ∀ is : List Int, PyData.canLayAll0 (is.map PyData.int) = true
  | [] => by simp [PyData.canLayAll0]
  | i :: is => by simp [PyData.canLayAll0, PyData.canLay0, canLay_ints is]
theorem depth_ints : ∀ is : List Int, PyData.depthAll (is.map PyData.int) ≤ 1
  | [] => by simp [PyData.depthAll]
  | i :: is => by
    have := depth_ints is
    simp only [List.map_cons, PyData.depthAll, PyData.depth]
    omega
theorem shaped_tup_ints (is : List Int) : SeqAt.shaped (.tuple (is.map PyData.int)) = true := by
  have h1 := depth_ints is
  have h2 : PyData.depth (.tuple (is.map PyData.int)) ≤ 64 := by
    simp only [PyData.depth]
    omega
  show (PyData.canLay0 (.tuple (is.map PyData.int)) && decide (PyData.depth (.tuple (is.map PyData.int)) ≤ 64)) = true
  rw [Bool.and_eq_true]
  exact ⟨by simp only [PyData.canLay0]; exact canLay_ints is, decide_eq_true h2⟩
end L3
namespace L3
open PySem L2
/-- how a bent tuple of ints comes out -/
def BentS (r : L3.Run) : Prop := ∀ (st : Sto) (n : Nat) (is : List Int) (odd : D), DieAt n st → is ≠ [] → is.length ≤ 100 → Pl n st odd → ∃ (d : D) (st' : Sto), r [.loc n, .tup (is.map D.int), odd] st = .ok d st' ∧ Step n st st' ∧ Pl n st' d
def OddS (r : L3.Run) : Prop := ∀ (st : Sto) (n : Nat), DieAt n st → ∃ (d : D) (st' : Sto), r [.loc n] st = .ok d st' ∧ Step n st st' ∧ Pl n st' d
def numB (d : D) (lo hi : Int) : Bool := match d with
  | .int i => decide (lo ≤ i) && decide (i ≤ hi)
  | _ => false
def NumberS (r : L3.Run) : Prop := ∀ (st : Sto) (n : Nat) (d : D) (lo hi : Int), Pl n st d → r [d, .int lo, .int hi] st = .ok (.bl (numB d lo hi)) st
theorem pl_ints {n : Nat} {st : Sto} {is : List Int} : ∀ x ∈ is.map D.int, Pl n st x := fun x h => by
  obtain ⟨i, _, rfl⟩ := List.mem_map.mp h
  exact .int i
theorem pl_tup_ints {n : Nat} {st : Sto} {is : List Int} (h : is.length ≤ 1000) : Pl n st (.tup (is.map D.int)) := .tup (by simpa using h) pl_ints
theorem slD_tup {xs : List D} {lo hi : Option Int} {st : Sto} : slD (.tup xs) lo hi st = .ok (.tup (cutD xs lo hi)) st := rfl
theorem revD_tup {xs : List D} {st : Sto} : revD (.tup xs) st = .ok (.tup xs.reverse) st := rfl
end L3

/-! Loops, lists, texts. -/
namespace L3
open PySem L2
theorem pl_nil {n : Nat} {st : Sto} : ∀ x ∈ ([] : List D), Pl n st x := fun x h => nomatch h
theorem pl_cons {n : Nat} {st : Sto} {d : D} {l : List D} (h : Pl n st d) (hl : ∀ x ∈ l, Pl n st x) : ∀ x ∈ d :: l, Pl n st x := fun x hx => by
  rcases List.mem_cons.mp hx with rfl | hx
  · exact h
  · exact hl x hx
theorem Pl.tupD {n : Nat} {st : Sto} {l : List D} (h : ∀ x ∈ l, Pl n st x) (hl : decide (l.length ≤ 1000) = true) : Pl n st (.tup l) := .tup (of_decide_eq_true hl) h
theorem Pl.strD {n : Nat} {st : Sto} {x : Str} (hl : strG x = true) : Pl n st (.str x) := .str x hl
end L3

namespace L3
open PySem L2
theorem all_nil {α : Type} {p : α → Prop} : ∀ x ∈ ([] : List α), p x := fun x h => nomatch h
theorem all_cons {α : Type} {p : α → Prop} {a : α} {l : List α} (h : p a) (hl : ∀ x ∈ l, p x) : ∀ x ∈ a :: l, p x := fun x hx => by
  rcases List.mem_cons.mp hx with rfl | hx
  · exact h
  · exact hl x hx
theorem lc_inv {g : KG} {cnd : KT} {elt : KE} {src : Src} {ρ : Env3} {xs : List D} (Inv : Nat → Sto → List D → Prop)
    (hat : ∀ i st acc, Inv i st acc → src.at st i = some xs[i]?)
    (step : ∀ i d st acc, xs[i]? = some d → Inv i st acc → ∃ ρ1 k st1, g d ρ = some ρ1 ∧ cnd ρ1 st = .ok k st1 ∧ (k = true → ∃ y st2, elt ρ1 st1 = .ok y st2 ∧ Inv (i + 1) st2 (acc ++ [y])) ∧ (k = false → Inv (i + 1) st1 acc)) :
    ∀ (m i : Nat) (st : Sto) (acc : List D) (f : Nat), xs.length - i = m → i ≤ xs.length → m < f → acc.length ≤ i → xs.length < 16777215 → Inv i st acc → ∃ acc' st', lcGo g cnd elt src ρ f i st acc = .ok acc' st' ∧ Inv xs.length st' acc' ∧ acc'.length ≤ xs.length := by
  intro m
  induction m with
  | zero =>
    intro i st acc f hm hi hf ha hx h
    have e : i = xs.length := by omega
    subst e
    obtain ⟨f, rfl⟩ : ∃ f', f = f' + 1 := ⟨f - 1, by omega⟩
    refine ⟨acc, st, ?_, h, ha⟩
    unfold lcGo
    rw [hat _ _ _ h, List.getElem?_eq_none (Nat.le_refl _)]
  | succ m ih =>
    intro i st acc f hm hi hf ha hx h
    obtain ⟨f, rfl⟩ : ∃ f', f = f' + 1 := ⟨f - 1, by omega⟩
    have hlt : i < xs.length := by omega
    have e := List.getElem?_eq_getElem hlt
    obtain ⟨ρ1, k, st1, hg, hc, ht, hfa⟩ := step i _ st acc e h
    unfold lcGo
    rw [hat _ _ _ h, e]
    simp only [hg, hc]
    cases k with
    | true =>
      obtain ⟨y, st2, he, h2⟩ := ht rfl
      simp only [he, if_true]
      rw [if_pos (by omega)]
      exact ih (i + 1) st2 (acc ++ [y]) f (by omega) (by omega) (by omega) (by simp; omega) hx h2
    | false =>
      simp only [Bool.false_eq_true, if_false]
      exact ih (i + 1) st1 acc f (by omega) (by omega) (by omega) (by omega) hx (hfa rfl)
theorem for_inv {g : KG} {body : KS} {src : Src} {xs : List D} (Inv : Nat → Env3 → Sto → Prop)
    (hat : ∀ i ρ st, Inv i ρ st → src.at st i = some xs[i]?)
    (step : ∀ i d ρ st, xs[i]? = some d → Inv i ρ st → ∃ ρ1 ρ2 st2, g d ρ = some ρ1 ∧ (body ρ1 st = .nx ρ2 st2 ∨ body ρ1 st = .ct ρ2 st2) ∧ Inv (i + 1) ρ2 st2) :
    ∀ (m i : Nat) (ρ : Env3) (st : Sto) (f : Nat), xs.length - i = m → i ≤ xs.length → m < f → Inv i ρ st → ∃ ρ' st', forGo g body src f i ρ st = .nx ρ' st' ∧ Inv xs.length ρ' st' := by
  intro m
  induction m with
  | zero =>
    intro i ρ st f hm hi hf h
    have e : i = xs.length := by omega
    subst e
    obtain ⟨f, rfl⟩ : ∃ f', f = f' + 1 := ⟨f - 1, by omega⟩
    refine ⟨ρ, st, ?_, h⟩
    unfold forGo
    rw [hat _ _ _ h, List.getElem?_eq_none (Nat.le_refl _)]
  | succ m ih =>
    intro i ρ st f hm hi hf h
    obtain ⟨f, rfl⟩ : ∃ f', f = f' + 1 := ⟨f - 1, by omega⟩
    have hlt : i < xs.length := by omega
    have e := List.getElem?_eq_getElem hlt
    obtain ⟨ρ1, ρ2, st2, hg, hb, h2⟩ := step i _ ρ st e h
    unfold forGo
    rw [hat _ _ _ h, e]
    simp only [hg]
    rcases hb with hb | hb
    · simp only [hb]
      exact ih (i + 1) ρ2 st2 f (by omega) (by omega) (by omega) h2
    · simp only [hb]
      exact ih (i + 1) ρ2 st2 f (by omega) (by omega) (by omega) h2
/-- a list comprehension over what does not change, pure -/
theorem lc_pure {vs : List Nat} {g : KG} {it : KI} {cnd : KT} {elt : KE} {ρ : Env3} {st : Sto} {xs : List D} (p : D → Bool) (f : D → D) (hi : it ρ st = .ok (.its xs) st) (hx : xs.length < 16777215)
    (hc : ∀ d ∈ xs, ∃ ρ1, g d (wipeD ρ vs) = some ρ1 ∧ cnd ρ1 st = .ok (p d) st ∧ (p d = true → elt ρ1 st = .ok (f d) st)) :
    kLc vs g it cnd elt ρ st = .ok (.loc st.length) (st ++ [.lst ((xs.filter p).map f)]) := by
  obtain ⟨acc, st', h1, ⟨rfl, h2⟩, h3⟩ := lc_inv (g := g) (cnd := cnd) (elt := elt) (src := .its xs) (ρ := wipeD ρ vs) (xs := xs) (fun i s acc => s = st ∧ acc = ((xs.take i).filter p).map f) (fun i s acc h => rfl)
    (fun i d s acc hd ⟨hs, ha⟩ => by
      subst hs
      obtain ⟨ρ1, q1, q2, q3⟩ := hc d (List.mem_of_getElem? hd)
      have et : xs.take (i + 1) = xs.take i ++ [d] := by rw [List.take_succ, hd]; rfl
      refine ⟨ρ1, p d, s, q1, q2, fun k => ⟨f d, s, q3 k, rfl, ?_⟩, fun k => ⟨rfl, ?_⟩⟩
      · rw [et, ha]; simp [k]
      · rw [et, ha]; simp [k])
    xs.length 0 st [] (xs.length + 1) (by omega) (by omega) (by omega) (by simp) hx ⟨rfl, rfl⟩
  unfold kLc
  rw [hi]
  simp only [R.bind_ok]
  show (lcGo g cnd elt (.its xs) (wipeD ρ vs) (xs.length + 1) 0 st' []).bind _ = _
  rw [h1, R.bind_ok, h2, List.take_length]
end L3
namespace L3
open PySem L2
/-- a text of at most n signs, each below 128 -/
def strA (n : Nat) (x : Str) : Prop := x.length ≤ n ∧ ∀ c ∈ x.cps.toList, c < 128
theorem strA.le {m n : Nat} {x : Str} (h : strA m x) (hl : m ≤ n) : strA n x := ⟨Nat.le_trans h.1 hl, h.2⟩
theorem strA.app {m n : Nat} {x y : Str} (h : strA m x) (g : strA n y) : strA (m + n) (x ++ y) := by
  refine ⟨by rw [Str.length_append]; have := h.1; have := g.1; omega, fun c hc => ?_⟩
  rw [Str.cps_append, Array.toList_append] at hc
  rcases List.mem_append.mp hc with hc | hc
  · exact h.2 c hc
  · exact g.2 c hc
theorem strA.good {n : Nat} {x : Str} (h : strA n x) (hn : n ≤ 1000) : strG x = true := by
  unfold strG
  rw [Bool.and_eq_true]
  refine ⟨decide_eq_true (Nat.le_trans h.1 hn), ?_⟩
  rw [Array.all_eq_true']
  intro c hc
  have := h.2 c (by simpa using hc)
  exact decide_eq_true (by omega)
theorem upper_cps (x : Str) : (Txt.upper x).cps.toList = x.cps.toList.flatMap Unicode.upperOf := by
  unfold Txt.upper placed
  simp only [Array.toList_flatten, Array.toList_mapIdx]
  induction x.cps.toList with
  | nil => rfl
  | cons c cs ih => simp_all [List.mapIdx_cons]
theorem strA.upper {n : Nat} {x : Str} (h : strA n x) : strA n (Txt.upper x) := by
  have one : ∀ c, c < 128 → (Unicode.upperOf c).length = 1 ∧ ∀ d ∈ Unicode.upperOf c, d < 128 := by decide +kernel
  have all : ∀ cs : List Nat, (∀ c ∈ cs, c < 128) → (cs.flatMap Unicode.upperOf).length = cs.length ∧ ∀ d ∈ cs.flatMap Unicode.upperOf, d < 128 := by
    intro cs
    induction cs with
    | nil => intro _; exact ⟨rfl, fun d h => nomatch h⟩
    | cons c cs ih =>
      intro hc
      obtain ⟨h1, h2⟩ := ih fun c h => hc c (List.mem_cons_of_mem _ h)
      obtain ⟨h3, h4⟩ := one c (hc c (List.mem_cons_self ..))
      refine ⟨by rw [List.flatMap_cons, List.length_append, h1, h3, List.length_cons]; omega, fun d hd => ?_⟩
      rw [List.flatMap_cons] at hd
      rcases List.mem_append.mp hd with hd | hd
      · exact h4 d hd
      · exact h2 d hd
  obtain ⟨h1, h2⟩ := all _ h.2
  rw [← upper_cps] at h1 h2
  exact ⟨by have := h.1; simp only [Str.length] at this ⊢; simp only [Array.length_toList] at h1; omega, h2⟩
theorem strA.cut {n : Nat} {x : Str} (h : strA n x) (lo hi : Option Int) : strA n (cutS x lo hi) := by
  refine ⟨Nat.le_trans (cutS_length x lo hi) h.1, fun c hc => h.2 c ?_⟩
  unfold cutS at hc
  rw [List.toList_toArray] at hc
  exact List.mem_of_mem_drop (List.mem_of_mem_take hc)
theorem strA.one {c : Nat} (h : c < 128) : strA 1 ⟨#[c]⟩ := ⟨Nat.le_refl 1, fun d hd => (show d = c by simpa using hd) ▸ h⟩
theorem strA.join : ∀ ss : List Str, (∀ s ∈ ss, strA 1 s) → strA ss.length (Txt.join "" ss) := by
  intro ss h
  show strA _ (Builtin.Str.glued _ ss)
  have e : (Str.ofString "").cps = #[] := by decide +kernel
  have go : ∀ (ss : List Str) (acc : Array Nat) (k : Nat), (∀ s ∈ ss, strA 1 s) → strA k ⟨acc⟩ → strA (k + ss.length) ⟨ss.foldl (fun acc p => acc ++ (Str.ofString "").cps ++ p.cps) acc⟩ := by
    intro ss
    induction ss with
    | nil => intro acc k _ h; exact h
    | cons s ss ih =>
      intro acc k hs h
      have h2 := ih (acc ++ (Str.ofString "").cps ++ s.cps) (k + 1) (fun s h => hs s (List.mem_cons_of_mem _ h)) (by
        rw [e, Array.append_empty]
        exact h.app (y := s) (hs s (List.mem_cons_self ..)))
      refine h2.le ?_
      simp only [List.length_cons]; omega
  unfold Builtin.Str.glued
  cases ss with
  | nil => exact ⟨Nat.le_refl 0, fun c hc => by simp [Str.empty] at hc⟩
  | cons s ss => exact (go ss s.cps 1 (fun s h' => h s (List.mem_cons_of_mem _ h')) (h s (List.mem_cons_self ..))).le (by simp only [List.length_cons]; omega)
end L3

/-! Reckoning with lists that nobody changes. -/
namespace L3
open PySem L2
section
variable {st : Sto} {xs ys : List D} {m : Nat} {lo hi : Option Int}
theorem slZ_tup : slZ (.tup xs) lo hi st = .ok (.tup (cutD xs lo hi)) st := rfl
theorem addZ_frz (h : xs.length + ys.length ≤ 16777216) : addZ (.frz xs) (.frz ys) st = .ok (.frz (xs ++ ys)) st := by simp only [addZ, itemsD, if_pos h]
theorem addZ_loc_frz (hm : st[m]? = some (.lst xs)) (h : xs.length + ys.length ≤ 16777216) : addZ (.loc m) (.frz ys) st = .ok (.frz (xs ++ ys)) st := by simp only [addZ, itemsD, hm, if_pos h]
theorem addL_loc_frz (hm : st[m]? = some (.lst xs)) (h : xs.length + ys.length ≤ 16777216) : addL (.loc m) (.frz ys) st = .ok (.loc st.length) (st ++ [.lst (xs ++ ys)]) := by simp only [addL, itemsD, hm, if_pos h]
theorem addZ_int {i j : Int} : addZ (.int i) (.int j) st = .ok (.int (i + j)) st := rfl
end
/-- how a bent tuple comes out -/
def BentG (r : L3.Run) : Prop := ∀ (st : Sto) (n : Nat) (xs : List D) (odd : D), DieAt n st → xs ≠ [] → xs.length ≤ 100 → (∀ x ∈ xs, Pl n st x) → Pl n st odd → neD (.tup xs) (.tup []) st = .ok (.bl true) st → ∃ (d : D) (st' : Sto), r [.loc n, .tup xs, odd] st = .ok d st' ∧ Step n st st' ∧ Pl n st' d
/-- a pick from a list that nobody changes -/
theorem PickS.frz {r : L3.Run} (h : PickS r) {st : Sto} {n : Nat} (hd : DieAt n st) (xs : List D) (h1 : xs ≠ []) (h2 : xs.length < 1073741824) : ∃ (y : D) (st' : Sto), y ∈ xs ∧ r [.loc n, .frz xs] st = .ok y st' ∧ st'.length = st.length ∧ Step n st st' :=
  h st n (.frz xs) xs hd rfl (fun m e => by cases e) h1 h2
section
variable {st : Sto} {a b c : D} {xs ys : List D} {i j : Int} {x y : Str} {p q : Bool}
theorem eqD_int : eqD (.int i) (.int j) st = .ok (.bl (decide (i = j))) st := by
  show (if SeqAt.shaped (.int i) = true ∧ SeqAt.shaped (.int j) = true then R.ok (D.bl (PyData.eqv (.int i) (.int j))) st else .bad) = _
  rw [if_pos ⟨rfl, rfl⟩]; simp only [PyData.eqv]; rfl
theorem neD_int : neD (.int i) (.int j) st = .ok (.bl (!decide (i = j))) st := by
  show (if SeqAt.shaped (.int i) = true ∧ SeqAt.shaped (.int j) = true then R.ok (D.bl (!PyData.eqv (.int i) (.int j))) st else .bad) = _
  rw [if_pos ⟨rfl, rfl⟩]; simp only [PyData.eqv]; rfl
theorem eqD_str (hx : SeqAt.shaped (.str x) = true) (hy : SeqAt.shaped (.str y) = true) : eqD (.str x) (.str y) st = .ok (.bl (decide (x = y))) st := by
  show (if SeqAt.shaped (.str x) = true ∧ SeqAt.shaped (.str y) = true then R.ok (D.bl (PyData.eqv (.str x) (.str y))) st else .bad) = _
  rw [if_pos ⟨hx, hy⟩]; simp only [PyData.eqv]
  congr 2
theorem neD_str (hx : SeqAt.shaped (.str x) = true) (hy : SeqAt.shaped (.str y) = true) : neD (.str x) (.str y) st = .ok (.bl (!decide (x = y))) st := by
  show (if SeqAt.shaped (.str x) = true ∧ SeqAt.shaped (.str y) = true then R.ok (D.bl (!PyData.eqv (.str x) (.str y))) st else .bad) = _
  rw [if_pos ⟨hx, hy⟩]; simp only [PyData.eqv]
  congr 3
theorem eqD_bl : eqD (.bl p) (.bl q) st = .ok (.bl (p == q)) st := by
  show (if SeqAt.shaped (.bool p) = true ∧ SeqAt.shaped (.bool q) = true then R.ok (D.bl (PyData.eqv (.bool p) (.bool q))) st else .bad) = _
  rw [if_pos ⟨rfl, rfl⟩]; simp only [PyData.eqv]
theorem neD_bl : neD (.bl p) (.bl q) st = .ok (.bl (!(p == q))) st := by
  show (if SeqAt.shaped (.bool p) = true ∧ SeqAt.shaped (.bool q) = true then R.ok (D.bl (!PyData.eqv (.bool p) (.bool q))) st else .bad) = _
  rw [if_pos ⟨rfl, rfl⟩]; simp only [PyData.eqv]
theorem ixT0 : ixD (.tup (a :: xs)) (.int 0) st = .ok a st := ixD_tup atI_zero
theorem ixT1 : ixD (.tup (a :: b :: xs)) (.int 1) st = .ok b st := ixD_tup atI_one
theorem ixT2 : ixD (.tup (a :: b :: c :: xs)) (.int 2) st = .ok c st := ixD_tup atI_two
theorem ixF0 : ixD (.frz (a :: xs)) (.int 0) st = .ok a st := ixD_frz atI_zero
theorem ixF1 : ixD (.frz (a :: b :: xs)) (.int 1) st = .ok b st := ixD_frz atI_one
theorem ixF2 : ixD (.frz (a :: b :: c :: xs)) (.int 2) st = .ok c st := ixD_frz atI_two
theorem lenT : lenF [.tup xs] st = .ok (.int xs.length) st := rfl
theorem lenZ : lenF [.frz xs] st = .ok (.int xs.length) st := rfl
/-- in a tuple of two texts -/
theorem inD_strs {x u v : Str} : inD false (.str x) (.tup [.str u, .str v]) st = .ok (.bl (decide (u = x) || decide (v = x))) st := by
  show (if ([D.str u, .str v].all flatD) = true then R.ok (D.bl (false != ([PyData.str u, .str v].any fun z => PyData.eqv z (.str x)))) st else .bad) = _
  have h0 : ([D.str u, .str v].all flatD = true) := rfl
  rw [if_pos h0]
  simp only [List.any_cons, List.any_nil, PyData.eqv, Bool.or_false, bne_iff_ne, Bool.false_bne]
  have hb : ∀ a b : Str, (a == b) = decide (a = b) := fun a b => by rw [Bool.eq_iff_iff]; simp
  rw [hb, hb]
theorem boolsO_map {f : D → Bool} : ∀ xs : List D, boolsO (xs.map fun d => D.bl (f d)) = some (xs.map f)
  | [] => rfl
  | d :: ds => by simp only [List.map_cons, boolsO, boolsO_map ds, Option.bind_some]
theorem all_frz {f : D → Bool} : allF [.frz (xs.map fun d => D.bl (f d))] st = .ok (.bl (xs.all f)) st := by
  simp only [allF, itemsD, Option.bind_some, boolsO_map, List.all_map]
  rfl
theorem any_frz {f : D → Bool} : anyF [.frz (xs.map fun d => D.bl (f d))] st = .ok (.bl (xs.any f)) st := by
  simp only [anyF, itemsD, Option.bind_some, boolsO_map, List.any_map]
  rfl
/-- a list comprehension over what does not change, pure -/
theorem lz_pure {vs : List Nat} {g : KG} {it : KI} {cnd : KT} {elt : KE} {ρ : Env3} {st : Sto} {xs : List D} (p : D → Bool) (f : D → D) (hi : it ρ st = .ok (.its xs) st) (hx : xs.length < 16777215)
    (hc : ∀ d ∈ xs, ∃ ρ1, g d (wipeD ρ vs) = some ρ1 ∧ cnd ρ1 st = .ok (p d) st ∧ (p d = true → elt ρ1 st = .ok (f d) st)) :
    kLz vs g it cnd elt ρ st = .ok (.frz ((xs.filter p).map f)) st := by
  obtain ⟨acc, st', h1, ⟨rfl, h2⟩, h3⟩ := lc_inv (g := g) (cnd := cnd) (elt := elt) (src := .its xs) (ρ := wipeD ρ vs) (xs := xs) (fun i s acc => s = st ∧ acc = ((xs.take i).filter p).map f) (fun i s acc h => rfl)
    (fun i d s acc hd ⟨hs, ha⟩ => by
      subst hs
      obtain ⟨ρ1, q1, q2, q3⟩ := hc d (List.mem_of_getElem? hd)
      have et : xs.take (i + 1) = xs.take i ++ [d] := by rw [List.take_succ, hd]; rfl
      refine ⟨ρ1, p d, s, q1, q2, fun k => ⟨f d, s, q3 k, rfl, ?_⟩, fun k => ⟨rfl, ?_⟩⟩
      · rw [et, ha]; simp [k]
      · rw [et, ha]; simp [k])
    xs.length 0 st [] (xs.length + 1) (by omega) (by omega) (by omega) (by simp) hx ⟨rfl, rfl⟩
  unfold kLz
  rw [hi]
  simp only [R.bind_ok]
  show (lcGo g cnd elt (.its xs) (wipeD ρ vs) (xs.length + 1) 0 st' []).bind _ = _
  rw [h1, R.bind_ok, h2, List.take_length]
/-- without a test -/
theorem lz_map {vs : List Nat} {g : KG} {it : KI} {elt : KE} {ρ : Env3} {st : Sto} {xs : List D} (f : D → D) (hi : it ρ st = .ok (.its xs) st) (hx : xs.length < 16777215)
    (hc : ∀ d ∈ xs, ∃ ρ1, g d (wipeD ρ vs) = some ρ1 ∧ elt ρ1 st = .ok (f d) st) :
    kLz vs g it kTrue elt ρ st = .ok (.frz (xs.map f)) st := by
  have h := lz_pure (vs := vs) (g := g) (cnd := kTrue) (elt := elt) (fun _ => true) f hi hx fun d hd => by
    obtain ⟨ρ1, h1, h2⟩ := hc d hd
    exact ⟨ρ1, h1, rfl, fun _ => h2⟩
  rw [h]
  congr 3
  exact List.filter_eq_self.mpr fun _ _ => rfl
end
end L3

/-! The loops of laws. -/
namespace L3
open PySem L2
/-- r answers with a value, whatever the store, and leaves it -/
def Ans (r : L3.Run) (ds : List D) (d : D) : Prop := ∀ st, r ds st = .ok d st
/-- a draw goes well -/
def WellP (r : L3.Run) : Prop := ∀ (st : Sto) (n : Nat), DieAt n st → ∃ st', r [.loc n] st = .ok (.bl true) st' ∧ Step n st st'
theorem rng1_ok {j : Int} {st : Sto} (h : -(2 ^ 62) ≤ j ∧ j < 2 ^ 62) : rngF1 [.int j] st = .ok (.its (rngIts 0 j.toNat)) st := by
  unfold rngF1
  exact if_pos h
theorem rng1_nat {T : Nat} {st : Sto} (h : T < 1000) : rngF1 [.int (T : Int)] st = .ok (.its (rngIts 0 T)) st := by
  rw [rng1_ok (by omega), Int.toNat_natCast]
theorem iR1_eq {a : KA} {ρ : Env3} {st st1 : Sto} {ds : List D} (h : a ρ st = .ok ds st1) : iR1 a ρ st = rngF1 ds st1 := by
  unfold iR1
  rw [h]
  exact R.bind_ok _ _ _
theorem it_rng1 {T : Nat} {ρ : Env3} {st : Sto} (h : T < 1000) : iR1 (kA1 (kc (.int T)) kA0) ρ st = .ok (.its (rngIts 0 T)) st := by
  exact (iR1_eq rfl).trans (rng1_nat h)
theorem sFor_its {g : KG} {it : KI} {body : KS} {ρ : Env3} {st st1 : Sto} {xs : List D} {r : RS} (hi : it ρ st = .ok (.its xs) st1) (h : forGo g body (.its xs) (xs.length + 1) 0 ρ st1 = r) : sFor g it body ρ st = r := by
  unfold sFor
  rw [hi]
  exact h
/-- for turn in range(T): if not right(die): return False -/
theorem loop_in {rr : L3.Run} (h : WellP rr) {jd jt T : Nat} (hne : jt ≠ jd) (hT : T < 1000) {n : Nat} : ∀ (ρ : Env3) (st : Sto), ρ[jd]? = some (some (.loc n)) → DieAt n st →
    ∃ ρ' st', sFor (gN jt) (iR1 (kA1 (kc (.int T)) kA0)) (sIf (tNot3 (kTr (kF rr (kA1 (kv jd) kA0)))) (sRet (kc (.bl false))) sNil) ρ st = .nx ρ' st' ∧ Step n st st' ∧ ρ'.length = ρ.length ∧ ∀ i, i ≠ jt → ρ'[i]? = ρ[i]? := by
  intro ρ st hj hd
  have rl : (rngIts 0 T).length = T := by unfold rngIts; simp
  obtain ⟨ρ', st', q1, q2, q3, q4⟩ := for_inv (g := gN jt) (body := sIf (tNot3 (kTr (kF rr (kA1 (kv jd) kA0)))) (sRet (kc (.bl false))) sNil) (src := .its (rngIts 0 T)) (xs := rngIts 0 T)
    (fun i ρ1 s => Step n st s ∧ ρ1.length = ρ.length ∧ ∀ i, i ≠ jt → ρ1[i]? = ρ[i]?) (fun i ρ s h => rfl)
    (fun i x ρ1 s hx ⟨q, hl, hk⟩ => by
      obtain ⟨sa, ea, ta⟩ := h s n q.die
      have hk2 : ∀ i, i ≠ jt → (ρ1.set jt (some x))[i]? = ρ[i]? := fun i hi => by rw [List.getElem?_set_ne (Ne.symm hi)]; exact hk i hi
      refine ⟨ρ1.set jt (some x), ρ1.set jt (some x), sa, rfl, .inl ?_, q.trans ta, by simpa using hl, hk2⟩
      have hv : ∀ s, kv jd (ρ1.set jt (some x)) s = .ok (.loc n) s := fun s => kv_ok (by rw [hk2 jd (Ne.symm hne)]; exact hj)
      simp only [sIf, tNot3, kTr, kF, kA1, kA0, hv, R.bind_ok, ea, truD, R.toS_ok, Bool.not_true, Bool.false_eq_true, if_false, sNil])
    T 0 ρ st (T + 1) (by omega) (by omega) (by omega) ⟨.refl hd, rfl, fun _ _ => rfl⟩
  refine ⟨ρ', st', ?_, q2, q3, q4⟩
  exact sFor_its (it_rng1 hT) (by rw [rl]; exact q1)
/-- for at in range(max(1, min(K, len(script)))): die = numbers(script, at); G -/
theorem loop_out {rnum : L3.Run} {G : KS} (hnum : NumsS rnum) {ns : List Int} (hns : ns.length ≤ 63) {K : Nat} (hK : 1 ≤ K) (hK2 : K < 1000) {jd : Nat} (hjd : 1 < jd)
    {N : Nat} (hG : ∀ (ρ : Env3) (st : Sto) (n : Nat), ρ.length = N → ρ[0]? = some (some (.frz (ns.map D.int))) → ρ[jd]? = some (some (.loc n)) → DieAt n st → ∃ ρ' st', G ρ st = .nx ρ' st' ∧ Step n st st' ∧ ρ'.length = ρ.length ∧ ρ'[0]? = ρ[0]?) :
    ∀ (ρ : Env3), ρ.length = N → ρ[0]? = some (some (.frz (ns.map D.int))) → jd < ρ.length → ∃ ρ' st' n, sFor (gN 1) (iR1 (kA1 (kF maxF (kA1 (kc (.int 1)) (kA1 (kF minF (kA1 (kc (.int K)) (kA1 (kF lenF (kA1 (kv 0) kA0)) kA0))) kA0))) kA0))
      (sSeq (sSet jd (kF rnum (kA1 (kv 0) (kA1 (kv 1) kA0)))) G) ρ [] = .nx ρ' st' ∧ DieAt n st' ∧ ρ'.length = ρ.length ∧ ρ'[0]? = ρ[0]? := by
  intro ρ hN h0 hl
  obtain ⟨k, hk1, hk8, hk⟩ : ∃ k : Int, 1 ≤ k ∧ k ≤ 1000 ∧ kF maxF (kA1 (kc (.int 1)) (kA1 (kF minF (kA1 (kc (.int K)) (kA1 (kF lenF (kA1 (kv 0) kA0)) kA0))) kA0)) ρ [] = .ok (.int k) [] := by
    refine ⟨max 1 (min (K : Int) (ns.length : Int)), by omega, by omega, ?_⟩
    simp only [kF, kA1, kA0, kc, kv, h0, R.bind_ok, lenF, minF, maxF, List.length_map]
    congr 2
    omega
  have rl : (rngIts 0 k.toNat).length = k.toNat := by unfold rngIts; simp
  obtain ⟨ρ', st', q1, q2, q3, q4⟩ := for_inv (g := gN 1) (body := sSeq (sSet jd (kF rnum (kA1 (kv 0) (kA1 (kv 1) kA0)))) G) (src := .its (rngIts 0 k.toNat)) (xs := rngIts 0 k.toNat)
    (fun i ρ1 s => ρ1.length = ρ.length ∧ ρ1[0]? = ρ[0]? ∧ (0 < i → ∃ n, DieAt n s)) (fun i ρ s h => rfl)
    (fun i x ρ1 s hx ⟨hl1, hk1, _⟩ => by
      have hx : ∃ j : Int, 0 ≤ j ∧ x = .int j := by
        have := List.mem_of_getElem? hx
        unfold rngIts at this
        obtain ⟨j, _, rfl⟩ := List.mem_map.mp this
        exact ⟨_, by omega, rfl⟩
      obtain ⟨j, hj, rfl⟩ := hx
      obtain ⟨p, q, hn⟩ := hnum s ns j hj
      have len1 : (ρ1.set 1 (some (.int j))).length = ρ.length := by simpa using hl1
      have hv0 : ∀ s, kv 0 (ρ1.set 1 (some (.int j))) s = .ok (.frz (ns.map D.int)) s := fun s => kv_ok (by rw [List.getElem?_set_ne (by decide), hk1]; exact h0)
      have hv1 : ∀ s, kv 1 (ρ1.set 1 (some (.int j))) s = .ok (.int j) s := fun s => kv_ok (by rw [List.getElem?_set_self (by omega)])
      obtain ⟨ρ2, s2, e2, t2, l2, k2'⟩ := hG ((ρ1.set 1 (some (.int j))).set jd (some (.loc s.length))) (s ++ [.lst [.int p, .int q, .int 0]]) s.length (by simp; omega) (by rw [List.getElem?_set_ne (by omega), List.getElem?_set_ne (by decide), hk1]; exact h0) (by rw [List.getElem?_set_self (by omega)]) ⟨p, q, 0, by rw [stA0]; rfl⟩
      refine ⟨ρ1.set 1 (some (.int j)), ρ2, s2, rfl, .inl ?_, by rw [l2]; simpa using hl1, ?_, fun _ => ⟨_, t2.die⟩⟩
      · simp only [sSeq, sSet, kF, kA1, kA0, hv0, hv1, R.bind_ok, hn, R.toS_ok, RS.andThen_nx]
        exact e2
      · rw [k2', List.getElem?_set_ne (by omega), List.getElem?_set_ne (by decide), hk1])
    (rngIts 0 k.toNat).length 0 ρ [] ((rngIts 0 k.toNat).length + 1) (by omega) (by omega) (by omega) ⟨rfl, rfl, fun h => nomatch h⟩
  obtain ⟨n, hn⟩ := q4 (by omega)
  refine ⟨ρ', st', n, ?_, hn, q2, q3⟩
  have e : iR1 (kA1 (kF maxF (kA1 (kc (.int 1)) (kA1 (kF minF (kA1 (kc (.int K)) (kA1 (kF lenF (kA1 (kv 0) kA0)) kA0))) kA0))) kA0) ρ [] = .ok (.its (rngIts 0 k.toNat)) [] := by
    refine (iR1_eq (a := kA1 (kF maxF (kA1 (kc (.int 1)) (kA1 (kF minF (kA1 (kc (.int K)) (kA1 (kF lenF (kA1 (kv 0) kA0)) kA0))) kA0))) kA0) (ds := [.int k]) (st1 := []) ?_).trans (rng1_ok (by omega))
    rw [kA1]
    show (kF maxF _ ρ []).bind _ = _
    rw [hk]
    rfl
  exact sFor_its e q1
/-- a for over what does not change, that keeps something -/
theorem for_keep {g : KG} {body : KS} {it : KI} {ρ : Env3} {st st1 : Sto} {xs : List D} (P : Env3 → Sto → Prop) (hi : it ρ st = .ok (.its xs) st1) (h0 : P ρ st1)
    (step : ∀ x ∈ xs, ∀ ρ s, P ρ s → ∃ ρ1 ρ2 s2, g x ρ = some ρ1 ∧ body ρ1 s = .nx ρ2 s2 ∧ P ρ2 s2) : ∃ ρ' st', sFor g it body ρ st = .nx ρ' st' ∧ P ρ' st' := by
  obtain ⟨ρ', st', q1, q2⟩ := for_inv (g := g) (body := body) (src := .its xs) (xs := xs) (fun i ρ s => P ρ s) (fun i ρ s h => rfl)
    (fun i x ρ s hx h => by
      obtain ⟨ρ1, ρ2, s2, a, b, c⟩ := step x (List.mem_of_getElem? hx) ρ s h
      exact ⟨ρ1, ρ2, s2, a, .inl b, c⟩)
    xs.length 0 ρ st1 (xs.length + 1) (by omega) (by omega) (by omega) h0
  exact ⟨ρ', st', sFor_its hi q1, q2⟩
theorem env5 {ρ : Env3} (h : ρ.length = 5) : ∃ a b c d e, ρ = [a, b, c, d, e] := by
  match ρ, h with
  | [a, b, c, d, e], _ => exact ⟨a, b, c, d, e, rfl⟩
theorem env6 {ρ : Env3} (h : ρ.length = 6) : ∃ a b c d e f, ρ = [a, b, c, d, e, f] := by
  match ρ, h with
  | [a, b, c, d, e, f], _ => exact ⟨a, b, c, d, e, f, rfl⟩
theorem env7 {ρ : Env3} (h : ρ.length = 7) : ∃ a b c d e f g, ρ = [a, b, c, d, e, f, g] := by
  match ρ, h with
  | [a, b, c, d, e, f, g], _ => exact ⟨a, b, c, d, e, f, g, rfl⟩
theorem env9 {ρ : Env3} (h : ρ.length = 9) : ∃ a b c d e f g i j, ρ = [a, b, c, d, e, f, g, i, j] := by
  match ρ, h with
  | [a, b, c, d, e, f, g, i, j], _ => exact ⟨a, b, c, d, e, f, g, i, j, rfl⟩
end L3

/-! == of any value with a text, an int, a tuple of such. -/
namespace L3
open PySem PySem.Spec PyProof.Rows L2
section
variable {A : Around} {s : Shared}
theorem int_eq_declines_dict (b : Int) (u : Tok) (l : Addr) (c : Value) (es : Array DictEntry) (ep : Nat) (dd : Option Addr) (sl : Array (Option Value)) :
    Meets (Builtin.«int.__eq__» ⟨[.int b u, .ref l], []⟩) (fun _ R s => s.heap.get? l = some { cls := c, dict := dd, data := .dict es ep, slots := sl } ∧ R (.ok (.ret .notImplemented)) s) :=
  .of_wp fun prog w A R s h => by obtain ⟨hp, g, d, tk, os⟩ := s; obtain ⟨hl, h⟩ := h; wp_walk using wpAny_loadPart' hl, wpAny_load hl; exact ⟨_, rfl, h⟩
theorem dict_eq_declines_int (l : Addr) (es : Array DictEntry) (ep : Nat) (dd : Option Addr) (sl : Array (Option Value)) (b : Int) (u : Tok) :
    Meets (Builtin.«dict.__eq__» ⟨[.ref l, .int b u], []⟩) (fun _ R s => s.heap.get? l = some { cls := .type "dict", dict := dd, data := .dict es ep, slots := sl } ∧ R (.ok (.ret .notImplemented)) s) :=
  .of_wp fun prog w A R s h => by obtain ⟨hp, g, d, tk, os⟩ := s; obtain ⟨hl, h⟩ := h; have f1 := F.sub_int_dict; wp_walk using wpAny_loadPart' hl; exact ⟨_, rfl, h⟩
theorem dict_eq_declines_tuple (l b : Addr) (es : Array DictEntry) (ep : Nat) (dd : Option Addr) (sl : Array (Option Value)) (items2 : Array Value) (n2 : Nat) (dd2 : Option Addr) (sl2 : Array (Option Value)) :
    Meets (Builtin.«dict.__eq__» ⟨[.ref l, .ref b], []⟩) (fun _ R s => s.heap.get? l = some { cls := .type "dict", dict := dd, data := .dict es ep, slots := sl } ∧ s.heap.get? b = some { cls := .type "tuple", dict := dd2, data := .seq items2 n2, slots := sl2 } ∧ R (.ok (.ret .notImplemented)) s) :=
  .of_wp fun prog w A R s h => by obtain ⟨hp, g, d, tk, os⟩ := s; obtain ⟨hl, hb, h⟩ := h; have f1 := F.sub_tuple_dict; wp_walk using wpAny_loadPart' hl, wpAny_loadPart' hb; exact ⟨_, rfl, h⟩
theorem tuple_eq_declines_dict (l b : Addr) (es : Array DictEntry) (ep : Nat) (dd : Option Addr) (sl : Array (Option Value)) (items2 : Array Value) (n2 : Nat) (dd2 : Option Addr) (sl2 : Array (Option Value)) :
    Meets (Builtin.«tuple.__eq__» ⟨[.ref b, .ref l], []⟩) (fun _ R s => s.heap.get? l = some { cls := .type "dict", dict := dd, data := .dict es ep, slots := sl } ∧ s.heap.get? b = some { cls := .type "tuple", dict := dd2, data := .seq items2 n2, slots := sl2 } ∧ R (.ok (.ret .notImplemented)) s) :=
  .of_wp fun prog w A R s h => by obtain ⟨hp, g, d, tk, os⟩ := s; obtain ⟨hl, hb, h⟩ := h; have f1 := F.sub_dict_tuple; wp_walk using wpAny_loadPart' hl, wpAny_loadPart' hb; exact ⟨_, rfl, h⟩
theorem RcAt.dict_str {l : Addr} {o : Obj} {es : Array DictEntry} {ep : Nat} (b : Str) (u : Tok) (hl : s.heap.get? l = some o) (hc : o.cls = .type "dict") (hd : o.data = .dict es ep) (hu : A.units < cLine) : SeqAt.RcAt A s (.ref l) (.str b u) false := fun prog w E Q h => by
  obtain ⟨cls, dd, data, sl⟩ := o
  simp only at hc hd
  subst hc hd
  exact SeqAt.rc_eq_decline_or (k := false) ⟨_, hl, rfl⟩ (typeIs_str s b u) (by decide) F.sub_str_dict F.slot_dict_eq F.slot_str_eq_refl
    (fun _ hq => call_meets F.slot_dict_eq ⟨_, hl, rfl⟩ F.entry_dict_eq (F.args_dict_eq_2 _ _) (dict_eq_declines_str l es ep dd sl b u) ⟨hl, hq⟩)
    (fun _ hq => call_meets F.slot_str_eq_refl (typeIs_str s b u) F.entry_str_eq (F.args_str_eq_2 _ _) (str_eq_declines_dict b u l (.type "dict") es ep dd sl) ⟨hl, hq⟩)
    (fun _ hq => wpAny_of_eq (rfl : isSame (.ref l) (.str b u) = pure false) hq) (.inr hu) h
theorem RcAt.dict_int {l : Addr} {o : Obj} {es : Array DictEntry} {ep : Nat} (b : Int) (u : Tok) (hl : s.heap.get? l = some o) (hc : o.cls = .type "dict") (hd : o.data = .dict es ep) (hu : A.units < cLine) : SeqAt.RcAt A s (.ref l) (.int b u) false := fun prog w E Q h => by
  obtain ⟨cls, dd, data, sl⟩ := o
  simp only at hc hd
  subst hc hd
  exact SeqAt.rc_eq_decline_or (k := false) ⟨_, hl, rfl⟩ (typeIs_int s b u) (by decide) F.sub_int_dict F.slot_dict_eq F.slot_int_eq_refl
    (fun _ hq => call_meets F.slot_dict_eq ⟨_, hl, rfl⟩ F.entry_dict_eq (F.args_dict_eq_2 _ _) (dict_eq_declines_int l es ep dd sl b u) ⟨hl, hq⟩)
    (fun _ hq => call_meets F.slot_int_eq_refl (typeIs_int s b u) F.entry_int_eq (F.args_int_eq_2 _ _) (int_eq_declines_dict b u l (.type "dict") es ep dd sl) ⟨hl, hq⟩)
    (fun _ hq => wpAny_of_eq (rfl : isSame (.ref l) (.int b u) = pure false) hq) (.inr hu) h
theorem RcAt.dict_tuple {l b : Addr} {o : Obj} {es : Array DictEntry} {ep : Nat} {items : Array Value} (hl : s.heap.get? l = some o) (hc : o.cls = .type "dict") (hd : o.data = .dict es ep) (hb : s.heap.IsTuple b items) (hu : A.units < cLine) : SeqAt.RcAt A s (.ref l) (.ref b) false := fun prog w E Q h => by
  obtain ⟨cls, dd, data, sl⟩ := o
  obtain ⟨⟨cls2, dd2, data2, sl2⟩, ho2, hc2, n2, hd2⟩ := id hb
  simp only at hc hd hc2 hd2
  subst hc hd hc2 hd2
  have hne : l ≠ b := fun e => by
    subst e
    have := hl.symm.trans ho2
    injection this with z
    have z2 := congrArg Obj.cls z
    exact absurd z2 (by simp)
  exact SeqAt.rc_eq_decline_or (k := false) ⟨_, hl, rfl⟩ ⟨_, ho2, rfl⟩ (by decide) F.sub_tuple_dict F.slot_dict_eq F.slot_tuple_eq_refl
    (fun _ hq => call_meets F.slot_dict_eq ⟨_, hl, rfl⟩ F.entry_dict_eq (F.args_dict_eq_2 _ _) (dict_eq_declines_tuple l b es ep dd sl items n2 dd2 sl2) ⟨hl, ho2, hq⟩)
    (fun _ hq => call_meets F.slot_tuple_eq_refl ⟨_, ho2, rfl⟩ F.entry_tuple_eq (F.args_tuple_eq_2 _ _) (tuple_eq_declines_dict l b es ep dd sl items n2 dd2 sl2) ⟨hl, ho2, hq⟩)
    (fun _ hq => wpAny_isSame_ref_other hne hl ho2 (by simp) hq) (.inr hu) h
theorem EqAt.dict_str {l : Addr} {b : Str} {u : Tok} (h : SeqAt.RcAt A s (.ref l) (.str b u) false) : SeqAt.EqAt A s (.ref l) (.str b u) false := fun prog w E Q hq => by
  unfold eqBool
  refine wpAny_holding ?_
  refine wpAny_ite_split (fun hab => absurd (eq_of_beq hab) nofun) (fun _ => ?_)
  exact wpAny_bind (h prog w E _ (wpAny_truthy_bool hq))
theorem EqAt.dict_int {l : Addr} {b : Int} {u : Tok} (h : SeqAt.RcAt A s (.ref l) (.int b u) false) : SeqAt.EqAt A s (.ref l) (.int b u) false := fun prog w E Q hq => by
  unfold eqBool
  refine wpAny_holding ?_
  refine wpAny_ite_split (fun hab => absurd (eq_of_beq hab) nofun) (fun _ => ?_)
  exact wpAny_bind (h prog w E _ (wpAny_truthy_bool hq))
end
def eqI (x : D) (j : Int) : Bool := match x with
  | .int i => i == j
  | .bl b => (if b then 1 else 0) == j
  | _ => false
def scB : D → Bool
  | .str _ | .int _ => true
  | _ => false
/-- the other way round -/
def isT' (d : D) (b : Str) : Bool := match d with
  | .str y => y == b
  | _ => false
def eqSc (x y : D) : Bool := match y with
  | .str b => isT' x b
  | .int j => eqI x j
  | _ => false
def eqScs (xs ys : List D) : Bool := (List.range (min xs.length ys.length)).all (fun j => eqSc (xs.getD j .non) (ys.getD j .non)) && xs.length == ys.length
def eqX (x y : D) (st : Sto) : R D := match y with
  | .str b => if plW x st = true then .ok (.bl (isT' x b)) st else .bad
  | .int j => if plW x st = true then .ok (.bl (eqI x j)) st else .bad
  | .tup ys => match x with
    | .tup xs => if (xs.all fun d => plW d st) = true ∧ ys.all scB = true then .ok (.bl (eqScs xs ys)) st else .bad
    | x => if plW x st = true then .ok (.bl false) st else .bad
  | _ => eqD x y st
section
variable {X : Cx} {W : WX}
theorem dict_at {pins : List (Addr × Obj)} {s : Shared} {σ : L2.St} {H : Hp} {a : Addr} {ws : List (Key × V)} (I : Inv X pins σ H s) (h4 : H a = some (.dK ws)) : ∃ o es ep, s.heap.get? a = some o ∧ o.cls = .type "dict" ∧ o.data = .dict es ep := by
  obtain ⟨_, _, vs, _, o, es, ep, g1, g2, g3, _⟩ := (show ObjOk X.prog X.w H s.heap a (.dK ws) from I.hok a _ h4)
  exact ⟨o, es, ep, g1, g2.1, g3⟩
theorem rcAt_text {A : Around} {pins : List (Addr × Obj)} {s : Shared} {σ : L2.St} {H : Hp} {β : List Addr} {st : Sto} (I : Inv X pins σ H s) (S : Sim X.K X.mg β st H) (b : Str) (t : Tok) {d : D} {v : V} {u : Value} (hd : plW d st = true) (r : VR X.K β H d v) (ru : RelV v u) (hu : A.units < cLine) :
    SeqAt.EqAt A s u (.str b t) (isT' d b) ∧ SeqAt.RcAt A s u (.str b t) (isT' d b) := by
  have lst : ∀ {a : Addr} {ws : List V}, SqL X.K H a ws → SeqAt.EqAt A s (.ref a) (.str b t) false ∧ SeqAt.RcAt A s (.ref a) (.str b t) false := fun h => by
    obtain ⟨its, rv, hl, _⟩ := I.list h
    exact ⟨SeqAt.EqAt.list_str b t hl.isList hu, SeqAt.RcAt.list_str b t hl.isList hu⟩
  cases d with
  | non => cases VR.non.mp r; cases ru; exact ⟨SeqAt.EqAt.none_str b t, SeqAt.RcAt.none_str b t⟩
  | bl k => cases VR.bl.mp r; cases ru; exact ⟨SeqAt.EqAt.bool_str k b t, SeqAt.RcAt.bool_str k b t⟩
  | int i => cases VR.int.mp r; obtain ⟨q, rfl⟩ := (show ∃ q, u = Value.int i q from ru); exact ⟨SeqAt.EqAt.int_str i q b t, SeqAt.RcAt.int_str i q b t⟩
  | str y => cases VR.str.mp r; obtain ⟨q, rfl⟩ := (show ∃ q, u = Value.str y q from ru); exact ⟨SeqAt.EqAt.str_str y q b t, SeqAt.RcAt.str_str y q b t⟩
  | tup xs =>
    obtain ⟨a, vs, rfl, h1, h2⟩ := VR.tupS r
    cases ru
    obtain ⟨its, rv, hl, _⟩ := I.tuple h1
    exact ⟨SeqAt.EqAt.tuple_str b t hl hu, SeqAt.RcAt.tuple_str b t hl hu⟩
  | frz xs =>
    obtain ⟨a, vs, rfl, h1, h2⟩ := VR.frz.mp r
    cases ru
    exact lst h1.sq
  | cls a => cases hd
  | lam _ _ _ => cases hd
  | fn _ _ => cases hd
  | fdk _ _ => cases hd
  | loc n =>
    obtain ⟨a, h1, rfl⟩ := VR.loc.mp r
    cases ru
    obtain ⟨o, h2, h3⟩ := S.at h1
    simp only [plW, h2] at hd
    cases o with
    | lst ys => obtain ⟨ws, h4, h5⟩ := h3; exact lst (SqL.of h4)
    | dK ks =>
      obtain ⟨ws, h4, h5⟩ := h3
      obtain ⟨o, es, ep, g1, g2, g3⟩ := dict_at I h4
      have := RcAt.dict_str (A := A) b t g1 g2 g3 hu
      exact ⟨EqAt.dict_str this, this⟩
    | _ => cases hd
theorem rcAt_num {A : Around} {pins : List (Addr × Obj)} {s : Shared} {σ : L2.St} {H : Hp} {β : List Addr} {st : Sto} (I : Inv X pins σ H s) (S : Sim X.K X.mg β st H) (b : Int) (t : Tok) {d : D} {v : V} {u : Value} (hd : plW d st = true) (r : VR X.K β H d v) (ru : RelV v u) (hu : A.units < cLine) :
    SeqAt.EqAt A s u (.int b t) (eqI d b) ∧ SeqAt.RcAt A s u (.int b t) (eqI d b) := by
  have lst : ∀ {a : Addr} {ws : List V}, SqL X.K H a ws → SeqAt.EqAt A s (.ref a) (.int b t) false ∧ SeqAt.RcAt A s (.ref a) (.int b t) false := fun h => by
    obtain ⟨its, rv, hl, _⟩ := I.list h
    exact ⟨SeqAt.EqAt.list_int b t hl.isList hu, SeqAt.RcAt.list_int b t hl.isList hu⟩
  cases d with
  | non => cases VR.non.mp r; cases ru; exact ⟨SeqAt.EqAt.none_int b t, SeqAt.RcAt.none_int b t⟩
  | bl k => cases VR.bl.mp r; cases ru; exact ⟨SeqAt.EqAt.bool_int k b t, SeqAt.RcAt.bool_int k b t⟩
  | int i => cases VR.int.mp r; obtain ⟨q, rfl⟩ := (show ∃ q, u = Value.int i q from ru); exact ⟨SeqAt.EqAt.int_int i q b t, SeqAt.RcAt.int_int i q b t⟩
  | str y => cases VR.str.mp r; obtain ⟨q, rfl⟩ := (show ∃ q, u = Value.str y q from ru); exact ⟨SeqAt.EqAt.str_int y q b t, SeqAt.RcAt.str_int y q b t⟩
  | tup xs =>
    obtain ⟨a, vs, rfl, h1, h2⟩ := VR.tupS r
    cases ru
    obtain ⟨its, rv, hl, _⟩ := I.tuple h1
    exact ⟨SeqAt.EqAt.tuple_int b t hl hu, SeqAt.RcAt.tuple_int b t hl hu⟩
  | frz xs =>
    obtain ⟨a, vs, rfl, h1, h2⟩ := VR.frz.mp r
    cases ru
    exact lst h1.sq
  | cls a => cases hd
  | lam _ _ _ => cases hd
  | fn _ _ => cases hd
  | fdk _ _ => cases hd
  | loc n =>
    obtain ⟨a, h1, rfl⟩ := VR.loc.mp r
    cases ru
    obtain ⟨o, h2, h3⟩ := S.at h1
    simp only [plW, h2] at hd
    cases o with
    | lst ys => obtain ⟨ws, h4, h5⟩ := h3; exact lst (SqL.of h4)
    | dK ks =>
      obtain ⟨ws, h4, h5⟩ := h3
      obtain ⟨o, es, ep, g1, g2, g3⟩ := dict_at I h4
      have := RcAt.dict_int (A := A) b t g1 g2 g3 hu
      exact ⟨EqAt.dict_int this, this⟩
    | _ => cases hd
/-- any value but a tuple, with a tuple -/
theorem rcAt_tup {A : Around} {pins : List (Addr × Obj)} {s : Shared} {σ : L2.St} {H : Hp} {β : List Addr} {st : Sto} (I : Inv X pins σ H s) (S : Sim X.K X.mg β st H) {c : Addr} {items : Array Value} (hb : s.heap.IsTuple c items) {d : D} {v : V} {u : Value} (hd : plW d st = true) (hn : ∀ xs, d ≠ .tup xs) (r : VR X.K β H d v) (ru : RelV v u) (hu : A.units < cLine) :
    SeqAt.RcAt A s u (.ref c) false := by
  have lst : ∀ {a : Addr} {ws : List V}, SqL X.K H a ws → SeqAt.RcAt A s (.ref a) (.ref c) false := fun h => by
    obtain ⟨its, rv, hl, _⟩ := I.list h
    exact SeqAt.RcAt.list_tuple hl.isList hb hu
  cases d with
  | non => cases VR.non.mp r; cases ru; exact SeqAt.RcAt.none_tuple hb hu
  | bl k => cases VR.bl.mp r; cases ru; exact SeqAt.RcAt.bool_tuple k hb hu
  | int i => cases VR.int.mp r; obtain ⟨q, rfl⟩ := (show ∃ q, u = Value.int i q from ru); exact SeqAt.RcAt.int_tuple i q hb hu
  | str y => cases VR.str.mp r; obtain ⟨q, rfl⟩ := (show ∃ q, u = Value.str y q from ru); exact SeqAt.RcAt.str_tuple y q hb hu
  | tup xs => exact absurd rfl (hn xs)
  | frz xs =>
    obtain ⟨a, vs, rfl, h1, h2⟩ := VR.frz.mp r
    cases ru
    exact lst h1.sq
  | cls a => cases hd
  | lam _ _ _ => cases hd
  | fn _ _ => cases hd
  | fdk _ _ => cases hd
  | loc n =>
    obtain ⟨a, h1, rfl⟩ := VR.loc.mp r
    cases ru
    obtain ⟨o, h2, h3⟩ := S.at h1
    simp only [plW, h2] at hd
    cases o with
    | lst ys => obtain ⟨ws, h4, h5⟩ := h3; exact lst (SqL.of h4)
    | dK ks =>
      obtain ⟨ws, h4, h5⟩ := h3
      obtain ⟨o, es, ep, g1, g2, g3⟩ := dict_at I h4
      exact RcAt.dict_tuple g1 g2 g3 hb hu
    | _ => cases hd
theorem vals_get : ∀ {vs : List V} {us : List Value} (j : Nat) {v : V}, Vals vs us → vs[j]? = some v → ∃ u, us[j]? = some u ∧ RelV v u
  | [], us, j, v, h, e => by simp at e
  | w :: vs, us, j, v, h, e => by
    obtain ⟨u, r, rfl, h1, h2⟩ := vals_cons h
    cases j with
    | zero => simp at e; subst e; exact ⟨u, rfl, h1⟩
    | succ j => simpa using vals_get j h2 (by simpa using e)
theorem o_eqX (hu : X.A.units + 64 < cLine) : OpS X W (compareOp .Eq) eqX := fun pins s σ H x y v u Q β st dx dy I r1 r2 S rx ry p => by
  unfold eqX at p
  split at p
  · split at p
    · rename_i hp
      cases VR.str.mp ry
      obtain ⟨t, rfl⟩ := (show ∃ t, u = Value.str _ t from r2)
      exact (rcAt_text (A := X.A) I S _ t hp rx r1 (by omega)).2 _ _ _ _ ⟨.bl _, H, I, rfl, fin p S (VR.bl.mpr rfl)⟩
    · exact p.elim
  · split at p
    · rename_i hp
      cases VR.int.mp ry
      obtain ⟨t, rfl⟩ := (show ∃ t, u = Value.int _ t from r2)
      exact (rcAt_num (A := X.A) I S _ t hp rx r1 (by omega)).2 _ _ _ _ ⟨.bl _, H, I, rfl, fin p S (VR.bl.mpr rfl)⟩
    · exact p.elim
  · rename_i ys
    obtain ⟨b, ws, rfl, g1, g2⟩ := VR.tupS ry
    cases r2
    obtain ⟨its2, rv2, hb, _⟩ := I.tuple g1
    split at p
    · rename_i xs
      split at p
      · rename_i hp
        obtain ⟨a, vs, rfl, h1, h2⟩ := VR.tupS rx
        cases r1
        obtain ⟨its, rv, hl, _⟩ := I.tuple h1
        have lx : its.length = xs.length := by rw [← rv.length, h2.length]
        have ly : its2.length = ys.length := by rw [← rv2.length, g2.length]
        refine SeqAt.RcAt.tuples (A := X.A) (e := fun j => eqSc (xs.getD j .non) (ys.getD j .non)) hl hb (by omega) (fun j j1 j2 => ?_) _ _ _ _ ?_
        · have j1' : j < xs.length := by rw [← lx]; simpa using j1
          have j2' : j < ys.length := by rw [← ly]; simpa using j2
          have ex := List.getElem?_eq_getElem j1'
          have ey := List.getElem?_eq_getElem j2'
          obtain ⟨vx, q1, q2⟩ := h2.getD ex
          obtain ⟨vy, q3, q4⟩ := g2.getD ey
          obtain ⟨ux, q5, q6⟩ := vals_get j rv q1
          obtain ⟨uy, q7, q8⟩ := vals_get j rv2 q3
          have e1 : its.toArray[j] = ux := by
            have := List.getElem?_eq_some_iff.mp q5
            simpa using this.2
          have e2 : its2.toArray[j] = uy := by
            have := List.getElem?_eq_some_iff.mp q7
            simpa using this.2
          rw [e1, e2, List.getD_eq_getElem?_getD, ex, List.getD_eq_getElem?_getD, ey, Option.getD_some, Option.getD_some]
          have px : plW xs[j] st = true := List.all_eq_true.mp hp.1 _ (List.getElem_mem j1')
          have py : scB ys[j] = true := List.all_eq_true.mp hp.2 _ (List.getElem_mem j2')
          have hu1 : X.A.in1.units < cLine := by show X.A.units + 1 < cLine; omega
          generalize ys[j] = d at q4 py ⊢
          cases d with
          | str b =>
            cases VR.str.mp q4
            obtain ⟨t, rfl⟩ := (show ∃ t, uy = Value.str _ t from q8)
            exact (rcAt_text (A := X.A.in1) I S _ t px q2 q6 hu1).1
          | int b =>
            cases VR.int.mp q4
            obtain ⟨t, rfl⟩ := (show ∃ t, uy = Value.int _ t from q8)
            exact (rcAt_num (A := X.A.in1) I S _ t px q2 q6 hu1).1
          | _ => cases py
        · refine ⟨.bl _, H, I, rfl, ?_⟩
          have := fin p S (VR.bl.mpr rfl)
          unfold eqScs at this
          simp only [List.size_toArray, lx, ly]
          exact this
      · exact p.elim
    · rename_i hx
      split at p
      · rename_i hp
        exact rcAt_tup (A := X.A) I S hb hp (fun xs e => hx xs e) rx r1 (by omega) _ _ _ _ ⟨.bl _, H, I, rfl, fin p S (VR.bl.mpr rfl)⟩
      · exact p.elim
  · exact o_eq hu pins s σ H x y v u Q β st dx dy I r1 r2 S rx ry p
end
end L3

namespace L3
open PySem PySem.Spec PyProof.Rows L2
/-! ### sorted of rows, as a list that nobody changes -/
def sortRowsZ (xs : List D) (st : Sto) : R D := if (xs.all rowOk && (xs.all fun x => xs.all fun y => sameK (keyOf x) (keyOf y))) = true then .ok (.frz (sortD xs)) st else .bad
def sortFZ (ds : List D) (st : Sto) : R D := match ds with
  | [.tup xs] => sortRowsZ xs st
  | [.frz xs] => sortRowsZ xs st
  | [.loc n] => match st[n]? with
    | some (.lst xs) => sortRowsZ xs st
    | _ => .bad
  | _ => .bad
section
variable {X : Cx} {W : WX}
theorem sortFZ_one {pins : List (Addr × Obj)} {s : Shared} {σ : L2.St} {H : Hp} {Q : VK} {β : List Addr} {st : Sto} {xs : List D} {vs : List V} {us : List Value} {a : Addr} {T : String} {o : Obj} {n : Nat} (I : Inv X pins σ H s) (S : Sim X.K X.mg β st H) (hT : T = "list" ∨ T = "tuple") (ho : s.heap.get? a = some o) (hc : o.cls = .type T) (hd : o.data = .seq us.toArray n)
    (rv : Vals vs us) (rd : VRs X.K β H xs vs) (hz : us.length ≤ sizeLine) (p : PostA X.K X.mg W σ (okE X.K Q) β H (sortRowsZ xs st)) : wpAny (model X.prog X.w) X.A (call (.builtin "sorted") [.ref a]) (EP X pins σ Q) X.xe s := by
  unfold sortRowsZ at p
  split at p
  · rename_i hb
    obtain ⟨hb1, hb2⟩ := Bool.and_eq_true_iff.mp hb
    have P := pair3 rd rv
    obtain ⟨k, hk⟩ : ∃ k : Value → List Key, ∀ u ks, RowAt s.heap u ks → k u = ks := by
      classical
      refine ⟨fun u => if h : ∃ ks, RowAt s.heap u ks then h.choose else [], fun u ks h => ?_⟩
      simp only
      rw [dif_pos ⟨ks, h⟩]
      exact row_uniq (Exists.choose_spec (⟨ks, h⟩ : ∃ ks, RowAt s.heap u ks)) h
    have row : ∀ d u, d ∈ xs → (∃ v, VR X.K β H d v ∧ RelV v u) → RowAt s.heap u (keyOf d) ∧ keyOf d ≠ [] ∧ ∃ t, u = Value.ref t := fun d u hdm ⟨v, r1, r2⟩ => by
      obtain ⟨ds, ks, rfl, e1, e2, e3⟩ := row_keys (List.all_eq_true.mp hb1 d hdm)
      obtain ⟨t, ws, rfl, h1, h2⟩ := VR.tup.mp r1
      have hu : u = Value.ref t := r2
      subst hu
      rw [e2]
      refine ⟨?_, e3, t, rfl⟩
      rw [keysD_rel e1 h2] at h1
      obtain ⟨_, its, r, x, g1, g2, m, g3⟩ := (show ObjOk X.prog X.w H s.heap t (.tup (ks.map kV)) from I.hok t _ h1)
      exact ⟨t, x, its.toArray, m, rfl, g1, g2, g3, by simpa using r⟩
    have rk : ∀ u ∈ us, ∃ d ∈ xs, (∃ v, VR X.K β H d v ∧ RelV v u) ∧ k u = keyOf d ∧ RowAt s.heap u (k u) ∧ k u ≠ [] := fun u hu => by
      obtain ⟨d, hdm, q⟩ := (paired_mem P).1 u hu
      obtain ⟨g1, g2, _⟩ := row d u hdm q
      have e := hk u _ g1
      exact ⟨d, hdm, q, e, by rw [e]; exact g1, by rw [e]; exact g2⟩
    refine thn (Q := EP X pins σ (FQ Q)) ?_ fun v s' q => EP_fz q
    refine sorted_seq hT ho hc hd (swo_row k) hz (fun h2 h1 b hb' keep => row_sortable (s := { s with heap := h1 }) (by omega) (fun u hu => ?_) (fun u hu v hv => ?_) fun x e => ?_) fun h1 h' d out hs hp kp1 kp2 hd' hn => ?_
    · obtain ⟨_, _, _, _, g1, g2⟩ := rk u hu
      exact ⟨g1.keeps fun b x e _ => (keep b x e).2, g2⟩
    · obtain ⟨d1, m1, _, e1, _, _⟩ := rk u hu
      obtain ⟨d2, m2, _, e2, _, _⟩ := rk v hv
      rw [e1, e2]
      exact List.all_eq_true.mp (List.all_eq_true.mp hb2 d1 m1) d2 m2
    · have e' : some x = some (seqObj "list" us.toArray 0) := e.symm.trans hb'
      cases e'
      intro c
      exact absurd (Value.type.inj c) (by decide)
    · obtain ⟨ys, q1, q2⟩ := perm_pair hp.perm P
      have hys : ∀ y ∈ ys, y ∈ xs := fun y hy => q1.mem_iff.mp hy
      have e : ys = sortD xs := by
        refine (q1.trans (List.mergeSort_perm xs leRow).symm).eq_of_pairwise (le := fun a b => leRow a b = true) (fun a b ha hb' h1 h2 => ?_) ?_ ?_
        · exact row_eq (List.all_eq_true.mp hb1 a (hys a ha)) (List.all_eq_true.mp hb1 b ((List.mergeSort_perm xs leRow).mem_iff.mp hb')) h1 h2
        · have q3 : Paired (fun d u => d ∈ xs ∧ ∃ v, VR X.K β H d v ∧ RelV v u) ys out := by
            clear hs hp hn
            have : ∀ {l : List D} {m : List Value}, (∀ y ∈ l, y ∈ xs) → Paired (fun d u => ∃ v, VR X.K β H d v ∧ RelV v u) l m → Paired (fun d u => d ∈ xs ∧ ∃ v, VR X.K β H d v ∧ RelV v u) l m := fun hl z => by
              induction z with
              | nil => exact .nil
              | cons c z ih => exact .cons ⟨hl _ List.mem_cons_self, c⟩ (ih fun y hy => hl y (List.mem_cons_of_mem _ hy))
            exact this hys q2
          refine paired_pw (fun x y u v ⟨hx, hu⟩ ⟨hy, hv⟩ h => ?_) q3 hs
          obtain ⟨g1, _⟩ := row x u hx hu
          obtain ⟨g2, _⟩ := row y v hy hv
          have h : lexK (k v) (k u) = false := h
          rw [hk u _ g1, hk v _ g2] at h
          unfold leRow
          rw [h]
          rfl
        · exact List.pairwise_mergeSort leRow_tr leRow_tot xs
      subst e
      have h3 : ∀ u ∈ out, ∃ t, u = Value.ref t := fun u hu => by
        obtain ⟨y, hy, q⟩ := (paired_mem q2).1 u hu
        exact (row y u (hys y hy) q).2.2
      obtain ⟨m, hn⟩ := hn
      have I1 := I.kept (t' := s.toks) kp1
      have hf : H d = none := I1.hok.fresh hd'
      have hl : (out.map backV).length ≤ sizeLine := by rw [List.length_map, hp.len]; exact hz
      have J : Inv X pins σ (upd H d (.lst (out.map backV))) { s with heap := h', toks := s.toks } := I1.laid (t' := s.toks) kp2 hd' ⟨hl, out, m, vals_back h3, hn⟩
      have ex := ext_new (β := β) (o := .lst (out.map backV)) hf
      have vr : ∀ {l : List D} {r : List Value}, Paired (fun d u => ∃ v, VR X.K β H d v ∧ RelV v u) l r → (∀ u ∈ r, ∃ t, u = Value.ref t) → VRs X.K β H l (r.map backV) := fun z => by
        induction z with
        | nil => intro _; exact VRs.nil.mpr rfl
        | @cons d1 u1 l r c z ih =>
          intro hr
          obtain ⟨v1, c1, c2⟩ := c
          obtain ⟨t, rfl⟩ := hr _ List.mem_cons_self
          have ev : v1 = V.ref t := by
            cases v1 <;> first | (cases c2; rfl) | (cases c2; done) | (obtain ⟨_, c2⟩ := c2; cases c2)
          rw [List.map_cons]
          exact VRs.cons.mpr ⟨_, _, rfl, by rw [← show v1 = backV (.ref t) from ev]; exact c1, ih fun u hu => hr u (List.mem_cons_of_mem _ hu)⟩
      have h0 := vr q2 h3
      exact ⟨.ref d, _, J, rfl, newFz S h0 hf p⟩
  · exact p.elim
theorem c_sortFZ : CallS X W (.builtin "sorted") sortFZ := fun pins s σ H xs us Q β st ds I r S rd p => by
  unfold sortFZ at p
  have lst : ∀ {a : Addr} {ys : List D} {ws : List V} {z : List Value}, SqL X.K H a ws → VRs X.K β H ys ws → Vals [V.ref a] z → PostA X.K X.mg W σ (okE X.K Q) β H (sortRowsZ ys st) → wpAny (model X.prog X.w) X.A (call (.builtin "sorted") z) (EP X pins σ Q) X.xe s := fun h1 h2 rz q => by
    obtain ⟨u, rfl, ru⟩ := vals1 rz
    cases ru
    obtain ⟨its, rv, hl, hz⟩ := I.list h1
    obtain ⟨o, ho, hc, n, hd⟩ := hl.isList
    exact sortFZ_one I S (.inl rfl) ho hc hd rv h2 (by rw [← rv.length]; exact hz) q
  split at p
  · obtain ⟨v, rfl, r1⟩ := rd.one
    obtain ⟨a, ws, rfl, h1, h2⟩ := VR.tupS r1
    obtain ⟨u, rfl, ru⟩ := vals1 r
    cases ru
    obtain ⟨its, rv, ⟨o, ho, hc, n, hd⟩, hz⟩ := I.tuple h1
    exact sortFZ_one I S (.inr rfl) ho hc hd rv h2 (by rw [← rv.length]; exact hz) p
  · obtain ⟨v, rfl, r1⟩ := rd.one
    obtain ⟨a, ws, rfl, h1, h2⟩ := VR.frz.mp r1
    exact lst h1.sq h2 r p
  · obtain ⟨v, rfl, r1⟩ := rd.one
    obtain ⟨a, h1, rfl⟩ := VR.loc.mp r1
    obtain ⟨o, h2, h3⟩ := S.at h1
    simp only [h2] at p
    cases o with
    | lst ys => obtain ⟨ws, h4, h5⟩ := h3; exact lst (SqL.of h4) h5 r p
    | _ => exact p.elim
  · exact p.elim
end
end L3

namespace L3
open PySem PySem.Spec PyProof.Rows L2
/-! ### enumerate of lists and tuples -/
set_option maxHeartbeats 1000000 in
theorem meets_enum1 {v : Value} {o : Obj} {H : Heap → Prop} (B : Begins v o H) :
    Meets (Builtin.«enumerate.__new__» ⟨[.type "enumerate", v], []⟩) (fun _ R s => H s.heap ∧
      R (.ok (.ret (.ref (s.heap.push o).objs.size))) { s with heap := (s.heap.push o).push { cls := .type "enumerate", data := .fields #[.none, .bool false, .ref s.heap.objs.size, rawInt 0, .none, .none] } }) :=
  .of_wp fun prog w A R s h => by
    obtain ⟨hp, g, d, tk, os⟩ := s; obtain ⟨h1, h⟩ := h
    have hsub := sub_enumerate
    have q1 : ∀ {A' : Around} {E : Value → Shared → Prop} {Q : Value → Shared → Prop}, Q (.ref hp.objs.size) ⟨hp.push o, g, d, tk, os⟩ → wpAny (model prog w) A' (pyIter v) Q E ⟨hp, g, d, tk, os⟩ :=
      fun q => B.iter prog w _ _ ⟨hp, g, d, tk, os⟩ _ h1 q
    wp_walk using q1
    refine wpAny_stack_any fun st => wpAny_pure ?_
    split
    · rename_i c _ _ _ _ _
      cases (c == Value.type "enumerate")
      · wp_walk using q1
        exact ⟨_, rfl, h⟩
      · wp_walk using q1
        exact ⟨_, rfl, h⟩
    · wp_walk using q1
      exact ⟨_, rfl, h⟩
section
variable {prog : Program} {w : World} {A : Around} {E : Value → Shared → Prop} {s : Shared}
theorem call_enum1 {v : Value} {o : Obj} {H : Heap → Prop} {Q : Value → Shared → Prop} (B : Begins v o H) (h1 : H s.heap)
    (h : ∀ h', IsEnum h' (s.heap.objs.size + 1) s.heap.objs.size 0 .none → h'.get? s.heap.objs.size = some o → h'.objs.size = s.heap.objs.size + 2 →
      (∀ b o, s.heap.get? b = some o → h'.get? b = some o) → Q (.ref (s.heap.objs.size + 1)) { s with heap := h' }) :
    wpAny (model prog w) A (call (.type "enumerate") [v]) Q E s := by
  refine callType_new F.called_enumerate (by decide) (F.typeCall_enumerate_1 _) (F.newCall_enumerate_1 _) (fun obj => F.args_object_init_2 obj _) F.entry_enumerate_new
    (meets_enum1 B) ⟨h1, ?_⟩
  have hz : (s.heap.push o).objs.size = s.heap.objs.size + 1 := Heap.size_push ..
  show _ ∧ _
  rw [hz]
  have he : IsEnum ((s.heap.push o).push { cls := .type "enumerate", data := .fields #[.none, .bool false, .ref s.heap.objs.size, rawInt 0, .none, .none] }) (s.heap.objs.size + 1) s.heap.objs.size 0 .none := by
    have := Heap.get?_push_size (s.heap.push o) (o := { cls := .type "enumerate", data := .fields #[.none, .bool false, .ref s.heap.objs.size, rawInt 0, .none, .none] }) rfl
    rw [hz] at this; exact this
  refine ⟨⟨_, he, rfl⟩, h _ he (Heap.get?_push_of_some _ (Heap.get?_push_size _ B.free)) (by rw [Heap.size_push, hz]) fun b o x => Heap.get?_push_of_some _ (Heap.get?_push_of_some _ x)⟩
end
/-- the tuple at a, each item in a new pair -/
def Iet (K : PySem.W.Frag) (a : Addr) : It :=
  ⟨fun i H => ∃ (xs : List V) (x : V), SqT K H a xs ∧ xs[i]? = some x, fun i H v H' => ∃ T x, v = .ref T ∧ H T = none ∧ H' = upd H T (.tup [.int (i : Nat), x]) ∧ ∀ xs, SqT K H a xs → xs[i]? = some x, fun i H => ∃ xs : List V, SqT K H a xs ∧ xs.length ≤ i⟩
theorem turn_enumT {P : Program} {w : World} {K : PySem.W.Frag} {elts : List Expr} {kk : Nat} {tpos : Pos} (a e it : Addr) :
    Turn P w K (.Tuple elts kk tpos) (Iet K a) [e, it] e (fun i h => (∃ old, IsEnum h e it ((i : Nat) : Int) old) ∧ h.IsTupleIter it a i ∧ e ≠ it ∧ e ≠ a ∧ a ≠ it) where
  mem := by simp
  obj := fun i h st b hb => by
    obtain ⟨⟨old, he⟩, ⟨o, ho, hc, hd⟩, _⟩ := st
    have e' : b = e ∨ b = it := by simpa using hb
    rcases e' with z | z
    · rw [z]; exact ⟨_, he, fun v q => nomatch q⟩
    · rw [z]; exact ⟨o, ho, fun v q => by rw [hd] at q; cases q⟩
  keep := fun i h h' st k => let ⟨⟨old, he⟩, hi, hne⟩ := st; ⟨⟨old, k e (by simp) _ he⟩, hi.at fun o q => k it (by simp) o q, hne⟩
  item := by
    intro X hP hw hK hc i pins s σ H E I hf st hg
    subst hP hw hK
    obtain ⟨⟨old, he⟩, hit, hne, hea, hai⟩ := st
    obtain ⟨xs, x, hq, hx⟩ := hg
    obtain ⟨its, rv, p, hz⟩ := I.tuple hq
    have p' : s.heap.IsTuple a its.toArray := p
    obtain ⟨u, hu, ru⟩ := rv.get hx
    have hel : e < s.heap.objs.size := Heap.lt_size he
    have hil : it < s.heap.objs.size := by obtain ⟨_, q, _⟩ := hit; exact Heap.lt_size q
    have hlt : i < its.toArray.size := by have := (List.getElem?_eq_some_iff.mp hu).1; simpa using this
    refine wpAny_pyNext_enum_itemD (Draws.tuple (A := X.A.in1) (I.ok.hd hc) it a hai its.toArray) he ⟨hit, p'⟩ hlt hne (by simp [hne, hea]) fun x' h' tk hP' ho hst' hT hsz hk => ?_
    obtain rfl : x' = u := by
      have : its[i]? = some x' := by simpa using hP'
      rw [hu] at this
      exact (Option.some.inj this).symm
    refine ⟨_, rfl, wpAny_letOwnedTupleGo_enum (s := { s with heap := h', toks := tk + 1 }) ho fun h'' he' sb => ?_⟩
    have hT2 : h''.get? s.heap.objs.size = some { cls := .type "tuple", data := .seq #[.int i tk, x'] } := (sb.2 _ (Nat.ne_of_gt hel)).trans hT
    have new : ObjOk X.prog X.w (upd H s.heap.objs.size (.tup [.int (i : Nat), x])) h'' s.heap.objs.size (.tup [.int (i : Nat), x]) :=
      ⟨by show 2 ≤ sizeLine; decide, [.int i tk, x'], .cons ⟨_, rfl⟩ (.cons ru .nil), ⟨_, hT2, rfl, _, rfl⟩⟩
    have I1 : Inv X pins σ (upd H s.heap.objs.size (.tup [.int (i : Nat), x])) { s with heap := h'', toks := tk + 1 } :=
      I.turnedNew (ch := [e, it]) (fun b ob hb q => (sb.2 b (fun z => hb (by simp [z]))).trans (hk b ob (fun z => hb (by simp [z])) (fun z => hb (by simp [z])) q)) hf (Nat.le_refl _) new
    refine ⟨.ref s.heap.objs.size, _, I1, rfl, ⟨_, x, rfl, I.hok.fresh (Nat.le_refl _), rfl, fun ys hy => by rw [I.tuple_inj hy hq]; exact hx⟩, ⟨⟨x', ?_⟩, hst'.1.at fun o q => (sb.2 it (Ne.symm hne)).trans q, hne, hea, hai⟩, fun b hb => ?_⟩
    · have e1 : ((i + 1 : Nat) : Int) = (i : Int) + 1 := by omega
      rw [e1]; exact he'
    · have hb' : b < s.heap.objs.size := by
        have e' : b = e ∨ b = it := by simpa using hb
        rcases e' with z | z
        · rw [z]; exact hel
        · rw [z]; exact hil
      rw [upd_ne (Nat.ne_of_lt hb')]
      exact (hf b hb).1
  done := by
    intro X hP hw hK hc i pins s σ H E I hf st hg
    subst hP hw hK
    obtain ⟨⟨old, he⟩, hit, hne, hea, hai⟩ := st
    obtain ⟨xs, hq, hx⟩ := hg
    obtain ⟨its, rv, p, hz⟩ := I.tuple hq
    have p' : s.heap.IsTuple a its.toArray := p
    obtain ⟨f0, f1, f2, f3, f4, f5⟩ := hf it (by simp)
    have hl := rv.length
    have D := Draws.tuple (prog := X.prog) (w := X.w) (A := X.A.in1) (I.ok.hd hc) it a hai its.toArray
    unfold pyNext
    have hT : s.TypeIs (.ref e) "enumerate" := ⟨_, he, rfl⟩
    refine wpAny_bind (wpAny_attempt (wpAny_callSpecial?_slot (name := Str.ofString "__next__") hT F.slot_enumerate_next
      (wpAny_call_entry F.slot_enumerate_next hT F.entry_enumerate_next ?_ (F.args_enumerate_next_1 _))))
    show wpAny _ _ (field (.ref e) 2 >>= _) _ _ _
    refine wpAny_bind (wpAny_field he rfl (x := .ref it) rfl ?_)
    refine wpAny_bind (wpAny_nextOf_tuple_end (A := X.A.in1) (I.ok.hd hc) hit p' (by simp; omega) fun h' x he' hx' => ?_)
    obtain ⟨o, ho, hc'⟩ := hx'
    refine wpAny_bind (wpAny_isInstance (T := "StopIteration") (b := true) ⟨o, ho, hc'⟩ isSubtype_stop ?_)
    exact wpAny_pure ⟨rfl, I.turned (t' := s.toks) (fun b o hb q => he' b o hb q) f0 f1 f3 f4 f5⟩
  self := fun A i s Q E st h => let ⟨⟨_, he⟩, _⟩ := st; wpAny_pyIter_enum he h
def iEnumT (K : PySem.W.Frag) (ta : TA) : TI := fun σ H R => ta σ H fun vs H1 => ∃ a xs, vs = [.ref a] ∧ SqT K H1 a xs ∧ R (Iet K a) H1
theorem pi_enumT {X : Cx} {e : Expr} {ta : TA} {p pos tpos : Pos} {elts : List Expr} {kk : Nat} (hg : Gl X "enumerate") (hm : X.mg "enumerate" = none) (ha : PA X [e] ta) (hs : starEach [e] X.env = [(false, eval e X.env)] := by rfl) :
    PI X (.Tuple elts kk tpos) (.Call (.Name "enumerate" p) [e] [] pos) (iEnumT X.K ta) := by
  refine ⟨fun pins s σ H R I h => ?_⟩
  refine Call_ (ld_blt I hg hm boot_enumerate (PyProof.Rows.callWith_type1 (thn (ha.run pos pins s σ H _ I h) fun us s1 ⟨vs, H1, I1, r1, q1⟩ => ?_) hs rfl))
  obtain ⟨a, xs, ex, hq, q⟩ := q1
  subst ex
  cases r1 with
  | cons r rr =>
    cases rr
    cases r
    obtain ⟨its, rv, p', hz⟩ := I1.tuple hq
    have p2 : s1.heap.IsTuple a its.toArray := p'
    have hal : a < s1.heap.objs.size := by obtain ⟨_, q, _⟩ := p2; exact Heap.lt_size q
    refine call_enum1 (begins_tuple a its.toArray) p2 fun h' he hit hsz hk => wpAny_pyIter_enum he ?_
    have I2 : Inv X pins σ H1 { s1 with heap := h' } := I1.kept (t' := s1.toks) hk
    refine ⟨s1.heap.objs.size + 1, [s1.heap.objs.size + 1, s1.heap.objs.size], _, _, H1, rfl, I2, turn_enumT a (s1.heap.objs.size + 1) s1.heap.objs.size, ⟨⟨.none, he⟩, ⟨_, hit, rfl, rfl⟩, Nat.succ_ne_self _, Nat.ne_of_gt (Nat.lt_succ_of_lt hal), Nat.ne_of_lt hal⟩, fun b hb => ?_, q⟩
    have e' : b = s1.heap.objs.size + 1 ∨ b = s1.heap.objs.size := by simpa using hb
    have hle : s1.heap.objs.size ≤ b := by
      rcases e' with z | z
      · rw [z]; exact Nat.le_add_right _ _
      · rw [z]; exact Nat.le_refl _
    exact I1.fpOk hle (I1.hok.fresh hle)
/-- what enumerate yields -/
def enIts (xs : List D) : List D := xs.mapIdx fun i d => .tup [.int (i : Nat), d]
theorem enIts_get {xs : List D} {i : Nat} {d : D} (h : (enIts xs)[i]? = some d) : ∃ x, xs[i]? = some x ∧ d = .tup [.int (i : Nat), x] := by
  unfold enIts at h
  rw [List.getElem?_mapIdx] at h
  obtain ⟨x, hx, rfl⟩ := Option.map_eq_some_iff.mp h
  exact ⟨x, hx, rfl⟩
theorem enIts_len (xs : List D) : (enIts xs).length = xs.length := by unfold enIts; simp
def enD (ds : List D) (st : Sto) : R Src := match ds with
  | [.frz xs] => .ok (.its (enIts xs)) st
  | _ => .bad
def enT (ds : List D) (st : Sto) : R Src := match ds with
  | [.tup xs] => .ok (.its (enIts xs)) st
  | _ => .bad
/-- enumerate of a list that nobody changes, of a tuple -/
def iEn (a : KA) : KI := fun ρ st => (a ρ st).bind enD
def iEt (a : KA) : KI := fun ρ st => (a ρ st).bind enT
section
variable {X : Cx} {W : WX} {e : Expr} {kas : KA} {p pos tpos : Pos} {elts : List Expr} {kk : Nat}
theorem i_enum (hg : Gl X "enumerate") (hm : X.mg "enumerate" = none) (ha : PA X [e] (liftA X.K X.mg W kas)) (hs : starEach [e] X.env = [(false, eval e X.env)] := by rfl) :
    PI X (.Tuple elts kk tpos) (.Call (.Name "enumerate" p) [e] [] pos) (liftI X.K X.mg W (iEn kas)) :=
  PI.imp (pi_enum hg hm ha hs) fun σ H R ⟨β, ρ, st, S, E, p⟩ => liftA.bind S E p fun ds vs β1 H1 st1 e1 S1 E1 r1 p1 => by
    unfold enD at p1
    split at p1
    · rename_i xs
      obtain ⟨v, r, rfl, h1, h2⟩ := VRs.cons.mp r1
      cases VRs.nil.mp h2
      obtain ⟨q, us, rfl, g1, g2⟩ := VR.frz.mp h1
      refine ⟨q, us, rfl, g1.sq, p1 β1 H1 (Ext.refl _ _) S1 _ fun i β2 H2 st2 e2 S2 => ⟨fun d hd => ?_, fun hd => ?_⟩⟩
      · obtain ⟨x, hx, rfl⟩ := enIts_get (Option.some.inj hd)
        have h3 := e2.fzL g1
        have h4 := VRs.mono e2 _ _ g2
        obtain ⟨w, hw, rw'⟩ := h4.getD hx
        refine ⟨⟨us, w, h3.sq, hw⟩, fun y H' ⟨T, z, ey, hT, eH, hz⟩ => ?_⟩
        subst eH ey
        have := hz us h3.sq
        rw [hw] at this
        cases this
        exact ⟨β2, ext_new0 hT, S2.new0 hT, VR.tup.mpr ⟨T, _, rfl, upd_same, VRs.mono (ext_new0 hT) _ _ (VRs.cons.mpr ⟨_, _, rfl, VR.int.mpr rfl, VRs.cons.mpr ⟨_, _, rfl, rw', VRs.nil.mpr rfl⟩⟩)⟩⟩
      · have hd' := List.getElem?_eq_none_iff.mp (Option.some.inj hd)
        rw [enIts_len] at hd'
        exact ⟨us, (e2.fzL g1).sq, by rw [g2.length]; exact hd'⟩
    · exact p1.elim
theorem i_enumT (hg : Gl X "enumerate") (hm : X.mg "enumerate" = none) (ha : PA X [e] (liftA X.K X.mg W kas)) (hs : starEach [e] X.env = [(false, eval e X.env)] := by rfl) :
    PI X (.Tuple elts kk tpos) (.Call (.Name "enumerate" p) [e] [] pos) (liftI X.K X.mg W (iEt kas)) :=
  PI.imp (pi_enumT hg hm ha hs) fun σ H R ⟨β, ρ, st, S, E, p⟩ => liftA.bind S E p fun ds vs β1 H1 st1 e1 S1 E1 r1 p1 => by
    unfold enT at p1
    split at p1
    · rename_i xs
      obtain ⟨v, r, rfl, h1, h2⟩ := VRs.cons.mp r1
      cases VRs.nil.mp h2
      obtain ⟨q, us, rfl, g1, g2⟩ := VR.tupS h1
      refine ⟨q, us, rfl, g1, p1 β1 H1 (Ext.refl _ _) S1 _ fun i β2 H2 st2 e2 S2 => ⟨fun d hd => ?_, fun hd => ?_⟩⟩
      · obtain ⟨x, hx, rfl⟩ := enIts_get (Option.some.inj hd)
        have h3 := e2.sqT g1
        have h4 := VRs.mono e2 _ _ g2
        obtain ⟨w, hw, rw'⟩ := h4.getD hx
        refine ⟨⟨us, w, h3, hw⟩, fun y H' ⟨T, z, ey, hT, eH, hz⟩ => ?_⟩
        subst eH ey
        have := hz us h3
        rw [hw] at this
        cases this
        exact ⟨β2, ext_new0 hT, S2.new0 hT, VR.tup.mpr ⟨T, _, rfl, upd_same, VRs.mono (ext_new0 hT) _ _ (VRs.cons.mpr ⟨_, _, rfl, VR.int.mpr rfl, VRs.cons.mpr ⟨_, _, rfl, rw', VRs.nil.mpr rfl⟩⟩)⟩⟩
      · have hd' := List.getElem?_eq_none_iff.mp (Option.some.inj hd)
        rw [enIts_len] at hd'
        exact ⟨us, e2.sqT g1, by rw [g2.length]; exact hd'⟩
    · exact p1.elim
end
end L3

namespace L3
open PySem PySem.Spec PyProof.Rows L2
/-! ### [elt for .. in .. for .. in ..] -/
theorem Ext0.refl (β : List Addr) (H : Hp) : Ext0 β H β H := (Ext.refl β H).toExt0
theorem Ext0.trans {β β1 β2 : List Addr} {H H1 H2 : Hp} (a : Ext0 β H β1 H1) (b : Ext0 β1 H1 β2 H2) : Ext0 β H β2 H2 :=
  ⟨by obtain ⟨t, h1⟩ := a.pre; obtain ⟨u, h2⟩ := b.pre; exact ⟨t ++ u, by rw [h2, h1, List.append_assoc]⟩, fun x xs h => b.tups x xs (a.tups x xs h), fun x o u h => b.frzs x o u (a.frzs x o u h), fun x u h => b.exts x u (a.exts x u h)⟩
theorem ER.mono0 {K : PySem.W.Frag} {β β' : List Addr} {H H' : Hp} {ρ : Env3} {σ : L2.St} (e : Ext0 β H β' H') (h : ER K β H ρ σ) : ER K β' H' ρ σ :=
  ⟨h.1, fun i d hi => let ⟨v, h1, h2⟩ := h.2 i d hi; ⟨v, h1, VR.mono0 e _ _ h2⟩⟩
/-- what is walked stays, though other objects change -/
def ItOk0 (K : PySem.W.Frag) (mg : Str → Option Value) (β₀ : List Addr) (H₀ : Hp) (src : Src) (J : It) : Prop :=
  ∀ i β H st, Ext0 β₀ H₀ β H → Sim K mg β st H →
    (∀ d, src.at st i = some (some d) → J.go i H ∧ ∀ x H', J.yld i H x H' → ∃ β', Ext β H β' H' ∧ Sim K mg β' st H' ∧ VR K β' H' d x) ∧ (src.at st i = some none → J.stop i H)
def liftI0 (K : PySem.W.Frag) (mg : Str → Option Value) (W : WX) (k : KI) : TI := fun σ H R => ∃ β ρ st, Sim K mg β st H ∧ ER K β H ρ σ ∧ PostA K mg W σ (fun src β' H' => ∀ J, ItOk0 K mg β' H' src J → R J H') β H (k ρ st)
section
variable {X : Cx} {W : WX} {tg e a b c : Expr} {es : List Expr} {pos p : Pos} {ka kb kcc : KE} {kas : KA}
/-- a list that nobody changes -/
def iZ (a : KE) : KI := fun ρ st => (a ρ st).bind fun d st1 => match d with
  | .frz xs => .ok (.its xs) st1
  | _ => .bad
theorem i_list0 (h : PE X a (lift X.K X.mg W ka)) : PI X tg a (liftI0 X.K X.mg W (iZ ka)) :=
  PI.imp (pi_list h) fun σ H R ⟨β, ρ, st, S, E, p⟩ => lift.bind S E p fun d v β1 H1 st1 e1 S1 E1 r1 p1 => by
    cases d with
    | frz xs =>
      obtain ⟨q, vs, rfl, h1, h2⟩ := VR.frz.mp r1
      refine ⟨q, rfl, ⟨vs, h1.sq⟩, p1 β1 H1 (Ext.refl _ _) S1 _ fun i β2 H2 st2 e2 S2 => ⟨fun d hd => ?_, fun hd => ?_⟩⟩
      · have h3 := e2.fzL h1
        have h4 := VRs.mono0 e2 _ _ h2
        obtain ⟨v, hv, rv⟩ := h4.getD (Option.some.inj hd)
        exact ⟨⟨vs, v, h3.sq, hv⟩, fun x H' ⟨eH, hx⟩ => by subst eH; exact ⟨β2, Ext.refl _ _, S2, by have := hx vs h3.sq; rw [hv] at this; cases this; exact rv⟩⟩
      · exact ⟨vs, (e2.fzL h1).sq, by rw [h2.length]; exact List.getElem?_eq_none_iff.mp (Option.some.inj hd)⟩
    | _ => exact p1.elim
theorem i_tup0 (h : PE X a (lift X.K X.mg W ka)) : PI X tg a (liftI0 X.K X.mg W (iT ka)) :=
  PI.imp (pi_tup h) fun σ H R ⟨β, ρ, st, S, E, p⟩ => lift.bind S E p fun d v β1 H1 st1 e1 S1 E1 r1 p1 => by
    cases d with
    | tup xs =>
      obtain ⟨q, vs, rfl, h1, h2⟩ := VR.tupS r1
      refine ⟨q, rfl, ⟨vs, h1⟩, p1 β1 H1 (Ext.refl _ _) S1 _ fun i β2 H2 st2 e2 S2 => ⟨fun d hd => ?_, fun hd => ?_⟩⟩
      · have h3 := e2.sqT h1
        have h4 := VRs.mono0 e2 _ _ h2
        obtain ⟨v, hv, rv⟩ := h4.getD (Option.some.inj hd)
        exact ⟨⟨vs, v, h3, hv⟩, fun x H' ⟨eH, hx⟩ => by subst eH; exact ⟨β2, Ext.refl _ _, S2, by have := hx vs h3; rw [hv] at this; cases this; exact rv⟩⟩
      · exact ⟨vs, e2.sqT h1, by rw [h2.length]; exact List.getElem?_eq_none_iff.mp (Option.some.inj hd)⟩
    | _ => exact p1.elim
/-- numbers do not stand in the heap -/
theorem its_ints0 {K : PySem.W.Frag} {mg : Str → Option Value} {β : List Addr} {H : Hp} {xs : List D} {J : It} (h : ItOk K mg β H (.its xs) J) (hJ : ∀ i H1 H2, (J.go i H1 → J.go i H2) ∧ (J.stop i H1 → J.stop i H2) ∧ ∀ x H', J.yld i H1 x H' → H' = H1 ∧ J.yld i H2 x H2)
    (hx : ∀ d ∈ xs, ∃ i, d = .int i) (S0 : ∃ st, Sim K mg β st H) : ItOk0 K mg β H (.its xs) J := fun i β2 H2 st2 e2 S2 => by
  obtain ⟨st, S⟩ := S0
  obtain ⟨h1, h2⟩ := h i β H st (Ext.refl _ _) S
  refine ⟨fun d hd => ?_, fun hd => (hJ i H H2).2.1 (h2 hd)⟩
  obtain ⟨g1, g2⟩ := h1 d hd
  refine ⟨(hJ i H H2).1 g1, fun x H' y => ?_⟩
  obtain ⟨eH, y2⟩ := (hJ i H2 H).2.2 x H' y
  subst eH
  obtain ⟨β', _, _, r⟩ := g2 x H y2
  obtain ⟨j, rfl⟩ := hx d (List.mem_of_getElem? (Option.some.inj hd))
  cases VR.int.mp r
  exact ⟨β2, Ext.refl _ _, S2, VR.int.mpr rfl⟩
theorem itr_same (lo : Int) (n : Nat) : ∀ i H1 H2, ((Itr lo n).go i H1 → (Itr lo n).go i H2) ∧ ((Itr lo n).stop i H1 → (Itr lo n).stop i H2) ∧ ∀ x H', (Itr lo n).yld i H1 x H' → H' = H1 ∧ (Itr lo n).yld i H2 x H2 :=
  fun i H1 H2 => ⟨fun h => h, fun h => h, fun x H' h => ⟨h.1, rfl, h.2⟩⟩
theorem rngIts_int (lo : Int) (n : Nat) : ∀ d ∈ rngIts lo n, ∃ i, d = .int i := fun d hd => by
  unfold rngIts at hd
  obtain ⟨j, _, rfl⟩ := List.mem_map.mp hd
  exact ⟨_, rfl⟩
theorem i_rng1_0 {p : Pos} (hg : Gl X "range") (hm : X.mg "range" = none) (ha : PA X [a] (liftA X.K X.mg W kas)) (hs : starEach [a] X.env = [(false, eval a X.env)] := by rfl) : PI X tg (.Call (.Name "range" p) [a] [] pos) (liftI0 X.K X.mg W (iR1 kas)) :=
  PI.imp (pi_range1 hg hm ha hs) fun σ H R ⟨β, ρ, st, S, E, p⟩ => liftA.bind S E p fun ds vs β1 H1 st1 e1 S1 E1 r1 p1 => by
    unfold rngF1 at p1
    split at p1
    · rename_i j
      split at p1
      · rename_i hb
        obtain ⟨v, r, rfl, h1, h2⟩ := VRs.cons.mp r1
        cases VRs.nil.mp h2
        cases VR.int.mp h1
        exact ⟨j, rfl, hb.1, hb.2, p1 β1 H1 (Ext.refl _ _) S1 _ (its_ints0 (rng_ok 0 _) (itr_same _ _) (rngIts_int _ _) ⟨_, S1⟩)⟩
      · exact p1.elim
    · exact p1.elim
theorem i_rng2_0 {p : Pos} (hg : Gl X "range") (hm : X.mg "range" = none) (ha : PA X [a, b] (liftA X.K X.mg W kas)) (hs : starEach [a, b] X.env = [(false, eval a X.env), (false, eval b X.env)] := by rfl) (hs2 : starEach [b] X.env = [(false, eval b X.env)] := by rfl) : PI X tg (.Call (.Name "range" p) [a, b] [] pos) (liftI0 X.K X.mg W (iR2 kas)) :=
  PI.imp (pi_range2 hg hm ha hs hs2) fun σ H R ⟨β, ρ, st, S, E, p⟩ => liftA.bind S E p fun ds vs β1 H1 st1 e1 S1 E1 r1 p1 => by
    unfold rngF2 at p1
    split at p1
    · rename_i i j
      split at p1
      · rename_i hb
        obtain ⟨v, r, rfl, h1, h2⟩ := VRs.cons.mp r1
        obtain ⟨v', r', rfl, h1', h2'⟩ := VRs.cons.mp h2
        cases VRs.nil.mp h2'
        cases VR.int.mp h1
        cases VR.int.mp h1'
        exact ⟨i, j, rfl, hb, p1 β1 H1 (Ext.refl _ _) S1 _ (its_ints0 (rng_ok i _) (itr_same _ _) (rngIts_int _ _) ⟨_, S1⟩)⟩
      · exact p1.elim
    · exact p1.elim
end
def lc2Go (g : KG) (cnd : KT) (g1 : KG) (it1 : KI) (cnd1 : KT) (elt : KE) (vs1 : List Nat) (src : Src) (ρ : Env3) : Nat → Nat → Sto → List D → R (List D)
  | 0, _, _, _ => .bad
  | f + 1, i, st, acc => match src.at st i with
    | none => .bad
    | some none => .ok acc st
    | some (some d) => match g d ρ with
      | none => .bad
      | some ρ1 => match cnd ρ1 st with
        | .ok k st1 => if k = true then match it1 ρ1 st1 with
            | .ok src1 st2 => (lcGo g1 cnd1 elt src1 (wipeD ρ1 vs1) (src1.fuel st2) 0 st2 acc).bind fun acc2 st3 => lc2Go g cnd g1 it1 cnd1 elt vs1 src ρ f (i + 1) st3 acc2
            | _ => .bad
          else lc2Go g cnd g1 it1 cnd1 elt vs1 src ρ f (i + 1) st1 acc
        | _ => .bad
def kLz2 (vs vs1 : List Nat) (g : KG) (it : KI) (cnd : KT) (g1 : KG) (it1 : KI) (cnd1 : KT) (elt : KE) : KE := fun ρ st => (it ρ st).bind fun src st1 => (lc2Go g cnd g1 it1 cnd1 elt vs1 src (wipeD ρ vs) (src.fuel st1) 0 st1 []).bind fun acc st2 => .ok (.frz acc) st2
section
variable {X : Cx} {W : WX} {tg tg1 iter iter1 elt : Expr} {ifs ifs1 : List Expr} {pos : Pos} {ke : KE} {kt kt1 : KT} {ki ki1 : KI}
theorem R_bind_bind {α β γ : Type} {r : R α} {f : α → Sto → R β} {g : β → Sto → R γ} : (r.bind f).bind g = r.bind fun a st => (f a st).bind g := by cases r <;> rfl
theorem lc2_inner {is1 vs1 : List Nat} {t1 : TG} {g1 : KG} (kg : PGK X is1 g1 t1) (hv : ∀ i ∈ is1, i ∈ vs1) {σ σ2 : L2.St} {ρ2 : Env3} {Kc : List D → Sto → R D} {β0 β1 : List Addr} {H0 H1 : Hp} {Q : VK} {dl : Addr} {src1 : Src} {J1 : It} (hD : H1 dl = none)
    (hJ : ItOk0 X.K X.mg β0 H0 src1 J1) (E2 : ER X.K β0 H0 ρ2 σ2) (ex0 : Ext β1 H1 β0 H0) (Nx : Hp → Prop)
    (hNx : ∀ β st acc us H, Ext β1 H1 β H → Sim X.K X.mg β st H → H dl = some (.lst us) → dl ∉ β → VRs X.K β H acc us → PostA X.K X.mg W σ (okE X.K Q) β1 H1 (Kc acc st) → Nx H)
    {st0 : Sto} {m : Nat} {acc0 : List D} {us0 : List V} (S0 : Sim X.K X.mg β0 st0 H0) (hl0 : H0 dl = some (.lst us0)) (hn0 : dl ∉ β0) (ra0 : VRs X.K β0 H0 acc0 us0) (p : PostA X.K X.mg W σ (okE X.K Q) β1 H1 ((lcGo g1 kt1 ke src1 (wipeD ρ2 vs1) m 0 st0 acc0).bind Kc)) :
    ∃ W1 : Nat → Nat → Hp → Prop, (∃ m, W1 0 m H0) ∧ ∀ j k H, W1 j k H → (J1.stop j H ∧ Nx H) ∨ (J1.go j H ∧ ∃ Nx1 : Hp → Prop, (∀ H', Nx1 H' → ∃ k', k' < k ∧ W1 (j + 1) k' H') ∧ ∀ x H', J1.yld j H x H' → t1 x (L2.wipe σ2 vs1) H' fun σ3 H5 => L2.wipe σ3 vs1 = L2.wipe σ2 vs1 ∧ liftT X.K X.mg W0 kt1 σ3 H5 fun b H6 =>
        if b = true then lift X.K X.mg W0 ke σ3 H6 fun y H7 => ∃ acc, H7 dl = some (.lst acc) ∧ acc.length < sizeLine ∧ Nx1 (upd H7 dl (.lst (acc ++ [y]))) else Nx1 H6) := by
  refine ⟨fun j k H => ∃ β st acc us, Ext β1 H1 β H ∧ Ext0 β0 H0 β H ∧ Sim X.K X.mg β st H ∧ H dl = some (.lst us) ∧ dl ∉ β ∧ VRs X.K β H acc us ∧ PostA X.K X.mg W σ (okE X.K Q) β1 H1 ((lcGo g1 kt1 ke src1 (wipeD ρ2 vs1) k j st acc).bind Kc),
    ⟨m, β0, st0, acc0, us0, ex0, Ext0.refl _ _, S0, hl0, hn0, ra0, p⟩, ?_⟩
  rintro j k H ⟨β, st, acc, us, ex, ez, S, hl, hn, ra, p⟩
  cases k with
  | zero => exact p.elim
  | succ k =>
    unfold lcGo at p
    obtain ⟨j1, j2⟩ := hJ j β H st ez S
    cases hat : src1.at st j with
    | none => simp only [hat] at p; exact p.elim
    | some o =>
      cases o with
      | none =>
        simp only [hat] at p
        exact .inl ⟨j2 hat, hNx β st acc us H ex S hl hn ra p⟩
      | some d =>
        simp only [hat] at p
        obtain ⟨go, yl⟩ := j1 d hat
        refine .inr ⟨go, fun H' => ∃ β' st' acc' us', Ext β1 H1 β' H' ∧ Ext0 β0 H0 β' H' ∧ Sim X.K X.mg β' st' H' ∧ H' dl = some (.lst us') ∧ dl ∉ β' ∧ VRs X.K β' H' acc' us' ∧ PostA X.K X.mg W σ (okE X.K Q) β1 H1 ((lcGo g1 kt1 ke src1 (wipeD ρ2 vs1) k (j + 1) st' acc').bind Kc),
          fun H' ⟨β', st', acc', us', q⟩ => ⟨k, Nat.lt_succ_self _, β', st', acc', us', q⟩, fun x H' y => ?_⟩
        obtain ⟨β2, e2, S2, r2⟩ := yl x H' y
        have stay : ∀ {βa βb : List Addr} {Ha Hb : Hp}, Ext βa Ha βb Hb → Ha dl = some (.lst us) → dl ∉ βa → Hb dl = some (.lst us) ∧ dl ∉ βb := fun ee hh hnn => ⟨ee.keep dl _ hh hnn (fun _ z => by cases z), fun z => by
          rcases ee.new dl z with z | z | ⟨ps, z⟩
          · exact hnn z
          · rw [hh] at z; cases z
          · rw [hh] at z; cases z⟩
        obtain ⟨hl2, hn2⟩ := stay e2 hl hn
        cases hgd : g1 d (wipeD ρ2 vs1) with
        | none => simp only [hgd] at p; exact p.elim
        | some ρ1 =>
          simp only [hgd] at p
          refine kg d x (L2.wipe σ2 vs1) H' (wipeD ρ2 vs1) β2 _ ρ1 r2 ((E2.mono0 (ez.trans e2.toExt0)).wipe vs1) hgd fun σ3 E3 wp => ⟨?_, ?_⟩
          · exact (wp vs1 hv).trans (wipe_wipe vs1 fun _ h => h)
          refine ⟨β2, ρ1, st, S2, E3, ?_⟩
          cases hk : kt1 ρ1 st with
          | exn _ _ => simp only [hk] at p; exact p.elim
          | bad => simp only [hk] at p; exact p.elim
          | ok b st3 =>
            simp only [hk] at p
            intro β3 H3 e3 S3
            obtain ⟨hl3, hn3⟩ := stay e3 hl2 hn2
            cases b with
            | false =>
              exact iteF ⟨β3, st3, acc, us, (ex.trans e2).trans e3, (ez.trans e2.toExt0).trans e3.toExt0, S3, hl3, hn3, VRs.mono e3 _ _ (VRs.mono e2 _ _ ra), p⟩
            | true =>
              simp only [if_true] at p
              refine iteT ⟨β3, ρ1, st3, S3, E3.mono e3, ?_⟩
              cases hy : ke ρ1 st3 with
              | exn _ _ => simp only [hy] at p; exact p.elim
              | bad => simp only [hy] at p; exact p.elim
              | ok y st4 =>
                simp only [hy] at p
                split at p
                · rename_i hz
                  intro β4 H4 e4 S4 v4 r4
                  obtain ⟨hl4, hn4⟩ := stay e4 hl3 hn3
                  have ra4 := VRs.mono e4 _ _ (VRs.mono e3 _ _ (VRs.mono e2 _ _ ra))
                  obtain ⟨S5, e5⟩ := S4.updOut (o := .lst (us ++ [v4])) hl4 hn4
                  refine ⟨us, hl4, ?_, β4, st4, acc ++ [y], us ++ [v4], (((ex.trans e2).trans e3).trans e4).updNew hD, (((ez.trans e2.toExt0).trans e3.toExt0).trans e4.toExt0).trans e5, S5, upd_same, hn4, VRs.mono0 e5 _ _ (ra4.append (VRs.cons.mpr ⟨v4, [], rfl, r4, VRs.nil.mpr rfl⟩)), p⟩
                  have : us.length < 16777215 := by rw [ra4.length]; exact hz
                  rw [sizeLine_eq]; omega
                · exact p.elim
theorem lc2_mainZ {is vs is1 vs1 : List Nat} {t t1 : TG} {g g1 : KG} (kg : PGK X is g t) (hv : ∀ i ∈ is, i ∈ vs) (kg1 : PGK X is1 g1 t1) (hv1 : ∀ i ∈ is1, i ∈ vs1) {σ : L2.St} {H : Hp} {Q Q2 : VK} (hQ : ∀ x H, FQ Q x H → Q2 x H) (h : lift X.K X.mg W (kLz2 vs vs1 g ki kt g1 ki1 kt1 ke) σ H Q) :
    tLc2 (liftI X.K X.mg W ki) t (liftT X.K X.mg W0 kt) (liftI0 X.K X.mg W0 ki1) t1 (liftT X.K X.mg W0 kt1) (lift X.K X.mg W0 ke) vs vs1 σ H Q2 := by
  obtain ⟨β, ρ, st, S, E, p⟩ := h
  refine liftI.bind S E p fun src β1 H1 st1 J e1 S1 E1 hJ p1 => ?_
  intro D hD
  refine ⟨fun i m H => ∃ β st acc us, Ext β1 H1 β H ∧ Sim X.K X.mg β st H ∧ H D = some (.lst us) ∧ D ∉ β ∧ VRs X.K β H acc us ∧ PostA X.K X.mg W σ (okE X.K Q) β1 H1 ((lc2Go g kt g1 ki1 kt1 ke vs1 src (wipeD ρ vs) m i st acc).bind fun acc st2 => .ok (.frz acc) st2),
    ⟨_, β1, st1, [], [], ext_new0 hD, S1.new0 hD, upd_same, fun hm => ?_, VRs.nil.mpr rfl, p1⟩, ?_⟩
  · obtain ⟨n, hn, e⟩ := List.mem_iff_getElem.mp hm
    exact S1.fresh hD (n := n) (by rw [List.getElem?_eq_getElem hn, e])
  rintro i m H ⟨β, st, acc, us, ex, S, hl, hn, ra, p⟩
  cases m with
  | zero => exact p.elim
  | succ m =>
    unfold lc2Go at p
    obtain ⟨j1, j2⟩ := hJ i β H st ex S
    cases hat : src.at st i with
    | none => simp only [hat] at p; exact p.elim
    | some o =>
      cases o with
      | none =>
        simp only [hat] at p
        refine .inl ⟨j2 hat, hQ _ _ (.inr ⟨D, us, rfl, hl, fun o => ?_⟩)⟩
        obtain ⟨S', e5⟩ := S.updOut (o := .frz o (.lst us)) hl hn
        exact p β _ (ex.updNew hD) S' _ (VR.frz.mpr ⟨D, us, rfl, .inl ⟨o, upd_same⟩, VRs.mono0 e5 _ _ ra⟩)
      | some d =>
        simp only [hat] at p
        obtain ⟨go, yl⟩ := j1 d hat
        refine .inr ⟨go, fun H' => ∃ β' st' acc' us', Ext β1 H1 β' H' ∧ Sim X.K X.mg β' st' H' ∧ H' D = some (.lst us') ∧ D ∉ β' ∧ VRs X.K β' H' acc' us' ∧ PostA X.K X.mg W σ (okE X.K Q) β1 H1 ((lc2Go g kt g1 ki1 kt1 ke vs1 src (wipeD ρ vs) m (i + 1) st' acc').bind fun acc st2 => .ok (.frz acc) st2),
          fun H' ⟨β', st', acc', us', q⟩ => ⟨m, Nat.lt_succ_self _, β', st', acc', us', q⟩, fun x H' y => ?_⟩
        obtain ⟨β2, e2, S2, r2⟩ := yl x H' y
        have stay : ∀ {βa βb : List Addr} {Ha Hb : Hp}, Ext βa Ha βb Hb → Ha D = some (.lst us) → D ∉ βa → Hb D = some (.lst us) ∧ D ∉ βb := fun ee hh hnn => ⟨ee.keep D _ hh hnn (fun _ z => by cases z), fun z => by
          rcases ee.new D z with z | z | ⟨ps, z⟩
          · exact hnn z
          · rw [hh] at z; cases z
          · rw [hh] at z; cases z⟩
        obtain ⟨hl2, hn2⟩ := stay e2 hl hn
        cases hgd : g d (wipeD ρ vs) with
        | none => simp only [hgd] at p; exact p.elim
        | some ρ1 =>
          simp only [hgd] at p
          refine kg d x (L2.wipe σ vs) H' (wipeD ρ vs) β2 _ ρ1 r2 ((E1.mono (ex.trans e2)).wipe vs) hgd fun σ2 E2 wp => ⟨?_, ?_⟩
          · exact (wp vs hv).trans (wipe_wipe vs fun _ h => h)
          refine ⟨β2, ρ1, st, S2, E2, ?_⟩
          cases hk : kt ρ1 st with
          | exn _ _ => simp only [hk] at p; exact p.elim
          | bad => simp only [hk] at p; exact p.elim
          | ok k st3 =>
            simp only [hk] at p
            intro β3 H3 e3 S3
            obtain ⟨hl3, hn3⟩ := stay e3 hl2 hn2
            cases k with
            | false =>
              exact iteF ⟨β3, st3, acc, us, (ex.trans e2).trans e3, S3, hl3, hn3, VRs.mono e3 _ _ (VRs.mono e2 _ _ ra), p⟩
            | true =>
              simp only [if_true] at p
              refine iteT ⟨β3, ρ1, st3, S3, E2.mono e3, ?_⟩
              cases hy : ki1 ρ1 st3 with
              | exn _ _ => simp only [hy] at p; exact p.elim
              | bad => simp only [hy] at p; exact p.elim
              | ok src1 st4 =>
                simp only [hy] at p
                intro β4 H4 e4 S4 J1 hJ1
                obtain ⟨hl4, hn4⟩ := stay e4 hl3 hn3
                rw [R_bind_bind] at p
                exact lc2_inner kg1 hv1 hD hJ1 (E2.mono (e3.trans e4)) (((ex.trans e2).trans e3).trans e4) _ (fun β st acc us H x1 x2 x3 x4 x5 x6 => ⟨β, st, acc, us, x1, x2, x3, x4, x5, x6⟩) S4 hl4 hn4 (VRs.mono e4 _ _ (VRs.mono e3 _ _ (VRs.mono e2 _ _ ra))) p
theorem q_lcZ2 {scope : Scope} {own : List (Str × Nat)} {is is1 vs1 : List Nat} {g g1 : KG} {t t1 : TG} (hc : X.calm = true) (hN : X.N.Nodup) (hi : PI X tg iter (liftI X.K X.mg W ki)) (ok : BlkOk X.N X.env.scope scope own) (hvs : ∀ i ∈ vs1, i ∈ own.map (·.2))
    (hg : ∀ (s : Shared) (H : Hp) (C : Addr) (cl : List (Str × Addr)) (fp : List Addr), PG (X.blk s H scope (compEnvC scope cl C X.env) fp) tg t) (kg : PGK X is g t) (hv : ∀ i ∈ is, i ∈ own.map (·.2))
    (ht : ∀ (s : Shared) (H : Hp) (C : Addr) (cl : List (Str × Addr)) (fp : List Addr), PTs (X.blk s H scope (compEnvC scope cl C X.env) fp) ifs (liftT X.K X.mg W0 kt))
    (hi1 : ∀ (s : Shared) (H : Hp) (C : Addr) (cl : List (Str × Addr)) (fp : List Addr), PI (X.blk s H scope (compEnvC scope cl C X.env) fp) tg1 iter1 (liftI0 X.K X.mg W0 ki1))
    (hg1 : ∀ (s : Shared) (H : Hp) (C : Addr) (cl : List (Str × Addr)) (fp : List Addr), PG (X.blk s H scope (compEnvC scope cl C X.env) fp) tg1 t1) (kg1 : PGK X is1 g1 t1) (hv1 : ∀ i ∈ is1, i ∈ vs1)
    (ht1 : ∀ (s : Shared) (H : Hp) (C : Addr) (cl : List (Str × Addr)) (fp : List Addr), PTs (X.blk s H scope (compEnvC scope cl C X.env) fp) ifs1 (liftT X.K X.mg W0 kt1))
    (he : ∀ (s : Shared) (H : Hp) (C : Addr) (cl : List (Str × Addr)) (fp : List Addr), PE (X.blk s H scope (compEnvC scope cl C X.env) fp) elt (lift X.K X.mg W0 ke)) (hs : ∀ x, foldedSetIterable iter X.env x = pure x := by intro _; rfl) (hs1 : ∀ env x, foldedSetIterable iter1 env x = pure x := by intro _ _; rfl) :
    PE X (.ListComp elt [⟨tg, iter, ifs, 0⟩, ⟨tg1, iter1, ifs1, 0⟩] scope pos) (lift X.K X.mg W (kLz2 (own.map (·.2)) vs1 g ki kt g1 ki1 kt1 ke)) :=
  PE.imp (PE.fz (pe_lc2 hc hN hi ok hvs hg ht hi1 hg1 ht1 he hs hs1)) fun σ H Q h => lc2_mainZ kg hv kg1 hv1 (fun _ _ z => z) h
end
end L3

namespace L3
open PySem PySem.Spec PyProof.Rows L2
section
variable {X : Cx} {W : WX} {tg e a b c o : Expr} {es : List Expr} {pos p apos np : Pos} {ko : KE} {kas : KA} {k : Nat} {g C : Addr} {run : Run} {m : Str}
/-- cls.m(..) where cls is a local name of the class -/
def kCmV (C : Addr) (run : Run) (o : KE) (a : KA) : KE := fun ρ st => (o ρ st).bind fun d st1 => match d with
  | .cls q => if q = C then (a ρ st1).bind fun ds st2 => run (.cls C :: ds) st2 else .bad
  | _ => .bad
theorem q_cmethV {pl : Sem Bool} {mc : Value} {pd : Addr} (tk : Takes X W) (F : Pr3 X.prog X.w X.K X.mg X.base k g run) (hr : Room k X.A) (ho : PE X o (lift X.K X.mg W ko)) (rd : ClX.CRead X.K C mc) (cm : ClX.CMet X.K C mc m pd g) (ha : PA X (e :: es) (liftA X.K X.mg W kas))
    (he : starEach (e :: es) X.env = (false, eval e X.env) :: starEach es X.env := by rfl) (hpl : (backTo pos (starEach es X.env)).any (·.1) = false := by rfl)
    (ht : eval (.Call (.Attribute o m apos) (e :: es) [] pos) X.env = (do
      let ov ← eval o X.env; standAt apos.atName
      let (f, first) ← holding [ov] (getMethod ov m pl); callWith pos f first (backTo pos (starEach (e :: es) X.env)) (backToKw pos (keywordEach [] X.env))) := by rfl) :
    PE X (.Call (.Attribute o m apos) (e :: es) [] pos) (lift X.K X.mg W (kCmV C run ko kas)) := by
  constructor
  intro pins s σ H Q I ⟨β, ρ, st, S, E, hp⟩
  refine PySem.W.methodCall_KW (pl := pl) (val3 ho I S E hp fun u s1 v H1 β1 st1 d I1 ru e1 S1 E1 r1 p1 => ?_) ht
  cases d with
  | cls q =>
    cases VR.cls.mp r1
    simp only at p1
    split at p1
    · rename_i hq
      subst hq
      have hu : u = Value.ref q := ru
      subst hu
      refine ClX.getmethcm_ok I1 rd cm fun s2 I2 => ?_
      refine ClX.callwith_cm I2 (ClX.base_none I1 (Nat.le_refl _)) cm.fi (args3 ha I2 S1 E1 p1 fun us s2 vs H2 β2 st2 ds I2 rv e2 S2 E2 r2 p2 => ⟨⟨ClX.pin_at I2, I2.kIn⟩, ?_⟩) he hpl
      exact thn (wpAny_call (PySem.W.method_call (ClX.pin_at I2) (run3 (vs := V.ref q :: vs) F hr tk I2 (.cons rfl rv) S2 (VRs.cons.mpr ⟨_, _, rfl, VR.cls.mpr rfl, r2⟩) p2))) fun _ _ y => ClX.unpinE y
    · exact p1.elim
  | _ => exact p1.elim
theorem itc_same (lo d : Int) (n : Nat) : ∀ i H1 H2, ((Itc lo d n).go i H1 → (Itc lo d n).go i H2) ∧ ((Itc lo d n).stop i H1 → (Itc lo d n).stop i H2) ∧ ∀ x H', (Itc lo d n).yld i H1 x H' → H' = H1 ∧ (Itc lo d n).yld i H2 x H2 :=
  fun i H1 H2 => ⟨fun h => h, fun h => h, fun x H' h => ⟨h.1, rfl, h.2⟩⟩
theorem stepIts_int (lo d : Int) (n : Nat) : ∀ x ∈ stepIts lo d n, ∃ i, x = .int i := fun x hx => by
  unfold stepIts at hx
  obtain ⟨j, _, rfl⟩ := List.mem_map.mp hx
  exact ⟨_, rfl⟩
theorem i_rng3_0 (hg : Gl X "range") (hm : X.mg "range" = none) (ha : PA X [a, b, c] (liftA X.K X.mg W kas)) (hs : starEach [a, b, c] X.env = (false, eval a X.env) :: starEach [b, c] X.env := by rfl) (hpl : (backTo pos (starEach [b, c] X.env)).any (·.1) = false := by rfl) :
    PI X tg (.Call (.Name "range" p) [a, b, c] [] pos) (liftI0 X.K X.mg W (iR3 kas)) :=
  PI.imp (pi_range3 hg hm ha hs hpl) fun σ H R ⟨β, ρ, st, S, E, q⟩ => liftA.bind S E q fun ds vs β1 H1 st1 e1 S1 E1 r1 p1 => by
    unfold rngF3 at p1
    split at p1
    · rename_i i j d
      split at p1
      · rename_i hb
        obtain ⟨v1, r1', rfl, h1, h2⟩ := VRs.cons.mp r1
        obtain ⟨v2, r2', rfl, h3, h4⟩ := VRs.cons.mp h2
        obtain ⟨v3, r3', rfl, h5, h6⟩ := VRs.cons.mp h4
        cases VRs.nil.mp h6
        cases VR.int.mp h1
        cases VR.int.mp h3
        cases VR.int.mp h5
        exact ⟨i, j, d, rngN i j d, rfl, hb, p1 β1 H1 (Ext.refl _ _) S1 _ (its_ints0 (step_ok i d _) (itc_same _ _ _) (stepIts_int _ _ _) ⟨_, S1⟩)⟩
      · exact p1.elim
    · exact p1.elim
end
end L3

namespace L3
open PySem PySem.Spec PyProof.Rows L2
/-! ### sum of a tuple -/
section
variable {X : Cx} {W : WX}
theorem cr_sumT (hc : X.calm = true) : CallR X (.builtin "sum") fun vs H Q => ∃ (a : Addr) (ns : List Int), vs = [V.ref a] ∧ SqT X.K H a (ns.map V.int) ∧ Q (.int ns.sum) H := by
  intro pins s σ H vs us Q I r h
  obtain ⟨a, ns, rfl, hs, q⟩ := h
  obtain ⟨its, rv, hl, _⟩ := I.tuple hs
  rw [Vals.ref1 r]
  have hl2 : s.heap.IsTuple a its.toArray := hl
  obtain ⟨xs, e⟩ := rv.ints.allInts.items
  have hn : numsOf (intItems xs).toList = ns := by rw [← e]; exact rv.ints.numsOf
  rw [nums_intItems] at hn
  rw [e] at hl2
  refine PySem.W.ktm_sumG (I.ok.hd hc) hl2 fun h' tk t' hk => ?_
  rw [preSum_eq, List.take_of_length_le (by simp), hn]
  exact ⟨.int _, H, I.kept hk, ⟨_, rfl⟩, q⟩
def sumX (ds : List D) (st : Sto) : R D := match ds with
  | [.tup xs] => match intsO xs with
    | some is => .ok (.int is.sum) st
    | none => .bad
  | ds => sumF ds st
theorem f_sumX (hc : X.calm = true) : CallS X W (.builtin "sum") sumX := fun pins s σ H xs us Q β st ds I r S rd p => by
  unfold sumX at p
  split at p
  · obtain ⟨v, rfl, r1⟩ := rd.one
    split at p
    · rename_i is e
      obtain ⟨a, ws, rfl, h1, h2⟩ := VR.tupS r1
      have e := intsO_eq e
      subst e
      have e := ints_vr h2
      subst e
      exact cr_sumT hc pins s σ H _ us Q I r ⟨a, is, rfl, h1, fin p S (VR.int.mpr rfl)⟩
    · exact p.elim
  · exact f_sum hc pins s σ H xs us Q β st ds I r S rd p
end
end L3

/-! a try whose clauses may have a name or none -/
namespace L3
open PySem PySem.Spec PyProof.Rows L2
/-- a clause: its class, the slot of its name, what its suite makes -/
structure Clause where
  c : Value
  slot : Option Nat
  ts : Addr → Value → Option Addr → TS
/-- the slot of a clause's name is empty behind the suite -/
def Clause.ends (q : Clause) (D : Ends) : Ends := match q.slot with
  | none => D
  | some i => { nx := fun τ G => D.nx (τ.set i none) G, bk := fun τ G => D.bk (τ.set i none) G, ct := fun τ G => D.ct (τ.set i none) G, rt := D.rt }
def Clause.enter (q : Clause) (a : Addr) (σ : L2.St) : L2.St := match q.slot with
  | none => σ
  | some i => σ.set i (some (.ref a))
/-- the first clause that takes the exception is run -/
def wMix (K : PySem.W.Frag) (Wout : WX) (D : Ends) : List Clause → WX
  | [], cls, d, σ, H => Wout cls d σ H
  | q :: r, cls, d, σ, H => match PySem.W.exmOne K cls q.c with
    | some true => ∀ a, H a = none → q.ts a cls d (q.ends D) (q.enter a σ) H
    | some false => wMix K Wout D r cls d σ H
    | none => False
/-- the suites -/
def SuiteOk (X : Cx) (ss : List Stmt) (ts : Addr → Value → Option Addr → TS) : Prop :=
  ∀ a oe cls d pn, Zc cls d oe → (∃ vs, oe.data = .fields vs) → PSs (X.suite a ((a, oe) :: pn)) ss (ts a cls d)
inductive MixOk (X : Cx) : List ExceptHandler → List Clause → Prop
  | nil : MixOk X [] []
  | bare {x : Str} {c : Value} {ts : Addr → Value → Option Addr → TS} {b : Stmt} {ss : List Stmt} {p p' : Pos} {hs : List ExceptHandler} {l : List Clause} (hc : Names X x c) (su : SuiteOk X (b :: ss) ts) (r : MixOk X hs l) :
      MixOk X (.ExceptHandler (some (.Name x p)) none (b :: ss) p' :: hs) (⟨c, none, ts⟩ :: l)
  | named {x n : Str} {i : Nat} {c : Value} {ts : Addr → Value → Option Addr → TS} {b : Stmt} {ss : List Stmt} {p p' : Pos} {hs : List ExceptHandler} {l : List Clause} (nd : X.N.Nodup) (hi : X.N[i]? = some n) (loc : X.env.kindOf n = some .local) (hc : Names X x c) (su : SuiteOk X (b :: ss) ts) (r : MixOk X hs l) :
      MixOk X (.ExceptHandler (some (.Name x p)) (some n) (b :: ss) p' :: hs) (⟨c, some i, ts⟩ :: l)
/-- the exception at a has come down in X's frame: sI is the state without it -/
structure Down (X : Cx) (pins : List (Addr × Obj)) (σ : L2.St) (H : Hp) (sI : Shared) (B : Heap) (a : Addr) (cls : Value) (d : Option Addr) (s : Shared) : Prop where
  inv0 : Inv X pins σ H sI
  ground : ∀ b o, sI.heap.get? b = some o → b ∉ frs X.stack → B.get? b = some o
  grown : sI.heap.UpToSlots s.heap
  os : s.os = sI.os
  bare : AllBare s.gens
  fl : HandSPX.FlyingZ B (X.env :: X.outer) a (Zc cls d) s.heap
  free : H a = none
section
variable {X : Cx} {pins : List (Addr × Obj)} {σ : L2.St} {H : Hp} {sI s : Shared} {B : Heap} {a : Addr} {cls : Value} {d : Option Addr} {D : Ends}
theorem Down.inv (z : Down X pins σ H sI B a cls d s) : Inv X pins σ H s := z.inv0.landed z.ground z.fl.1 z.grown z.os z.bare
theorem Down.on (z : Down X pins σ H sI B a cls d s) {h : Heap} (fl : HandSPX.FlyingZ B (X.env :: X.outer) a (Zc cls d) h) (up : s.heap.UpToSlots h) : Down X pins σ H sI B a cls d { s with heap := h } := { z with fl := fl, grown := z.grown.trans up }
theorem Down.away (hf : X.env.frame = some X.env.locals) (z : Down X pins σ H sI B a cls d s) : a ∉ frs (X.env :: X.outer) := fun hm => by
  obtain ⟨oe, vs, g, _, dd⟩ := z.fl.there
  obtain ⟨_, o, g', no⟩ := z.fl.2.2.1.mem hm
  rw [g] at g'
  exact no vs (by rw [← Option.some.inj g']; exact dd)
/-- the object, and the state as the suite's -/
theorem Down.seen (hf : X.env.frame = some X.env.locals) (z : Down X pins σ H sI B a cls d s) : ∃ oe, s.heap.get? a = some oe ∧ Zc cls d oe ∧ (∃ vs, oe.data = .fields vs) ∧ Inv (X.suite a ((a, oe) :: (X.pn ++ pins))) [] σ H s := by
  obtain ⟨oe, vs, g, zc, dd⟩ := z.fl.there
  have aw := z.away hf
  have own : X.env.locals ∈ frs (X.env :: X.outer) := List.mem_filterMap.mpr ⟨X.env, .head _, hf⟩
  have below : ∀ {y}, y ∈ X.fs → y ∈ frs (X.env :: X.outer) := fun hy => by
    obtain ⟨e, he, q⟩ := List.mem_filterMap.mp hy
    exact List.mem_filterMap.mpr ⟨e, .tail _ he, q⟩
  exact ⟨oe, g, zc, ⟨vs, dd⟩, z.inv.suite g dd z.free (fun q => aw (q ▸ own)) fun q => aw (below q)⟩
theorem Down.class_ (hf : X.env.frame = some X.env.locals) (z : Down X pins σ H sI B a cls d s) {x : Str} {c : Value} {b : Bool} {p : Pos} {T : Bool → Shared → Prop} {E : Value → Shared → Prop} (hc : Names X x c) (hb : PySem.W.exmOne X.K cls c = some b) (q : T b s) :
    wpAny (model X.prog X.w) (X.A.mark (some (.ref a))) (eval (.Name x p) X.env) (fun v s' => v = c ∧ s' = s) E s := by
  obtain ⟨oe, g, zc, hd, S⟩ := z.seen hf
  rcases hc with ⟨hg, hdb, hm | ⟨hm, hv, hnn⟩⟩
  · exact ld_glob S hg hm ⟨rfl, rfl⟩ hdb
  · exact ld_blt S hg hm hv ⟨rfl, rfl⟩ hnn hdb
/-- it flies on -/
theorem Down.out (hs : X.stack = X.env :: X.outer) (hf : X.env.frame = some X.env.locals) {W : WX} (tk : Takes X W) (z : Down X pins σ H sI B a cls d s) (w : W cls d σ H) {Q : Flow → Shared → Prop} :
    wpAny (model X.prog X.w) X.A (handleBy (.ref a) X.env []) Q X.xe s := by
  obtain ⟨_, _, _, oe, vs, T, oT, _, g, _, dd, h1, _⟩ := id z.fl
  have leave : wpAny (model X.prog X.w) X.A (setFlight (.ref a) X.env.frame) (fun _ s4 => wpAny (model X.prog X.w) X.A (throw (.ref a) : Sem Flow) Q X.xe s4) X.xe s := by
    rw [hf]
    exact HandSPX.setFlight_upZ z.fl fun h4 held up4 => wpAny_throw (tk _ _ ⟨a, B, sI, pins, σ, H, cls, d, rfl, z.inv0, z.ground, z.grown.trans up4, .inr (.inr (hs ▸ held)), z.free, z.os, z.bare, w⟩)
  refine wpAny_handleBy_nil ?_
  unfold PySem.passOn
  refine wpAny_bind (wpAny_field g dd h1 ?_)
  have ne : (Value.ref T == Value.none) = false := rfl
  rw [ne, if_neg Bool.false_ne_true]
  first | exact wpAny_bind (wpAny_pure (wpAny_bind leave)) | exact wpAny_bind leave
/-- what a suite's end gives the whole statement -/
theorem suite_end (ok : X.Ok) {ct : Flow} {pn' : List (Addr × Obj)} {oe : Obj} {s' : Shared} (h : SP (X.suite a ((a, oe) :: (X.pn ++ pins))) pn' D ct s') : SP X pins D ct s' := by
  cases ct with
  | ret u => obtain ⟨v, τ, G, J, r, q⟩ := h; exact ⟨v, τ, G, J.unsuite ok, r, q⟩
  | next => obtain ⟨τ, G, J, q⟩ := h; exact ⟨τ, G, J.unsuite ok, q⟩
  | brk => obtain ⟨τ, G, J, q⟩ := h; exact ⟨τ, G, J.unsuite ok, q⟩
  | cont => obtain ⟨τ, G, J, q⟩ := h; exact ⟨τ, G, J.unsuite ok, q⟩
theorem Down.walk (hs : X.stack = X.env :: X.outer) (hf : X.env.frame = some X.env.locals) {W : WX} (tk : Takes X W) : ∀ {hds : List ExceptHandler} {l : List Clause} {s : Shared}, MixOk X hds l → Down X pins σ H sI B a cls d s → wMix X.K W D l cls d σ H →
    wpAny (model X.prog X.w) X.A (handleBy (.ref a) X.env hds) (SP X pins D) X.xe s := by
  intro hds l s hk
  have LT : ∀ {s : Shared}, Down X pins σ H sI B a cls d s → PySem.W.Looks (model X.prog X.w) s.heap (typeOf (.ref a)) cls := fun z A Q E s' k q => by
    obtain ⟨oe, g, zc, _, _⟩ := z.seen hf
    exact wpAny_typeOf_ref (k _ _ g) (zc.1 ▸ q)
  induction hk generalizing s with
  | nil => exact fun z w => z.out hs hf tk w
  | @bare x c ts b0 ss p p' hs' l' hc su r ih =>
    intro z w
    unfold wMix at w
    split at w
    case h_3 => exact w.elim
    all_goals rename_i hb
    all_goals refine wpAny_handleBy_cons (codeAny_handlers_test (wpAny_mono (z.class_ hf (T := fun _ _ => True) hc hb trivial) (fun v s' e => ?_) fun _ _ e => e)) fun e => nomatch e
    all_goals obtain ⟨rfl, rfl⟩ := e
    all_goals refine (PySem.W.exm_one (M := model X.prog X.w) z.inv.kIn (LT z) hb).here ?_
    · refine codeAny_handlers_suite (HandSPX.lands_againZ z.fl fun h4 fl4 up4 => ?_)
      have z4 := z.on fl4 up4
      obtain ⟨oe, _, zc, hd, S⟩ := z4.seen hf
      exact wpAny_mono ((su a oe cls d _ zc hd).run [] _ σ H D S (w a z.free)) (fun ct s6 h6 => suite_end z.inv0.ok h6) fun _ _ e => e.elim
    · exact ih z w
  | @named x n i c ts b0 ss p p' hs' l' nd hi loc hc su r ih =>
    intro z w
    unfold wMix at w
    split at w
    case h_3 => exact w.elim
    all_goals rename_i hb
    all_goals refine wpAny_handleBy_cons (codeAny_handlers_test (wpAny_mono (z.class_ hf (T := fun _ _ => True) hc hb trivial) (fun v s' e => ?_) fun _ _ e => e)) fun e => nomatch e
    all_goals obtain ⟨rfl, rfl⟩ := e
    all_goals refine (PySem.W.exm_one (M := model X.prog X.w) z.inv.kIn (LT z) hb).here ?_
    · refine codeAny_handlers_suite_as (HandSPX.lands_againZ z.fl fun h4 fl4 up4 => ?_)
      have z4 := z.on fl4 up4
      obtain ⟨oe, _, zc, hd, S⟩ := z4.seen hf
      refine store_ok (X := X.suite a ((a, oe) :: (X.pn ++ pins))) (v := .ref a) S nd hi (.inl loc) rfl (fun s5 S5 => ?_) (.inr loc)
      refine wpAny_mono ((su a oe cls d _ zc hd).run [] s5 _ H _ S5 (w a z.free)) (fun ct s6 h6 => ?_) fun _ _ e => e.elim
      have gone : ∀ {τ : L2.St} {G : Hp} {R : Shared → Prop}, Inv (X.suite a ((a, oe) :: (X.pn ++ pins))) [] τ G s6 → (∀ s7, Inv X pins (τ.set i none) G s7 → R s7) → wpAny (model X.prog X.w) X.A (do bindName X.env n .none; unbindBehindTheSuite X.env n p') (fun _ s7 => R s7) X.xe s6 :=
        fun J k => gone_ok (J.unsuite z.inv0.ok) nd hi loc k
      match ct, h6 with
      | .ret u, ⟨v, τ, G, J, rv, q⟩ => exact gone J fun s7 J7 => ⟨v, _, G, J7, rv, q⟩
      | .next, ⟨τ, G, J, q⟩ => exact gone J fun s7 J7 => ⟨_, G, J7, q⟩
      | .brk, ⟨τ, G, J, q⟩ => exact gone J fun s7 J7 => ⟨_, G, J7, q⟩
      | .cont, ⟨τ, G, J, q⟩ => exact gone J fun s7 J7 => ⟨_, G, J7, q⟩
    · exact ih z w
/-- try: body, then the clauses -/
theorem ps_try_mix {body : List Stmt} {h₀ : ExceptHandler} {hds : List ExceptHandler} {l : List Clause} {pos : Pos} {tb : WX → TS} {W : WX} (hs : X.stack = X.env :: X.outer) (hf : X.env.frame = some X.env.locals) (tk : Takes X W)
    (hb : ∀ V pn xe, Takes (X.tr pn xe) V → PSs (X.tr pn xe) body (tb V)) (hh : MixOk X (h₀ :: hds) l) : PS X (.Try body (h₀ :: hds) [] [] pos) (fun D σ H => tb (wMix X.K W D l) D σ H) := by
  constructor
  intro pins s σ H D I h
  have ok := I.ok
  refine wpAny_Try_except (wpAny_mono ((hb _ (X.pn ++ pins) _ ?tk).run [] s σ H D (I.toTry _) h) (fun ct s1 e => ?_) fun _ _ e => e)
  case tk =>
    rintro u s' ⟨a, B, sI, pins', τ, G, cls, d, rfl, J, gr, up, sky, na, os, ag, w⟩
    refine Sky.land Zc.steady (by rw [ok.frames, hs]) hf (hs ▸ sky) fun h3 fl up3 => ?_
    exact Down.walk hs hf tk hh ⟨J.ofTry ok, gr, up.trans up3, os, ag, fl, na⟩ w
  match ct, e with
  | .ret u, ⟨v, τ, G, J, r, q⟩ => exact ⟨v, τ, G, J.ofTry ok, r, q⟩
  | .next, ⟨τ, G, J, q⟩ => exact wpAny_execs_nil ⟨τ, G, J.ofTry ok, q⟩
  | .brk, ⟨τ, G, J, q⟩ => exact ⟨τ, G, J.ofTry ok, q⟩
  | .cont, ⟨τ, G, J, q⟩ => exact ⟨τ, G, J.ofTry ok, q⟩
end
end L3

/-! raise; exceptions of own classes, without own __init__ and with one that keeps one value -/
namespace L3
open PySem PySem.Spec PyProof.Rows L2 Builtin Builtin.ObjectAttr
/-- the first field of such an object: its dict is laid and holds the field alone -/
theorem osa_first {prog : Program} {w : World} {A : Around} {R : Result → Shared → Prop} {s : Shared} {K : PySem.W.Frag} {nm : Str} {tk : Tok} {v : Value} {x C : Addr} {fv : Array Value} {B : String} {bmB : List Value}
    (SF : PySem.StoreFacts B bmB "object.__setattr__" "object") (X : K.In s.heap) (hx : s.heap.get? x = some { cls := .ref C, data := .fields fv }) (ov : PySem.W.excOver K C bmB = true) (hd : PySem.W.hasDictIn K C = true) (ht : PySem.W.takerIn K C nm = some none)
    (done : ∀ h' tk' dx, (∀ b o, b ≠ x → s.heap.get? b = some o → h'.get? b = some o) → s.heap.objs.size ≤ dx → dx ≠ x → h'.get? x = some { cls := .ref C, dict := some dx, data := .fields fv } →
      h'.Ns1 dx (fun y => if y = nm then some v else none) → R (.ok (.ret .none)) { s with heap := h', toks := tk' }) :
    codeAny (model prog w) A (.call (.builtin "object.__setattr__") ⟨[.ref x, .str nm tk, v], []⟩) R s := by
  obtain ⟨cd, hcd, hdc⟩ : ∃ cd, PySem.W.clsIn K C = some cd ∧ cd.hasDict = true := by
    unfold PySem.W.hasDictIn at hd
    cases q : PySem.W.clsIn K C with
    | none => rw [q] at hd; cases hd
    | some cd => rw [q] at hd; exact ⟨cd, rfl, by simpa using hd⟩
  refine PySem.W.osa_openX (od := none) SF X ⟨hx, rfl, rfl, trivial⟩ ov ht fun b => ?_
  have look : PySem.W.Looks (model prog w) s.heap (classData C) cd := PySem.W.looks_clsIn X hcd
  have below : x < s.heap.objs.size := Heap.lt_size hx
  have hx1 : (s.heap.push { cls := .type "dict", data := .dict #[] }).get? x = some { cls := .ref C, data := .fields fv } := Heap.get?_push_of_some _ hx
  obtain ⟨hp, g, dr, t, os⟩ := s
  cases cd
  cases hdc
  show wpAny _ _ (storeInOwnDict _ _ _ _ _ _) _ _ _
  unfold storeInOwnDict ownDictForStores
  repeat (first | (with_reducible refine PySem.HandSPX.store_in_new ?_ ?_) | (with_reducible refine wpAny_loadPart_at hx ?_) | (with_reducible refine look.at ?_) | wp_step)
  · refine ⟨{ cls := .type "dict", data := .dict #[] }, #[], _, ?_, rfl, fun e he => by simp at he, fun _ => rfl⟩
    rw [Heap.get?_update_ne _ _ _ _ (Nat.ne_of_gt below)]
    exact Heap.get?_push_at rfl rfl
  · intro h2 tk2 ns same
    have keep : ∀ {b o}, b ≠ hp.objs.size → h2.get? b = o → h2.get? b = o := fun _ q => q
    have old : ∀ b, b < hp.objs.size → h2.get? b = _ := fun b hb => same.2 b (Nat.ne_of_lt hb)
    refine done h2 tk2 hp.objs.size (fun b o hb ho => ?_) Nat.le.refl (Nat.ne_of_gt below) ((old x below).trans (Heap.get?_update_self _ hx1 rfl)) ns
    have lt := Heap.lt_size ho
    rw [old b lt, Heap.get?_update_ne _ _ _ _ hb]
    exact Heap.get?_push_of_some _ ho
end L3
namespace L3
open PySem PySem.Spec PyProof.Rows L2
theorem code_exo {a C : Addr} {q : Str} {d : Option Addr} (z : LamX.CodeO a q = exo a C d) : False := by
  unfold LamX.CodeO exo at z
  have z' := HO.ext.inj z
  let ob : Obj := { cls := .ref C, dict := d, data := .fields #[.ref 0, .none, .none, .none, .bool false, .none] }
  let h : Heap := { objs := (List.replicate a ({ cls := .none, data := .plain } : Obj)).toArray.push ob }
  have hg : h.get? a = some ob := by
    unfold Heap.get?
    have : h.objs[a]? = some ob := by
      show ((List.replicate a ({ cls := .none, data := .plain } : Obj)).toArray.push ob)[a]? = some ob
      rw [Array.getElem?_push]
      simp
    rw [this]
  have e := congrFun z' h
  have p : ∃ t1 : Addr, h.get? a = some ({ cls := .ref C, dict := d, data := .fields #[.ref t1, .none, .none, .none, .bool false, .none] } : Obj) := ⟨0, hg⟩
  obtain ⟨oc, vs, t, h1, h2, h3⟩ := (Eq.mpr e p)
  rw [hg] at h1
  cases h1
  cases h2
  simp at h3
/-- what an own class over a built-in one has -/
structure OexG (K : PySem.W.Frag) (C : Addr) (B newId initId : String) (bmB : List Value) : Prop where
  F : ExcBaseFacts B newId initId bmB
  SF : PySem.StoreFacts B bmB "object.__setattr__" "object"
  ini : PySem.W.excInitIn K C bmB newId = true
  ov : PySem.W.excOver K C bmB = true
  hd : PySem.W.hasDictIn K C = true
  sa : PySem.W.findIn K (.ref C) "__setattr__" = some (some (.builtin "object.__setattr__"))
  exC : PySem.W.subIn K (.ref C) (.type "BaseException") = some true
  tyC : PySem.W.typeIn K (.ref C) = some (.type "type")
  kC : PySem.W.keepIn K (.ref C) = true
section
variable {X : Cx} {pins : List (Addr × Obj)} {σ : L2.St} {H : Hp} {s : Shared} {a C : Addr} {f : Str} {y : V} {u : Value} {B newId initId : String} {bmB : List Value}
/-- the abstract heap behind self.f = y: the dict at dx, the object that has it -/
abbrev withFld (H : Hp) (a C dx : Addr) (f : Str) (y : V) : Hp := upd (upd H dx (exd dx [(f, y)])) a (exo a C (some dx))
theorem fld_un {h h' : Heap} {fs : List Addr} {dx : Addr} (e : H a = some (exo a C none)) (new : h.objs.size ≤ dx) (hd : H dx = none) (k : ∀ b o, b ≠ a → h.get? b = some o → h'.get? b = some o) (hx : ∃ o, h'.get? a = some o) : Un fs [] H (withFld H a C dx f y) h h' := by
  have out : ∀ {b}, H b = none → b ≠ a := fun n z => by subst z; rw [e] at n; cases n
  have low : ∀ {b o}, h.get? b = some o → b ≠ dx := fun q z => absurd (Heap.lt_size q) (by rw [z]; exact Nat.not_lt.mpr new)
  have same : ∀ {b o}, H b = some o → o ≠ exo a C none → withFld H a C dx f y b = some o := fun {b o} q n => by
    have h1 : b ≠ a := fun z => by subst z; rw [e] at q; exact n (Option.some.inj q).symm
    have h2 : b ≠ dx := fun z => by subst z; rw [hd] at q; cases q
    show upd (upd H dx _) a _ b = _
    rw [upd_ne h1, upd_ne h2, q]
  constructor
  · exact fun b o q n _ _ => k b o (out n) q
  · exact fun b o q n _ _ => ⟨o.slots, k b o (out n) q⟩
  · intro b o q n _
    show upd (upd H dx _) a _ b = none
    rw [upd_ne (out n), upd_ne (low q), n]
  · intro b o q _
    rcases Classical.em (b = a) with z | z
    · subst z; exact hx
    · exact ⟨o, k b o z q⟩
  · exact fun b xs q => same q fun z => exo_tup z.symm
  · exact fun b o v q => same q fun z => exo_frz z.symm
  · exact fun b ps q => ⟨#[], by rw [same q fun z => exo_tbl z.symm, Array.append_empty]⟩
theorem fld_ok {P : Program} {w : World} {h h' : Heap} {dx : Addr} {t1 : Addr} (ok : HOk P w H h) (e : H a = some (exo a C none)) (hd : H dx = none) (k : ∀ b o, b ≠ a → h.get? b = some o → h'.get? b = some o)
    (hx : h'.get? a = some ({ cls := .ref C, dict := some dx, data := .fields #[.ref t1, .none, .none, .none, .bool false, .none] } : Obj)) (hn : h'.Ns1 dx fun z => if z = f then some u else none) (r : RelV y u) : HOk P w (withFld H a C dx f y) h' := by
  intro b o q
  have q : upd (upd H dx (exd dx [(f, y)])) a (exo a C (some dx)) b = some o := q
  rcases Classical.em (b = a) with z | hb
  · subst z
    rw [upd_same] at q
    have q := Option.some.inj q
    subst q
    exact exo_ok hx
  rw [upd_ne hb] at q
  rcases Classical.em (b = dx) with z | hbd
  · subst z
    rw [upd_same] at q
    have q := Option.some.inj q
    subst q
    exact exd_ok hn (relO_put (fs := []) r fun _ => trivial)
  rw [upd_ne hbd] at q
  have keep : ∀ {c v}, H c = some v → (v ≠ exo a C none) → withFld H a C dx f y c = some v := fun {c v} hc n => by
    have h1 : c ≠ a := fun z => by subst z; rw [e] at hc; exact n (Option.some.inj hc).symm
    have h2 : c ≠ dx := fun z => by subst z; rw [hd] at hc; cases hc
    show upd (upd H dx _) a _ c = _
    rw [upd_ne h1, upd_ne h2, hc]
  refine (ok b o q).stay (fun c v hc g => k c v ?_ g) (fun c hc => keep hc fun z => exo_own z.symm) (fun c xs hc => keep hc fun z => exo_tup z.symm)
  rcases hc with rfl | hc
  · exact hb
  · exact at_ne e hc exo_own
/-- self.f = y, the first field -/
theorem ost_first (T : OexG X.K C B newId initId bmB) (I : Inv X pins σ H s) (e : H a = some (exo a C none)) (ht : PySem.W.takerIn X.K C f = some none) (ry : RelV y u) {A : Around} {Q : Unit → Shared → Prop} {E : Value → Shared → Prop}
    (h : ∀ dx s', H dx = none → dx ≠ a → Inv X pins σ (withFld H a C dx f y) s' → Q () s') : wpAny (model X.prog X.w) A (setAttr (.ref a) f u) Q E s := by
  obtain ⟨t1, ho⟩ := exo_at I.hok e
  refine PySem.W.set_plain (C := C) (od := none) I.kIn ⟨ho, rfl, rfl, trivial⟩ T.sa ?_
  refine osa_first (s := { s with toks := s.toks + 1 }) T.SF I.kIn ho T.ov T.hd ht fun h' tk' dx k new ne hx hn => ?_
  have hdx : H dx = none := I.hok.fresh new
  exact h dx _ hdx ne (I.un (t' := tk') (fld_un e new hdx k ⟨_, hx⟩) (fld_ok I.hok e hdx k hx hn ry))
end
/-! ### the heap behind such a making -/
section
variable {K : PySem.W.Frag} {mg : Str → Option Value} {β β' : List Addr} {st st' : Sto} {H H' : Hp} {a C dx : Addr} {fs : List (Str × V)}
theorem exo_notin (S : Sim K mg β st H) (hn : H a = none) : a ∉ β := fun hm => by
  obtain ⟨n, hl, hb⟩ := List.mem_iff_getElem.mp hm
  obtain ⟨u, e⟩ := S.used (n := n) (a := a) (by rw [List.getElem?_eq_getElem hl, hb])
  rw [hn] at e; cases e
theorem exo_kept (S : Sim K mg β st H) (hn : H a = none) (e : Ext β (upd H a (exo a C none)) β' H') : H' a = some (exo a C none) :=
  e.keep a _ upd_same (exo_notin S hn) fun ps z => exo_tbl z
theorem exc_behind (hn : H a = none) (e : Ext β (upd H a (exo a C none)) β' H') (S' : Sim K mg β' st' H') (ha : H' a = some (exo a C none)) (hd : H' dx = none) (hda : dx ≠ a) :
    let H3 := upd (del (upd (upd H' dx (exd dx fs)) a (exo a C (some dx))) a) dx (.xd fs)
    Ext β H β' H3 ∧ Sim K mg β' st' H3 ∧ Ext0 β' H' β' H3 ∧ (∀ u, H dx = some u → ∃ ps, u = .tbl ps) ∧ H3 dx = some (.xd fs) := by
  intro H3
  have at3 : ∀ b, b ≠ dx → b ≠ a → H3 b = H' b := fun b h1 h2 => by
    show upd (del (upd (upd H' dx (exd dx fs)) a (exo a C (some dx))) a) dx (.xd fs) b = _
    rw [upd_ne h1, del_ne h2, upd_ne h2, upd_ne h1]
  have ne1 : ∀ {b : Addr} {u : HO}, H' b = some u → b ≠ dx := fun q => ne_of_none q hd
  have neH : ∀ {b : Addr} {u : HO}, H b = some u → b ≠ a := fun q => ne_of_none q hn
  have up : ∀ {b : Addr} {u : HO}, H b = some u → upd H a (exo a C none) b = some u := fun q => by rw [upd_ne (neH q)]; exact q
  have e0 : Ext0 β' H' β' H3 := ⟨⟨[], by simp⟩, fun b xs q => by rw [at3 b (ne1 q) (at_ne ha q exo_tup)]; exact q, fun b o u q => by rw [at3 b (ne1 q) (at_ne ha q exo_frz)]; exact q,
    fun b q0 q => by rw [at3 b (ne1 q) fun z => by subst z; rw [ha] at q; exact code_exo (Option.some.inj q).symm]; exact q⟩
  have hdH : ∀ u, H dx = some u → ∃ ps, u = .tbl ps := fun u q => by
    by_cases hu : ∃ ps, u = .tbl ps
    · exact hu
    · by_cases hb : dx ∈ β
      · obtain ⟨t, et⟩ := e.pre
        obtain ⟨n, hl, hg⟩ := List.mem_iff_getElem.mp hb
        obtain ⟨v, k⟩ := S'.used (n := n) (a := dx) (e.get (by rw [List.getElem?_eq_getElem hl, hg]))
        rw [hd] at k; cases k
      · have k := e.keep dx u (up q) hb fun ps z => hu ⟨ps, z⟩
        rw [hd] at k; cases k
  refine ⟨⟨⟨e.pre, fun b xs q => ?_, fun b o u q => ?_, fun b q0 q => ?_⟩, fun b u q hb ht => ?_, fun b q => ?_⟩, ⟨S'.len, S'.inj, fun n ob b h1 h2 => ?_⟩, e0, hdH, upd_same⟩
  · exact e0.tups b xs (e.tups b xs (up q))
  · exact e0.frzs b o u (e.frzs b o u (up q))
  · exact e0.exts b q0 (e.exts b q0 (up q))
  · have k := e.keep b u (up q) hb ht
    rw [at3 b (ne1 k) (neH q)]; exact k
  · rcases e.new b q with z | z
    · exact .inl z
    · by_cases hb : b = a
      · rw [hb]; exact .inr (.inl hn)
      · rw [upd_ne hb] at z; exact .inr z
  · have o := S'.ob n ob b h1 h2
    obtain ⟨u, q, n1, n2, n3⟩ := o.some
    refine o.mono0 e0 (at3 b (ne1 q) fun z => ?_)
    subst z
    rw [ha] at q
    exact n3 _ (Option.some.inj q).symm
end
/-! ### what makes an exception, and raise -/
abbrev KX := Env3 → Sto → R XN
def liftX (K : PySem.W.Frag) (mg : Str → Option Value) (W : WX) (k : KX) : L2.St → Hp → XK → Prop := fun σ H Q => ∃ β ρ st, Sim K mg β st H ∧ ER K β H ρ σ ∧ PostA K mg W σ (fun x β' H' => ∀ c dd, XR K mg β' H' x c dd → Q c dd H') β H (k ρ st)
def sRaise (m : KX) : KS := fun ρ st => match m ρ st with
  | .ok x st1 => .exn x ρ st1
  | .exn x st1 => .exn x ρ st1
  | .bad => .bad
theorem PMk.imp {X : Cx} {e : Expr} {t t' : L2.St → Hp → XK → Prop} (h : PMk X e t) (i : ∀ σ H Q, t' σ H Q → t σ H Q) : PMk X e t' := fun pins s σ H Q I q => h pins s σ H Q I (i σ H Q q)
section
variable {X : Cx} {W : WX} {e : Expr} {pos p p2 : Pos} {ka : KE} {x f m : Str} {C : Addr}
theorem s_raise {k : KX} (hc : X.calm = true) (tk : Takes X W) (he : PMk X e (liftX X.K X.mg W k)) : PS X (.Raise (some e) none pos) (liftS X.K X.mg W (sRaise k)) :=
  PS.imp (ps_raise hc tk he) fun Dn σ H ⟨β, ρ, st, S, E, p⟩ => by
    refine ⟨β, ρ, st, S, E, ?_⟩
    unfold sRaise at p
    cases hm : k ρ st with
    | ok x st1 => rw [hm] at p; exact fun β' H' e' S' c dd xr => p β' H' σ c dd e' S' (E.mono e') xr
    | exn x st1 => rw [hm] at p; exact fun β' H' c dd e' S' xr => p β' H' σ c dd e' S' (E.mono e') xr
    | bad => rw [hm] at p; exact p
/-- C('..') of an own class without __init__ -/
def kMk0 (x : Str) : KX := fun _ st => .ok ⟨x, []⟩ st
theorem mk_own {B newId initId : String} {bmB : List Value} {j : Nat} (F : ExcBaseFacts B newId initId bmB) (q : PySem.W.excIn X.K C bmB newId = true) (gC : X.mg x = some (.ref C)) (kC : PySem.W.keepIn X.K (.ref C) = true) (exC : PySem.W.subIn X.K (.ref C) (.type "BaseException") = some true) (tyC : PySem.W.typeIn X.K (.ref C) = some (.type "type"))
    (hg : Gl X x) (hdb : (x == ("__debug__" : Str)) = false := by decide) : PMk X (.Call (.Name x p) [.Constant (.str m) j p2] [] pos) (liftX X.K X.mg W (kMk0 x)) :=
  PMk.imp (pmk_own F q gC kC (raises_own exC tyC) hg hdb) fun σ H Q ⟨β, ρ, st, S, E, h⟩ => h β H (Ext.refl _ _) S _ _ ⟨gC, rfl⟩
end
end L3

/-! an own exception whose __init__ keeps what a def makes of its argument -/
namespace L3
open PySem PySem.Spec PyProof.Rows L2
/-- what is wished of the keeping, f: the field -/
abbrev okI (C a : Addr) (f : Str) (Z : Hp → Prop) : V → Hp → Prop := fun y H1 => ∀ dx, H1 dx = none → dx ≠ a → Z (upd (upd H1 dx (exd dx [(f, y)])) a (exo a C (some dx)))
def tInit (K : PySem.W.Frag) (mg : Str → Option Value) (W : WX) (C : Addr) (f : Str) (ke : KE) : TS := fun D σ H => ∃ (a : Addr) (β : List Addr) (ρ : Env3) (st : Sto), σ[0]? = some (some (.ref a)) ∧ H a = some (exo a C none) ∧ Sim K mg β st H ∧ ER K β H ρ σ ∧
  PostA K mg W σ (okE K (okI C a f fun H' => D.nx σ H')) β H (ke ρ st)
def spInit (K : PySem.W.Frag) (mg : Str → Option Value) (C : Addr) (f : Str) (run : Run) : Sp := fun vs H Q E => ∃ (a : Addr) (v : V) (β : List Addr) (st : Sto) (d : D), vs = [.ref a, v] ∧ H a = some (exo a C none) ∧ Sim K mg β st H ∧ VR K β H d v ∧
  PostA K mg (fun c dd _ H => E c dd H) [] (okE K (okI C a f fun H' => Q .non H')) β H (run [d] st)
theorem exo_in {K : PySem.W.Frag} {mg : Str → Option Value} {β : List Addr} {st : Sto} {H : Hp} {a C : Addr} (S : Sim K mg β st H) (ha : H a = some (exo a C none)) : a ∉ β := fun hm => by
  obtain ⟨n, hl, hb⟩ := List.mem_iff_getElem.mp hm
  obtain ⟨o, h1, r⟩ := S.at (n := n) (a := a) (by rw [List.getElem?_eq_getElem hl, hb])
  obtain ⟨u, q, n1, n2, n3⟩ := r.some
  rw [ha] at q
  exact n3 _ (Option.some.inj q).symm
section
variable {X : Cx} {W : WX} {e : Expr} {ke : KE} {f sx : Str} {C : Addr} {B newId initId : String} {bmB : List Value} {p0 p' pos : Pos}
theorem ps_init (T : OexG X.K C B newId initId bmB) (hno : PySem.W.takerIn X.K C f = some none) (hN : X.N[0]? = some sx) (hv : Vis X.env.scope sx) (he : PE X e (lift X.K X.mg W ke))
    (hs : swapsWith e (some (.Attribute (.Name sx p0) f p')) pos.line X.env = pure false := by rfl) (hd : (sx == ("__debug__" : Str)) = false := by decide) (hcd : (sx == ("__classdict__" : Str)) = false := by decide) :
    PS X (.Assign [.Attribute (.Name sx p0) f p'] e pos) (tInit X.K X.mg W C f ke) := by
  refine ⟨fun pins s σ H D I ⟨a, β, ρ, st, hσ, ha, S, E, p⟩ => ?_⟩
  have hna := exo_in S ha
  refine plainObj_wpAny_Assign_Attribute (thn (he.run pins s σ H (fun y H1 => H1 a = some (exo a C none) ∧ okI C a f (fun H' => D.nx σ H') y H1) I ⟨β, ρ, st, S, E, ?_⟩) fun v s1 ⟨y, H1, I1, r1, ha1, q1⟩ =>
    thn ((pe_var (pos := p0) (i := 0) hN hv hd hcd).run pins s1 σ H1 (fun x H2 => x = .ref a ∧ H2 = H1) I1 ⟨_, hσ, rfl, rfl⟩) fun u s2 ⟨x, H2, I2, r2, ex, eH⟩ => ?_) hs
  · revert p
    cases ke ρ st with
    | ok d st' => exact fun p β' H' e' S' v rv => ⟨e'.keep a _ ha hna fun ps z => exo_tbl z, p β' H' e' S' v rv⟩
    | exn x st' => exact fun p => p
    | bad => exact fun p => p
  · subst ex eH
    obtain rfl : u = Value.ref a := r2
    exact ost_first T I2 ha1 hno r1 fun dx s' n ne J => ⟨σ, _, J, q1 dx n ne⟩
end
section
variable {P : Program} {w : World} {K : PySem.W.Frag} {mg : Str → Option Value} {base : Heap}
theorem Fun.okI {x qual f sx vx : Str} {C : Addr} {st : Stmt} {fI : Addr} {fd : FuncData} {N : List Str} {k : Nat} {run : Run} (F : Fun K x qual st fI fd) (S : FnScope N [sx, vx] (defScope st)) (hN : N = [sx, vx])
    (hb : ∀ (cdv : Value) (A : Around) (outer : List Env) (s : Shared) (H : Hp) (E : XK), Room k (A.deeper (envOfC qual (defScope st) s.heap.objs.size fI cdv)) →
      PSs (cxOf (L2.CX P w) P w K mg base N qual (defScope st) fI cdv A outer s H E) (defBody st) (tInit K mg (fun c d _ H => E c d H) C f (kF run (kA1 (kv 1) kA0)))) :
    FnOk P w K mg base (L2.CX P w) (k + 1) fI fd [sx, vx] (spInit K mg C f run) := by
  refine F.okX S (fun vs H Q E h => by obtain ⟨a, v, _, _, _, rfl, _⟩ := h; rfl) fun cdv A outer s H vs Q E hr h => ?_
  refine ⟨_, hb cdv A outer s H E hr, ?_⟩
  obtain ⟨a, v, β, sto, d, rfl, ha, Si, rd, p⟩ := h
  subst hN
  have na := exo_in Si ha
  refine ⟨a, β, [none, some d], sto, rfl, ha, Si, ⟨rfl, fun i e q => ?_⟩, ?_⟩
  · match i, q with
    | 1, q => cases q; exact ⟨v, rfl, rd⟩
  · show PostA K mg _ _ _ β H (run [d] sto)
    revert p
    cases run [d] sto with
    | ok y st' => exact fun p => p
    | exn x st' => exact fun p => p
    | bad => exact fun p => p
end
/-- C(e) of such a class -/
def kMk1 (x f : Str) (run : Run) (ka : KE) : KX := fun ρ st => (ka ρ st).bind fun d st1 => match run [d] st1 with
  | .ok y st2 => .ok ⟨x, [(f, y)]⟩ st2
  | _ => .bad
section
variable {X : Cx} {W : WX} {e : Expr} {pos p : Pos} {ka : KE} {x f sx vx : Str} {C fI : Addr} {k : Nat} {fd : FuncData} {run : Run} {B newId initId : String} {bmB : List Value}
/-- the object and its arguments are laid -/
theorem exc_laid {pins : List (Addr × Obj)} {σ : L2.St} {H : Hp} {s : Shared} (I : Inv X pins σ H s) (C : Addr) (us : List Value) :
    H (s.heap.objs.size + 1) = none ∧ Inv X pins σ (upd H (s.heap.objs.size + 1) (exo (s.heap.objs.size + 1) C none)) { s with heap := (s.heap.push (PySem.W.kdv_tup us)).push (PySem.HandSPX.excO C s.heap.objs.size) } := by
  have up : s.heap.objs.size ≤ s.heap.objs.size + 1 := Nat.le_add_right _ 1
  exact ⟨I.hok.fresh up, I.laid (t' := s.toks) (fun b o q => Heap.get?_push_of_some _ (Heap.get?_push_of_some _ q)) up (exo_ok (t1 := s.heap.objs.size) (by heap_get))⟩
/-- what its __init__ is asked -/
theorem ask_init {σ : L2.St} {H : Hp} {Q : XK} {β : List Addr} {st : Sto} {d : D} {v : V} {K : PySem.W.Frag} {mg : Str → Option Value} (S : Sim K mg β st H) (rd : VR K β H d v) (hm : mg x = some (.ref C)) {e : Addr} (hn : H e = none)
    (p : PostA K mg W σ (fun x β' H' => ∀ c dd, XR K mg β' H' x c dd → Q c dd H') β H (match run [d] st with | .ok y st2 => .ok ⟨x, [(f, y)]⟩ st2 | _ => .bad)) :
    spInit K mg C f run [.ref e, v] (upd H e (exo e C none))
      (fun v H2 => v = .non ∧ ∃ dx fs, H2 e = some (exo e C (some dx)) ∧ H2 dx = some (exd dx fs) ∧ (∀ u, H dx = some u → ∃ ps, u = .tbl ps) ∧ Q (.ref C) (some dx) (upd (del H2 e) dx (.xd fs))) fun _ _ _ => False := by
  refine ⟨e, v, β, st, d, rfl, upd_same, S.new0 hn, VR.mono (ext_new0 hn) _ _ rd, ?_⟩
  cases q : run [d] st with
  | bad => rw [q] at p; exact p
  | exn _ _ => rw [q] at p; exact p.elim
  | ok y st2 =>
    rw [q] at p
    intro β' H' ex S' yv ry dx h1 h2
    obtain ⟨e3, S3, e0, old, hx⟩ := exc_behind (fs := [(f, yv)]) hn ex S' (exo_kept S hn ex) h1 h2
    exact ⟨rfl, dx, _, upd_same, by rw [upd_ne h2, upd_same], old, p β' _ e3 S3 _ _ ⟨hm, _, hx, .cons ⟨rfl, VR.mono0 e0 _ _ ry⟩ .nil⟩⟩
theorem mk_init (T : OexG X.K C B newId initId bmB) (iC : PySem.W.findIn X.K (.ref C) "__init__" = some (some (.ref fI))) (tI : PySem.W.typeIn X.K (.ref fI) = some (.type "function"))
    (F1 : FnOk X.prog X.w X.K X.mg X.base (L2.CX X.prog X.w) k fI fd [sx, vx] (spInit X.K X.mg C f run)) (hr : Room (k + 1) X.A) (hb : Binds X.K fd [sx, vx] []) (hg : Gl X x) (hm : X.mg x = some (.ref C)) (ha : PE X e (lift X.K X.mg W ka))
    (hdb : (x == ("__debug__" : Str)) = false := by decide) (he : starEach (e :: []) X.env = (false, eval e X.env) :: starEach [] X.env := by rfl) (hpl : (backTo pos (starEach [] X.env)).any (·.1) = false := by rfl) :
    PMk X (.Call (.Name x p) [e] [] pos) (liftX X.K X.mg W (kMk1 x f run ka)) := by
  rintro pins s σ H Q I ⟨β, ρ, st, S, E, h⟩
  have one : PA X [e] (fun σ H R => lift X.K X.mg W ka σ H fun v H' => R [v] H') := PA.imp (pa_cons ha pa_nil he) fun _ _ _ z => z
  refine wpAny_Call_Name_kw (ld_glob I hg hm (PySem.W.callWith_K (h₀ := X.base) I.ok.mod.kin T.kC (thn (one.run pos pins s σ H (fun vs H1 => ∃ β1 st1 d v, vs = [v] ∧ Sim X.K X.mg β1 st1 H1 ∧ VR X.K β1 H1 d v ∧
    PostA X.K X.mg W σ (fun x β' H' => ∀ c dd, XR X.K X.mg β' H' x c dd → Q c dd H') β1 H1 (match run [d] st1 with | .ok y st2 => .ok ⟨x, [(f, y)]⟩ st2 | _ => .bad)) I ?_) fun us s1 ⟨vs, H1, I1, r1, β1, st1, d, v, ev, S1, rd, p1⟩ => ⟨I1.kIn, ?_⟩) he hpl) hdb)
  · exact lift.bind (ok := fun (x : XN) β' H' => ∀ c dd, XR X.K X.mg β' H' x c dd → Q c dd H') S E h fun d v β' H' st' _ S' _ r' p' => ⟨β', st', d, v, rfl, S', r', p'⟩
  subst ev
  have n1 : us.length = 1 := (Paired.length r1).symm
  obtain ⟨hn, I2⟩ := exc_laid I1 C us
  obtain ⟨_, _, _, _, _, _, _, _, _, _, _, _, _, _, _, _, hC, tl⟩ := PySem.W.excInit_of I1.kIn T.ini
  have bd := hb { s1 with heap := (s1.heap.push (PySem.W.kdv_tup us)).push (PySem.HandSPX.excO C s1.heap.objs.size) } (.ref (s1.heap.objs.size + 1) :: us) I2.kIn (by simp [n1])
  rw [List.append_nil] at bd
  have go := F1.run (X.A.under (.builtin "type.__call__" ⟨.ref C :: us, []⟩)) X.stack _ _ ⟨.ref (s1.heap.objs.size + 1) :: us, []⟩ _ [.ref (s1.heap.objs.size + 1), v] _ _ (hr.make C us []) (I2.env0.make C us []) bd (.cons rfl r1) (ask_init (W := W) (σ := σ) (Q := Q) S1 rd hm hn p1)
  refine wpAny_call (PySem.HandSPX.call_own (h := s1.heap) (g := s1.gens) (d := s1.drawn) (t := s1.toks) (os := s1.os) T.F tl hC (PySem.W.looks_findIn I1.kIn iC) (fun self => PySem.W.bind_fn I1.kIn self tI) (by show us.length ≤ sizeLine; rw [n1, sizeLine_eq]; decide) (codeAny_mono go fun r s' z => ?_))
  match r, z with
  | .error _, z => obtain ⟨_, _, _, _, _, _, _, _, _, _, _, _, z⟩ := z; exact z.elim
  | .ok .next, z => exact z.elim
  | .ok .brk, z => exact z.elim
  | .ok .cont, z => exact z.elim
  | .ok (.ret u), z =>
    obtain ⟨w, H2, o2, b2, un2, ok2, rv, hw, dx, fs, ea, ed, old, q2⟩ := z
    subst hw
    have hd1 : H1 dx = none := by
      cases q : H1 dx with
      | none => rfl
      | some u =>
        obtain ⟨ps, rfl⟩ := old u q
        obtain ⟨more, z⟩ := un2.tbls dx ps (by rw [upd_ne (ne_of_none q hn), q])
        rw [ed] at z
        cases z
    refine ⟨rv, mk_end (raises_own T.exC T.tyC) I1 (Nat.le_add_right _ 1) (fun b o q => Heap.get?_push_of_some _ (Heap.get?_push_of_some _ q)) un2 ok2 o2 b2 ea ed hd1 q2⟩
end
end L3

/-! _law_met(lambda: e): the lambda handed to a def that calls it in a try, each clause of which returns -/
namespace L3
open PySem PySem.Spec PyProof.Rows L2 LamX
/-! ### the clauses -/
abbrev MH := XN → KE
def metH (n : Nat) (x : XN) (st : Sto) : List (Str × MH) → R D
  | [] => .bad
  | (c, h) :: r => if x.cls = c then h x (List.replicate n none) st else metH n x st r
/-- what such a def makes of the lambda's end -/
def metGo (cl : List Str) (n : Nat) (hs : List (Str × MH)) (e : KE) (r : R D) : R D := match r with
  | .ok _ st => e (List.replicate n none) st
  | .exn x st => if x.cls ∈ cl then metH n x st hs else .bad
  | .bad => .bad
def tHd (K : PySem.W.Frag) (mg : Str → Option Value) (n : Nat) (cn : Str) (io : Option Nat) (a : Addr) (cls : Value) (d : Option Addr) (h : MH) : TE := fun σ H Q => ∃ (x : XN) (β : List Addr) (st : Sto), XR K mg β H x cls d ∧ x.cls = cn ∧ Sim K mg β st H ∧ σ.length = n ∧ (∀ i, io = some i → σ[i]? = some (some (.ref a))) ∧
  PostA K mg W0 σ (okE K Q) β H (h x (List.replicate n none) st)
theorem er_none {K : PySem.W.Frag} {β : List Addr} {H : Hp} {σ : L2.St} {n : Nat} (h : σ.length = n) : ER K β H (List.replicate n none) σ := ⟨by simp [h], fun i d q => by
  rw [List.getElem?_replicate] at q
  split at q <;> cases q⟩
section
variable {X : Cx} {n : Nat} {cn : Str} {io : Option Nat} {a : Addr} {cls : Value} {d : Option Addr} {e b : Expr} {k kb : KE} {h : MH} {pos p : Pos}
theorem hd_plain (he : PE X e (lift X.K X.mg W0 k)) : PE X e (tHd X.K X.mg n cn io a cls d fun _ => k) := PE.imp he fun σ H Q ⟨x, β, st, xr, hc, S, hl, hi, p⟩ => ⟨β, _, st, S, er_none hl, p⟩
def kXf (f : Str) : MH := fun x _ st => match x.fs.lookup f with
  | some d => .ok d st
  | none => .bad
theorem hd_fld {C : Addr} {i : Nat} {oe : Obj} {pn : List (Addr × Obj)} {ex f : Str} (T : XfC X.K C) (hno : PySem.W.findIn X.K (.ref C) f = some none) (hC : X.mg cn = some (.ref C)) (hz : Zc cls d oe) (hf : ∃ vs, oe.data = .fields vs)
    (hN : X.N[i]? = some ex) (hv : Vis X.env.scope ex) (hd : (ex == ("__debug__" : Str)) = false := by decide) (hcd : (ex == ("__classdict__" : Str)) = false := by decide)
    (hb : attributeBase (.Name ex p) f X.env (eval (.Name ex p) X.env) = eval (.Name ex p) X.env := by rfl) :
    PE (X.suite a ((a, oe) :: pn)) (.Attribute (.Name ex p) f pos) (tHd X.K X.mg n cn (some i) a cls d (kXf f)) :=
  PE.imp (pe_xf (te := tVar i) T hno hz hf (pe_var (X := X.suite a ((a, oe) :: pn)) (i := i) hN hv hd hcd) hb) fun σ H Q ⟨x, β, st, xr, hc, S, hl, hi, p⟩ => by
    obtain ⟨hm, xd⟩ := xr
    rw [hc] at hm
    have hm' : X.mg cn = some cls := hm
    rw [hC] at hm'
    cases hm'
    refine ⟨.ref a, hi i rfl, rfl, rfl, ?_⟩
    unfold kXf at p
    cases hl : x.fs.lookup f with
    | none => rw [hl] at p; exact p.elim
    | some y =>
      rw [hl] at p
      cases d with
      | none =>
        have z : x.fs = [] := xd
        rw [z] at hl; cases hl
      | some dd =>
        obtain ⟨gs, e1, e2⟩ := xd
        have g := e2.get (n := f)
        rw [hl] at g
        obtain ⟨v, g1, g2⟩ := g
        exact ⟨dd, gs, v, rfl, e1, g1, p β H (Ext.refl _ _) S v g2⟩
theorem hd_op {m : Str} {j : Nat} {p2 : Pos} {op : Operator} {f : D → D → Sto → R D} (ho : OpS X W0 (binaryOp op) f) (hb : PE X b (tHd X.K X.mg n cn io a cls d h)) :
    PE X (.BinOp (.Constant (.str m) j p2) op b pos) (tHd X.K X.mg n cn io a cls d fun x => k2 f (kc (.str m)) (h x)) := by
  refine ⟨fun pins s σ H Q I ⟨x, β, st, xr, hc, S, hl, hi, p⟩ => ?_⟩
  refine wpAny_BinOp (thn ((pe_str (X := X) (pos := p2) (j := j)).run pins s σ H (fun v H1 => v = .str m ∧ H1 = H) I ⟨rfl, rfl⟩) fun v s1 ⟨vx, H1, I1, r1, ev, eH⟩ => ?_)
  subst ev eH
  refine thn (hb.run pins s1 σ H1 (fun y H2 => ∃ β2 st2 dy, Sim X.K X.mg β2 st2 H2 ∧ VR X.K β2 H2 dy y ∧ PostA X.K X.mg W0 σ (okE X.K Q) β2 H2 (f (.str m) dy st2)) I1 ⟨x, β, st, xr, hc, S, hl, hi, ?_⟩) fun u s2 ⟨y, H2, I2, r2, β2, st2, dy, S2, v2, p2⟩ => ?_
  · have p' : PostA X.K X.mg W0 σ (okE X.K Q) β H1 ((h x (List.replicate n none) st).bind fun y st2 => f (.str m) y st2) := p
    exact PostA.imp (fun dy β' H' ⟨st', S', p2⟩ v rv => ⟨β', st', dy, S', rv, p2⟩) (PostA.bind p')
  · exact ho pins s2 σ H2 _ y v u Q β2 st2 _ dy I2 r1 r2 S2 (VR.str.mpr rfl) v2 p2
theorem hd_callB {x : Str} {id : String} {f : List D → Sto → R D} (hc : CallS X W0 (.builtin id) f) (hg : Gl X x) (hm : X.mg x = none) (hv : bootBuiltins x = some (.builtin id)) (hb : PE X b (tHd X.K X.mg n cn io a cls d h)) (hn : x ≠ "__name__" := by decide) (hdb : (x == ("__debug__" : Str)) = false := by decide)
    (he : starEach (b :: []) X.env = (false, eval b X.env) :: starEach [] X.env := by rfl) (hpl : (backTo pos (starEach [] X.env)).any (·.1) = false := by rfl) : PE X (.Call (.Name x p) [b] [] pos) (tHd X.K X.mg n cn io a cls d fun x => kF f (kA1 (h x) kA0)) := by
  refine ⟨fun pins s σ H Q I ⟨xn, β, st, xr, hcn, S, hl, hi, q⟩ => ?_⟩
  refine wpAny_Call_Name_kw (ld_blt I hg hm hv ?_ hn hdb)
  have q' : PostA X.K X.mg W0 σ (okE X.K Q) β H ((h xn (List.replicate n none) st).bind fun y st2 => f [y] st2) := by
    revert q
    show PostA _ _ _ _ _ _ _ (((h xn (List.replicate n none) st).bind fun x st1 => (kA0 (List.replicate n none) st1).bind fun xs st2 => .ok (x :: xs) st2).bind f) → _
    cases h xn (List.replicate n none) st with
    | ok _ _ => exact fun q => q
    | exn _ _ => exact fun q => q
    | bad => exact fun q => q
  have ha : PA X [b] (fun σ H Q => tHd X.K X.mg n cn io a cls d h σ H fun v H' => Q [v] H') := PA.imp (pa_cons hb pa_nil he) fun σ H Q z => z
  refine PyProof.Rows.callWith_builtin1 (thn (ha.run pos pins s σ H (fun xs H1 => ∃ β1 st1 ds, Sim X.K X.mg β1 st1 H1 ∧ VRs X.K β1 H1 ds xs ∧ PostA X.K X.mg W0 σ (okE X.K Q) β1 H1 (f ds st1)) I
    ⟨xn, β, st, xr, hcn, S, hl, hi, PostA.imp (fun dy β' H' ⟨st', S', p2⟩ v rv => ⟨β', st', [dy], S', VRs.cons.mpr ⟨v, [], rfl, rv, VRs.nil.mpr rfl⟩, p2⟩) (PostA.bind q')⟩) fun us s1 ⟨vs, H1, I1, r1, β1, st1, ds, S1, v1, p1⟩ => ?_) he hpl
  exact hc pins s1 σ H1 vs us Q β1 st1 ds I1 r1 S1 v1 p1
end
/-- the clauses of the text, their meanings, what is made of them -/
inductive HdL (Z : Cx) (n : Nat) (cl : List Str) : List ExceptHandler → List (Str × MH) → List Clause → Prop
  | nil : HdL Z n cl [] [] []
  | bare {cn : Str} {C : Value} {h : MH} {e0 : Expr} {np p' rp : Pos} {hds : List ExceptHandler} {hs : List (Str × MH)} {l : List Clause} (hc : Names Z cn C) (hex : ∀ k ∈ cl, ∀ ck, Z.mg k = some ck → PySem.W.exmOne Z.K ck C = some (decide (k = cn)))
      (su : ∀ a oe cls d pn, Zc cls d oe → (∃ vs, oe.data = .fields vs) → PE (Z.suite a ((a, oe) :: pn)) e0 (tHd Z.K Z.mg n cn none a cls d h)) (r : HdL Z n cl hds hs l) :
      HdL Z n cl (.ExceptHandler (some (.Name cn np)) none [.Return (some e0) rp] p' :: hds) ((cn, h) :: hs) (⟨C, none, fun a cls d D σ H => tHd Z.K Z.mg n cn none a cls d h σ H D.rt⟩ :: l)
  | named {cn ex : Str} {i : Nat} {C : Value} {h : MH} {e0 : Expr} {np p' rp : Pos} {hds : List ExceptHandler} {hs : List (Str × MH)} {l : List Clause} (nd : Z.N.Nodup) (hi : Z.N[i]? = some ex) (loc : Z.env.kindOf ex = some .local) (hin : i < n) (hc : Names Z cn C) (hex : ∀ k ∈ cl, ∀ ck, Z.mg k = some ck → PySem.W.exmOne Z.K ck C = some (decide (k = cn)))
      (su : ∀ a oe cls d pn, Zc cls d oe → (∃ vs, oe.data = .fields vs) → PE (Z.suite a ((a, oe) :: pn)) e0 (tHd Z.K Z.mg n cn (some i) a cls d h)) (r : HdL Z n cl hds hs l) :
      HdL Z n cl (.ExceptHandler (some (.Name cn np)) (some ex) [.Return (some e0) rp] p' :: hds) ((cn, h) :: hs) (⟨C, some i, fun a cls d D σ H => tHd Z.K Z.mg n cn (some i) a cls d h σ H D.rt⟩ :: l)
theorem HdL.mix {Z : Cx} {n : Nat} {cl : List Str} {hds : List ExceptHandler} {hs : List (Str × MH)} {l : List Clause} (x : HdL Z n cl hds hs l) : MixOk Z hds l := by
  induction x with
  | nil => exact .nil
  | bare hc _ su _ ih => exact .bare hc (fun a oe cls d pn zc hf => pss_one (ps_ret (su a oe cls d pn zc hf))) ih
  | named nd hi loc _ hc _ su _ ih => exact .named nd hi loc hc (fun a oe cls d pn zc hf => pss_one (ps_ret (su a oe cls d pn zc hf))) ih
theorem HdL.get {Z : Cx} {n : Nat} {cl : List Str} {hds : List ExceptHandler} {hs : List (Str × MH)} {l : List Clause} (x : HdL Z n cl hds hs l) {xn : XN} {β : List Addr} {st : Sto} {H : Hp} {σ : L2.St} {c : Value} {dd : Option Addr} {D : Ends} {W : WX} (hk : xn.cls ∈ cl) (xr : XR Z.K Z.mg β H xn c dd) (S : Sim Z.K Z.mg β st H) (hl : σ.length = n)
    (p : ∀ τ, PostA Z.K Z.mg W0 τ (okE Z.K D.rt) β H (metH n xn st hs)) : wMix Z.K W D l c dd σ H := by
  induction x with
  | nil => exact (p []).elim
  | @bare cn C h e0 np p' rp hds hs l hc hex su r ih =>
    unfold wMix
    rw [hex _ hk _ xr.1]
    unfold metH at p
    rcases Classical.em (xn.cls = cn) with e | e
    · rw [decide_eq_true e]
      simp only [if_pos e] at p
      refine fun a _ => ⟨xn, β, st, xr, e, S, hl, ?_, p σ⟩
      intro j z
      cases z
    · rw [decide_eq_false e]
      simp only [if_neg e] at p
      exact ih p
  | @named cn ex i C h e0 np p' rp hds hs l nd hi loc hin hc hex su r ih =>
    unfold wMix
    rw [hex _ hk _ xr.1]
    unfold metH at p
    rcases Classical.em (xn.cls = cn) with e | e
    · rw [decide_eq_true e]
      simp only [if_pos e] at p
      refine fun a _ => ⟨xn, β, st, xr, e, S, by show (σ.set i _).length = n; simp [hl], fun j z => ?_, p _⟩
      cases z
      show (σ.set i _)[i]? = _
      rw [List.getElem?_set_self (by rw [hl]; exact hin)]
    · rw [decide_eq_false e]
      simp only [if_neg e] at p
      exact ih p
/-- the def's promise -/
def TT3 (K : PySem.W.Frag) (mg : Str → Option Value) (cl : List Str) (n : Nat) (hs : List (Str × MH)) (ke : KE) (th : Sto → R D) : (XK → Hp → VK → Prop) → Hp → VK → Prop := fun tl H Q => ∃ (β : List Addr) (st : Sto), Sim K mg β st H ∧
  (∀ (E : XK) (Q' : VK), PostA K mg (fun c d _ H => E c d H) [] (okE K Q') β H (th st) → tl E H Q') ∧ PostA K mg W0 [] (okE K Q) β H (metGo cl n hs ke (th st))
theorem postσ {α : Type} {K : PySem.W.Frag} {mg : Str → Option Value} {σ σ' : L2.St} {ok : α → List Addr → Hp → Prop} {β : List Addr} {H : Hp} : ∀ {r : R α}, PostA K mg W0 σ ok β H r → PostA K mg W0 σ' ok β H r
  | .ok _ _, h => h
  | .exn _ _, h => h
  | .bad, h => h
theorem start_len (N : List Str) (vs : List V) (h : vs.length ≤ N.length) : (L2.start N vs).length = N.length := by
  unfold L2.start
  simp
  omega
abbrev ZCx (X : Cx) (Ng : List Str) (x : Str) (sg : Scope) (g : Addr) (cdg : Value) (s : Shared) (H : Hp) : Cx := cxOf C8.CX0 X.prog X.w X.K X.mg X.base Ng x sg g cdg X.A X.stack s H C8.E0
/-- the slots of a frame are as many as its names -/
theorem takes_len {X : Cx} {n : Nat} {W : WX} (hn : X.N.length = n) (tk : Takes X W) : Takes X fun c d σ H => σ.length = n → W c d σ H := by
  rintro u s' ⟨a, B, sI, pins, σ, H, cls, d, e, I, rest⟩
  obtain ⟨h1, h2, h3, h4, h5, h6, w⟩ := rest
  exact tk u s' ⟨a, B, sI, pins, σ, H, cls, d, e, I, h1, h2, h3, h4, h5, h6, w (I.len.trans hn)⟩
theorem met_gives {X : Cx} {Ng : List Str} {x a q : Str} {sg : Scope} {g : Addr} {cdg : Value} {cl : List Str} {n : Nat} {hs : List (Str × MH)} {ke : KE} {th : Sto → R D} {h₀ : ExceptHandler} {hds : List ExceptHandler} {e : Expr} {p1 p2 p3 p4 p5 : Pos} (hn : Ng.length = n) (hn1 : 1 ≤ n)
    (hH : ∀ s H, ∃ l, HdL (ZCx X Ng x sg g cdg s H).nox n cl (h₀ :: hds) hs l) (he : ∀ s H, PE (ZCx X Ng x sg g cdg s H).nox e (lift X.K X.mg W0 ke)) (hsw : ∀ env : Env, swapsWith (.Call (.Name a p1) [] [] p2) none p3.line env = pure false := by intro _; rfl) :
    GivesTo X Ng x sg g cdg [.Try [.Expr (.Call (.Name a p1) [] [] p2) p3] (h₀ :: hds) [] [] p4, .Return (some e) p5] a q (TT3 X.K X.mg cl n hs ke th) := by
  rintro f c' s H Q tl act hc ⟨β, st, S, htl, p⟩
  obtain ⟨l, hL⟩ := hH s H
  have hlen : (L2.start Ng [V.ref f]).length = n := by rw [start_len Ng _ (hn ▸ hn1), hn]
  let tb : WX → TS := fun V D τ G => τ[0]? = some (some (.ref f)) ∧ G c' = some (CodeO c' q) ∧ tl (fun cls d G' => ∀ τ' : L2.St, τ'.length = n → V cls d τ' G') G fun _ G' => D.nx τ G'
  have body : ∀ V pn xe, Takes ((ZCx X Ng x sg g cdg s H).nox.tr pn xe) V → PSs ((ZCx X Ng x sg g cdg s H).nox.tr pn xe) [.Expr (.Call (.Name a p1) [] [] p2) p3] (tb V) := fun V pn xe tk =>
    PSs.imp (pss_one (ps_expr (act _ pn xe (fun cls d G' => ∀ τ' : L2.St, τ'.length = n → V cls d τ' G') p1 p2 (takes_len (n := n) hn tk) fun cls d τ' G' h hl => h τ' hl) (hsw _))) fun D τ G z => z
  refine ⟨_, pss_cons (ps_try_mix rfl rfl L2.takes0 body hL.mix) (pss_one (ps_ret (he s H))), ?_⟩
  refine ⟨rfl, hc, htl _ _ ?_⟩
  cases q : th st with
  | ok d st1 =>
    rw [q] at p
    exact fun β' H' e' S' v rv => ⟨β', _, st1, S', er_none hlen, postσ (PostA.mono e' p)⟩
  | exn xn st1 =>
    rw [q] at p
    unfold metGo at p
    intro β' H' c dd e' S' xr τ hτ
    simp only at p
    split at p
    · rename_i hk
      exact hL.get hk xr S' hτ fun τ' => postσ (PostA.mono e' p)
    · exact p.elim
  | bad => rw [q] at p; exact p.elim
/-! ### promises that hold where no guard stands -/
abbrev PrG (P : Program) (w : World) (K : PySem.W.Frag) (mg : Str → Option Value) (base : Heap) (k : Nat) (f : Addr) (run : Run) : Prop := ∀ (A : Around) (outer : List Env) (s : Shared) (H : Hp) (us : List Value) (vs : List V) (Q : VK) (E : XK),
  A.guards = some [] → Room k A → Env0 P w K mg base A outer s H → Vals vs us → spAny K mg run vs H Q E → codeAny (model P w) A (.call (.ref f) ⟨us, []⟩) (CR (L2.CX P w) outer P w H s Q E) s
theorem prG_of {P : Program} {w : World} {K : PySem.W.Frag} {mg : Str → Option Value} {base : Heap} {k : Nat} {f : Addr} {run : Run} (F : Pr3 P w K mg base k f run) : PrG P w K mg base k f run := fun A outer s H us vs Q E _ hr e0 rv sp => F A outer s H us vs Q E hr e0 rv sp
theorem prG_bad {P : Program} {w : World} {K : PySem.W.Frag} {mg : Str → Option Value} {base : Heap} {k : Nat} {f : Addr} : PrG P w K mg base k f runBad := fun _ _ _ _ _ _ _ _ _ _ _ _ ⟨_, _, _, _, _, z⟩ => z.elim
/-- a def whose code object is known -/
structure FunC (K : PySem.W.Frag) (x qual : Str) (st : Stmt) (f c : Addr) (fd : FuncData) : Prop extends Fun K x qual st f fd where
  exc : ∃ (oc : Value) (od : Option Addr) (kV doc pm : Value) (an : Option Addr) (ct : Value) (osl : Array (Option Value)),
    fd = PySem.W.fnOf x qual (defArgs st) (defBody st) (defScope st) .none kV doc pm an (.ref c) ct ∧ K.lookup f = some ⟨oc, od, .func fd, osl⟩ ∧ PySem.W.codeIn K (.ref c) qual = true
theorem prG_body {P : Program} {w : World} {K : PySem.W.Frag} {mg : Str → Option Value} {base : Heap} {x qual : Str} {st : Stmt} {f : Addr} {N ps : List Str} {k n np : Nat} {body : KS} {oc kV doc pm cdv ct : Value} {od an : Option Addr} {osl : Array (Option Value)}
    (lk : K.lookup f = some ⟨oc, od, .func (PySem.W.fnOf x qual (defArgs st) (defBody st) (defScope st) .none kV doc pm an cdv ct), osl⟩) (hcd : PySem.W.codeIn K cdv qual = true) (hb : L2.Binds K (PySem.W.fnOf x qual (defArgs st) (defBody st) (defScope st) .none kV doc pm an cdv ct) ps []) (S : FnScope N ps (defScope st)) (hn : N.length = n) (hp : ps.length = np)
    (h : ∀ (A : Around) (outer : List Env) (s : Shared) (H : Hp) (E : XK), A.guards = some [] → Room k (A.deeper (envOfC qual (defScope st) s.heap.objs.size f cdv)) →
      PSs (cxOf (L2.CX P w) P w K mg base N qual (defScope st) f cdv A outer s H E) (defBody st) (liftS K mg (fun c d _ H => E c d H) body)) : PrG P w K mg base (k + 1) f (runDef n np body) := by
  rintro A outer s H us vs Q E hgd hr e0 rv ⟨β, sto, ds, Si, r, p⟩
  unfold runDef at p
  split at p
  · rename_i hl
    have hv : vs.length = ps.length := by rw [r.length, hl, hp]
    have KX : K.In s.heap := e0.mod.kin.keeps fun b o e => (e0.bs b o e).1
    have bd := hb s us KX (by rw [List.append_nil, ← Paired.length rv]; exact hv)
    rw [List.append_nil] at bd
    refine run_ofS lk hcd S hr e0 bd rv hv fun hr' => ⟨_, h A outer s H E hgd hr', β, _, sto, Si, start_rel r n hn, ?_⟩
    revert p
    cases body (start3 n ds) sto with
    | nx ρ st' => exact fun p β' H' σ' e S' _ => p β' H' e S' _ (VR.non.mpr rfl)
    | rt d st' => exact fun p β' H' v e S' rv => p β' H' e S' v rv
    | exn x ρ st' => exact fun p β' H' σ' c dd e S' _ xr => p β' H' c dd e S' xr
    | bk _ _ => exact fun p => p.elim
    | ct _ _ => exact fun p => p.elim
    | bad => exact fun p => p.elim
  · exact p.elim
theorem Fun.okG {P : Program} {w : World} {K : PySem.W.Frag} {mg : Str → Option Value} {base : Heap} {x qual : Str} {st : Stmt} {f : Addr} {fd : FuncData} {N ps : List Str} {k n np : Nat} {body : KS} (F : Fun K x qual st f fd) (hb : L2.Binds K fd ps []) (S : FnScope N ps (defScope st)) (hn : N.length = n) (hp : ps.length = np)
    (h : ∀ (cdv : Value) (A : Around) (outer : List Env) (s : Shared) (H : Hp) (E : XK), A.guards = some [] → Room k (A.deeper (envOfC qual (defScope st) s.heap.objs.size f cdv)) →
      PSs (cxOf (L2.CX P w) P w K mg base N qual (defScope st) f cdv A outer s H E) (defBody st) (liftS K mg (fun c d _ H => E c d H) body)) : PrG P w K mg base (k + 1) f (runDef n np body) := by
  obtain ⟨oc, od, kV, doc, pm, an, cdv, ct, osl, rfl, lk, hcd⟩ := F.ex
  exact prG_body lk hcd hb S hn hp (h cdv)
theorem FunC.okG {P : Program} {w : World} {K : PySem.W.Frag} {mg : Str → Option Value} {base : Heap} {x qual : Str} {st : Stmt} {f c : Addr} {fd : FuncData} {N ps : List Str} {k n np : Nat} {body : KS} (F : FunC K x qual st f c fd) (hb : L2.Binds K fd ps []) (S : FnScope N ps (defScope st)) (hn : N.length = n) (hp : ps.length = np)
    (h : ∀ (A : Around) (outer : List Env) (s : Shared) (H : Hp) (E : XK), A.guards = some [] → Room k (A.deeper (envOfC qual (defScope st) s.heap.objs.size f (.ref c))) →
      PSs (cxOf (L2.CX P w) P w K mg base N qual (defScope st) f (.ref c) A outer s H E) (defBody st) (liftS K mg (fun c d _ H => E c d H) body)) : PrG P w K mg base (k + 1) f (runDef n np body) := by
  obtain ⟨oc, od, kV, doc, pm, an, ct, osl, rfl, lk, hcd⟩ := F.exc
  exact prG_body lk hcd hb S hn hp h
end L3

namespace L3
open PySem PySem.Spec PyProof.Rows L2 LamX
/-! ### the tables of a store -/
def tabsOf : List Addr → Sto → List (Addr × Str)
  | a :: β, .tb _ q :: st => (a, q) :: tabsOf β st
  | _ :: β, _ :: st => tabsOf β st
  | _, _ => []
theorem tabsOf_mem : ∀ {β : List Addr} {st : Sto} {p : Addr × Str}, p ∈ tabsOf β st → ∃ (n : Nat) (P : Addr), β[n]? = some p.1 ∧ st[n]? = some (O.tb P p.2)
  | [], st, p, h => by unfold tabsOf at h; cases h
  | a :: β, [], p, h => by unfold tabsOf at h; cases h
  | a :: β, o :: st, p, h => by
    cases o with
    | tb P q =>
      rcases List.mem_cons.mp (show p ∈ (a, q) :: tabsOf β st from h) with e | h
      · subst e; exact ⟨0, P, rfl, rfl⟩
      · obtain ⟨n, P', h1, h2⟩ := tabsOf_mem h
        exact ⟨n + 1, P', by simpa using h1, by simpa using h2⟩
    | lst _ => obtain ⟨n, P', h1, h2⟩ := tabsOf_mem (show p ∈ tabsOf β st from h); exact ⟨n + 1, P', by simpa using h1, by simpa using h2⟩
    | dK _ => obtain ⟨n, P', h1, h2⟩ := tabsOf_mem (show p ∈ tabsOf β st from h); exact ⟨n + 1, P', by simpa using h1, by simpa using h2⟩
    | dT _ => obtain ⟨n, P', h1, h2⟩ := tabsOf_mem (show p ∈ tabsOf β st from h); exact ⟨n + 1, P', by simpa using h1, by simpa using h2⟩
    | ins _ _ => obtain ⟨n, P', h1, h2⟩ := tabsOf_mem (show p ∈ tabsOf β st from h); exact ⟨n + 1, P', by simpa using h1, by simpa using h2⟩
theorem mem_tabsOf : ∀ {β : List Addr} {st : Sto} {n : Nat} {a P : Addr} {q : Str}, β[n]? = some a → st[n]? = some (.tb P q) → (a, q) ∈ tabsOf β st
  | [], st, n, a, P, q, h1, h2 => by simp at h1
  | b :: β, [], n, a, P, q, h1, h2 => by simp at h2
  | b :: β, o :: st, 0, a, P, q, h1, h2 => by
    simp at h1 h2
    subst h1 h2
    exact List.mem_cons_self
  | b :: β, o :: st, n + 1, a, P, q, h1, h2 => by
    have h := mem_tabsOf (β := β) (st := st) (n := n) (by simpa using h1) (by simpa using h2)
    cases o with
    | tb _ _ => exact List.mem_cons_of_mem _ h
    | lst _ => exact h
    | dK _ => exact h
    | dT _ => exact h
    | ins _ _ => exact h
/-- all but the tables stays -/
theorem extN_ext {β : List Addr} {H H1 : Hp} (e : ExtN H H1) : Ext β H β H1 :=
  ⟨⟨⟨[], by simp⟩, fun a xs h => e _ _ h (fun ps z => by cases z), fun a o u h => e _ _ h (fun ps z => by cases z), fun a q h => e _ _ h (codeO_ne)⟩, fun a u h _ ht => e _ _ h ht, fun a h => .inl h⟩
theorem extN_sim {K : PySem.W.Frag} {mg : Str → Option Value} {β : List Addr} {st : Sto} {H H1 : Hp} (S : Sim K mg β st H) (e : ExtN H H1) (hT : Tabs (tabsOf β st) H1) : Sim K mg β st H1 := by
  refine ⟨S.len, S.inj, fun n o a h1 h2 => ?_⟩
  have r := S.ob n o a h1 h2
  have e0 : Ext0 β H β H1 := (extN_ext e).toExt0
  cases o with
  | tb P q => exact ⟨r.1, hT _ (mem_tabsOf h2 h1)⟩
  | lst xs => obtain ⟨vs, g1, g2⟩ := id r; exact r.mono0 e0 ((e _ _ g1 fun ps z => by cases z).trans g1.symm)
  | dK xs => obtain ⟨vs, g1, g2⟩ := id r; exact r.mono0 e0 ((e _ _ g1 fun ps z => by cases z).trans g1.symm)
  | dT xs => obtain ⟨vs, g1, g2⟩ := id r; exact r.mono0 e0 ((e _ _ g1 fun ps z => by cases z).trans g1.symm)
  | ins c fs => obtain ⟨C, dx, gs, g0, g1, g2⟩ := id r; exact r.mono0 e0 ((e _ _ g1 fun ps z => by cases z).trans g1.symm)
/-! ### x(lambda: e) -/
def kMet (ti : Nat) (P : Addr) (q : Str) (cl : List Str) (n : Nat) (hs : List (Str × MH)) (ke kb : KE) : KE := fun ρ st => match st[ti]? with
  | some (.tb P' q') => if P' = P ∧ q' = q then (match metGo cl n hs ke (kb ρ st) with
    | .ok d st' => .ok d st'
    | _ => .bad) else .bad
  | _ => .bad
theorem q_met {X : Cx} {W : WX} {ti n k : Nat} {P c g : Addr} {cl : List Str} {hs : List (Str × MH)} {ke kb : KE} {x a : Str} {st : Stmt} {fd : FuncData} {Ng : List Str} {params : Arguments} {body : Expr} {scope : Scope} {p lpos pos : Pos} (hg : Gl X x) (hm : X.mg x = some (.ref g)) (F : Fun X.K x x st g fd) (hb : L2.Binds X.K fd [a] [])
    (Sg : FnScope Ng [a] (defScope st)) (hNg : Ng[0]? = some a) (hva : Vis (defScope st) a) (hG : ∀ cdv th, GivesTo X Ng x (defScope st) g cdv (defBody st) a (X.env.qual ++ "<lambda>") (TT3 X.K X.mg cl n hs ke th))
    (TB : TabB X.base X.mg c P) (hcode : X.env.code = .ref c) (hr : Room (k + 2) X.A) (L : LamS X.env.scope scope) (hdef : defaultsOf params X.env = ([], []))
    (hbind : ∀ (q : Str) (cl : List (Str × Addr)) (pm cv ctv : Value), bindArgs (PySem.W.kla_fn "<lambda>" q params body scope cl pm cv ctv) ⟨[], []⟩ = pure [])
    (hbody : ∀ (A : Around) (outer : List Env) (s : Shared) (H : Hp) (E : XK) (f c' : Addr), Room k (A.deeper (lamEnv X scope s.heap.objs.size f c')) → PE (lamCx X A outer s H E scope f c') body (lift X.K X.mg (fun c d _ H => E c d H) kb))
    (hdb : (x == ("__debug__" : Str)) = false := by decide) (hd : (a == ("__debug__" : Str)) = false := by decide) (hcd : (a == ("__classdict__" : Str)) = false := by decide) :
    PE X (.Call (.Name x p) [.Lambda params body scope lpos] [] pos) (lift X.K X.mg W (kMet ti P (X.env.qual ++ "<lambda>") cl n hs ke kb)) := by
  refine ⟨fun pins s σ H Q I ⟨β, ρ, sto, S, E, p⟩ => ?_⟩
  unfold kMet at p
  split at p
  · rename_i P' q' hti
    split at p
    · rename_i hPq
      obtain ⟨rfl, rfl⟩ := hPq
      obtain ⟨oc, od, kV, doc, pm, an, cdv, ct, osl, rfl, lk, hcg⟩ := F.ex
      have hβ : β[ti]? = some P' := by
        have hl : ti < sto.length := (List.getElem?_eq_some_iff.mp hti).1
        rw [← S.len] at hl
        have hb := List.getElem?_eq_getElem hl
        rw [hb, (S.ob ti _ _ hti hb).1]
      refine (pe_lamcall (T := tabsOf β sto) (t := fun E => lift X.K X.mg (fun c d _ H => E c d H) kb) hg hm F.kp lk hcg hb Sg hNg hva (hG cdv (kb ρ)) TB hcode (mem_tabsOf hβ hti) (fun pr hp hP => ?_) hr L hdef hbind hbody hdb hd hcd).run pins s σ H Q I
        ⟨fun pr hp => ?_, fun H1 eN T1 => ⟨β, sto, extN_sim S eN T1, fun E' Q' pe => ⟨β, ρ, sto, extN_sim S eN T1, E.mono (extN_ext eN), ?_⟩, ?_⟩⟩
      · obtain ⟨m, P2, h1, h2⟩ := tabsOf_mem hp
        rw [hP] at h1
        have e := S.inj _ _ _ h1 hβ
        subst e
        rw [hti] at h2
        exact (O.tb.inj (Option.some.inj h2)).2.symm
      · obtain ⟨m, P2, h1, h2⟩ := tabsOf_mem hp
        exact (S.ob m _ _ h2 h1).2
      · revert pe
        cases kb ρ sto with
        | ok _ _ => exact fun z => z
        | exn _ _ => exact fun z => z
        | bad => exact fun z => z
      · revert p
        cases metGo cl n hs ke (kb ρ sto) with
        | ok d st' => exact fun p => PostA.mono (extN_ext eN) (r := R.ok d st') p
        | exn _ _ => exact fun p => p.elim
        | bad => exact fun p => p.elim
    · exact p.elim
  · exact p.elim
/-! ### defs that repr -/
theorem g_callS {X : Cx} {W : WX} {k : Nat} {f : Addr} {run : Run} (F : PrG X.prog X.w X.K X.mg X.base k f run) (hgd : X.A.guards = some []) (hr : Room k X.A) (tk : Takes X W) : CallS X W (.ref f) run := fun pins s σ H xs us Q β st ds I rx S vx p => by
  refine wpAny_call (codeAny_mono (F X.A X.stack s H us xs Q (fun c d H' => W c d σ H') hgd hr I.env0 rx ⟨β, st, ds, S, vx, PostA.toσ p⟩) fun r s2 z => ?_)
  cases r with
  | error w => exact pass3 tk σ pins _ _ w s2 I z
  | ok fl =>
    cases fl with
    | ret t => exact I.after z
    | _ => exact False.elim z
theorem q_callG {X : Cx} {W : WX} {x : Str} {f : Addr} {run : Run} {e : Expr} {es : List Expr} {kas : KA} {p pos : Pos} (hc : CallS X W (.ref f) run) (hk : PySem.W.keepIn X.K (.ref f) = true) (hg : Gl X x) (hm : X.mg x = some (.ref f)) (ha : PA X (e :: es) (liftA X.K X.mg W kas)) (hdb : (x == ("__debug__" : Str)) = false := by decide)
    (he : starEach (e :: es) X.env = (false, eval e X.env) :: starEach es X.env := by rfl) (hpl : (backTo pos (starEach es X.env)).any (·.1) = false := by rfl) : PE X (.Call (.Name x p) (e :: es) [] pos) (lift X.K X.mg W (kF run kas)) := by
  refine ⟨fun pins s σ H Q I ⟨β, ρ, st, S, E, q⟩ => ?_⟩
  refine wpAny_Call_Name_kw (ld_glob I hg hm ?_ hdb)
  exact PySem.W.callWith_K (h₀ := X.base) I.ok.mod.kin hk (args3 ha I S E q fun us s2 vs H2 β2 st2 ds I2 rv e2 S2 E2 r2 p2 => ⟨I2.kIn, hc pins s2 σ H2 vs us Q β2 st2 ds I2 rv S2 r2 p2⟩) he hpl
/-! ### defs as values -/
theorem q_fn {X : Cx} {W : WX} {x : Str} {a : Addr} {pos : Pos} (hg : Gl X x) (hm : X.mg x = some (.ref a)) (hd : (x == ("__debug__" : Str)) = false := by decide) : PE X (.Name x pos) (lift X.K X.mg W (kc (.fn x a))) := q_c (t := tC (.ref a)) (pe_glob (v := .ref a) hg hm rfl hd) fun _ _ => VR.fn.mpr rfl
theorem pr_callS {X : Cx} {W : WX} {k : Nat} {f : Addr} {run : Run} (F : Pr3 X.prog X.w X.K X.mg X.base k f run) (hr : Room k X.A) (tk : Takes X W) : CallS X W (.ref f) run := fun pins s σ H xs us Q β st ds I rx S vx p => by
  refine wpAny_call (codeAny_mono (F X.A X.stack s H us xs Q (fun c d H' => W c d σ H') hr I.env0 rx ⟨β, st, ds, S, vx, PostA.toσ p⟩) fun r s2 z => ?_)
  cases r with
  | error w => exact pass3 tk σ pins _ _ w s2 I z
  | ok fl =>
    cases fl with
    | ret t => exact I.after z
    | _ => exact False.elim z
def fnRun : List (Str × Addr × Run) → Str → Addr → Run
  | [], _, _ => runBad
  | (y, b, r) :: l, x, a => if y = x ∧ b = a then r else fnRun l x a
def fnHas : List (Str × Addr × Run) → Str → Addr → Bool
  | [], _, _ => false
  | (y, b, _) :: l, x, a => (decide (y = x) && decide (b = a)) || fnHas l x a
inductive FnVs (X : Cx) (W : WX) : List (Str × Addr × Run) → Prop
  | nil : FnVs X W []
  | cons {x : Str} {a : Addr} {r : Run} {l : List (Str × Addr × Run)} (h : CallS X W (.ref a) r) (k : PySem.W.keepIn X.K (.ref a) = true) (t : FnVs X W l) : FnVs X W ((x, a, r) :: l)
theorem FnVs.look {X : Cx} {W : WX} {l : List (Str × Addr × Run)} (h : FnVs X W l) (x : Str) (a : Addr) (q : fnHas l x a = true) : CallS X W (.ref a) (fnRun l x a) ∧ PySem.W.keepIn X.K (.ref a) = true := by
  revert q
  induction h with
  | nil => intro q; cases q
  | @cons y b r l h k t ih =>
    intro q
    unfold fnRun
    by_cases e : y = x ∧ b = a
    · rw [if_pos e]
      obtain ⟨_, rfl⟩ := e
      exact ⟨h, k⟩
    · rw [if_neg e]
      refine ih ?_
      unfold fnHas at q
      rcases Bool.or_eq_true_iff.mp q with z | z
      · obtain ⟨z1, z2⟩ := Bool.and_eq_true_iff.mp z
        exact (e ⟨of_decide_eq_true z1, of_decide_eq_true z2⟩).elim
      · exact z
def kCallV (fs : List (Str × Addr × Run)) (i : Nat) (kas : KA) : KE := fun ρ st => match ρ[i]? with
  | some (some (.fn x a)) => if fnHas fs x a = true then (kas ρ st).bind (fnRun fs x a) else .bad
  | _ => .bad
theorem q_callV {X : Cx} {W : WX} {fs : List (Str × Addr × Run)} {i : Nat} {x : Str} {e : Expr} {es : List Expr} {kas : KA} {p pos : Pos} (hf : FnVs X W fs) (ha : PA X (e :: es) (liftA X.K X.mg W kas)) (hN : X.N[i]? = some x := by rfl) (hv : Vis X.env.scope x := by first | exact Or.inl rfl | exact Or.inr (Or.inl rfl) | exact Or.inr (Or.inr rfl)) (hd : (x == ("__debug__" : Str)) = false := by decide) (hcd : (x == ("__classdict__" : Str)) = false := by decide)
    (he : starEach (e :: es) X.env = (false, eval e X.env) :: starEach es X.env := by rfl) (hpl : (backTo pos (starEach es X.env)).any (·.1) = false := by rfl) : PE X (.Call (.Name x p) (e :: es) [] pos) (lift X.K X.mg W (kCallV fs i kas)) := by
  refine ⟨fun pins s σ H Q I ⟨β, ρ, st, S, E, q⟩ => ?_⟩
  unfold kCallV at q
  split at q
  · rename_i y a hρ
    obtain ⟨v, h1, h2⟩ := E.2 i _ hρ
    have h2 := VR.fn.mp h2
    subst h2
    split at q
    · rename_i hh
      obtain ⟨hc, hk⟩ := hf.look y a hh
      refine wpAny_Call_Name_kw (thn ((pe_var (pos := p) (i := i) hN hv hd hcd).run pins s σ H (fun v H1 => v = .ref a ∧ H1 = H) I ⟨_, h1, rfl, rfl⟩) fun u s1 ⟨v, H1, I1, r1, ev, eH⟩ => ?_)
      subst ev eH
      obtain rfl : u = Value.ref a := r1
      exact PySem.W.callWith_K (h₀ := X.base) I1.ok.mod.kin hk (args3 ha I1 S E q fun us s2 vs H2 β2 st2 ds I2 rv e2 S2 E2 r2 p2 => ⟨I2.kIn, hc pins s2 σ H2 vs us Q β2 st2 ds I2 rv S2 r2 p2⟩) he hpl
    · exact q.elim
  · exact q.elim
end L3
namespace L3
open PySem PySem.Spec PyProof.Rows L2
/-- which exceptions a clause takes -/
inductive ExL (K : PySem.W.Frag) (mg : Str → Option Value) (C : Value) (cn : Str) : List Str → Prop
  | nil : ExL K mg C cn []
  | cons {k : Str} {ck : Value} {b : Bool} {l : List Str} (h1 : mg k = some ck) (h2 : PySem.W.exmOne K ck C = some b) (h3 : decide (k = cn) = b) (r : ExL K mg C cn l) : ExL K mg C cn (k :: l)
theorem ExL.all {K : PySem.W.Frag} {mg : Str → Option Value} {C : Value} {cn : Str} {l : List Str} (h : ExL K mg C cn l) : ∀ k ∈ l, ∀ ck, mg k = some ck → PySem.W.exmOne K ck C = some (decide (k = cn)) := by
  induction h with
  | nil => intro k z; cases z
  | @cons k ck b l h1 h2 h3 r ih =>
    intro j hj cj e
    rcases List.mem_cons.mp hj with rfl | hj
    · rw [h1] at e
      cases e
      rw [h2, h3]
    · exact ih j hj cj e
theorem suite_guards {X : Cx} {Ng : List Str} {x : Str} {sg : Scope} {g : Addr} {cdg : Value} {s : Shared} {H : Hp} {a : Addr} {pn : List (Addr × Obj)} (h : X.A.guards = some []) : ((ZCx X Ng x sg g cdg s H).nox.suite a pn).A.guards = some [] := h
theorem suite_units {X : Cx} {Ng : List Str} {x : Str} {sg : Scope} {g : Addr} {cdg : Value} {s : Shared} {H : Hp} {a : Addr} {pn : List (Addr × Obj)} (h : X.A.units + 100 < cLine) : ((ZCx X Ng x sg g cdg s H).nox.suite a pn).A.units + 62 < cLine := by
  show X.A.units + 3 + 62 < cLine
  omega
theorem okI_bad {P : Program} {w : World} {K : PySem.W.Frag} {mg : Str → Option Value} {base : Heap} {k : Nat} {f C : Addr} {fd : FuncData} {a b n : Str} : FnOk P w K mg base (L2.CX P w) k f fd [a, b] (spInit K mg C n runBad) :=
  ⟨fun vs H Q E h => by obtain ⟨_, _, _, _, _, rfl, _⟩ := h; rfl, fun A outer s H args us vs Q E hr he hb hv h => by obtain ⟨_, _, _, _, _, _, _, _, _, z⟩ := h; exact z.elim⟩
end L3

/-! the law's end, with tables of code objects and no guard -/
namespace L3
open PySem PySem.Spec PyProof.Rows L2 LamX
/-- a table: its code object, its address, the name of the lambdas made there -/
structure Tab3 where
  c : Addr
  P : Addr
  q : Str
def stoOf (ts : List Tab3) : Sto := ts.map fun t => .tb t.P t.q
def adrOf (ts : List Tab3) : List Addr := ts.map Tab3.P
/-- the law's call, from an abstract heap in which the tables stand and the script, perhaps -/
theorem law_from {P : Program} {w : World} {K : PySem.W.Frag} {mg : Str → Option Value} {k : Nat} {fa a : Addr} {run : Run} {s₁ : Shared} {ns : List Int} {ts : List Tab3} {base : Heap} {H : Hp} (F : PrG P w K mg base k fa run) (hr : Room k callerA) (e0 : Env0 P w K mg base callerA [] s₁ H)
    (nd : (adrOf ts).Nodup) (hT : ∀ t ∈ ts, H t.P = some (.tbl #[])) (hS : FzL K H a (ns.map V.int)) (hrun : ∃ st', run [.frz (ns.map D.int)] (stoOf ts) = .ok (.bl true) st') :
    codeAny (model P w) callerA (.call (.ref fa) ⟨[.ref a], []⟩) (fun r s' => r = .ok (.ret (.bool true)) ∧ s'.os = s₁.os ∧ AllBare s'.gens ∧ ∃ H', Un [] [] H H' s₁.heap s'.heap ∧ HOk P w H' s'.heap) s₁ := by
  obtain ⟨st', hst⟩ := hrun
  have sim : Sim K mg (adrOf ts) (stoOf ts) H := by
    refine ⟨by simp [adrOf, stoOf], fun m n b h1 h2 => ?_, fun n o b h1 h2 => ?_⟩
    · obtain ⟨lm, e1⟩ := List.getElem?_eq_some_iff.mp h1
      obtain ⟨ln, e2⟩ := List.getElem?_eq_some_iff.mp h2
      exact (List.getElem_inj nd).mp (e1.trans e2.symm)
    · unfold stoOf at h1
      unfold adrOf at h2
      rw [List.getElem?_map] at h1 h2
      obtain ⟨t, ht, e1⟩ := Option.map_eq_some_iff.mp h1
      obtain ⟨t', ht', e2⟩ := Option.map_eq_some_iff.mp h2
      rw [ht] at ht'
      cases ht'
      subst e1 e2
      exact ⟨rfl, TabS.nil (hT t (List.mem_of_getElem? ht))⟩
  refine codeAny_mono (F callerA [] s₁ H [.ref a] [.ref a] (fun v _ => v = .bl true) (fun _ _ _ => False) rfl hr e0 (.cons rfl .nil) ⟨adrOf ts, stoOf ts, [.frz (ns.map D.int)], sim, VRs.cons.mpr ⟨_, _, rfl, VR.frz.mpr ⟨a, _, rfl, hS, ints_vrs ns⟩, VRs.nil.mpr rfl⟩, ?_⟩) fun r s' h => ?_
  · rw [hst]
    exact fun β' H' _ _ v rv => VR.bl.mp rv
  · match r, h with
    | .error e, h => exact (cx_end H s₁ e s' h).elim
    | .ok .next, h => exact h.elim
    | .ok .brk, h => exact h.elim
    | .ok .cont, h => exact h.elim
    | .ok (.ret u), ⟨v, H', os, br, un, ok, rv, q⟩ =>
      subst q
      exact ⟨by rw [show u = Value.bool true from rv], os, br, H', un, ok⟩
/-- the abstract heap: the tables, and the script where it is not written -/
def startH (a : Addr) (o : Obj) (ns : List Int) (ts : List Tab3) (scr : Bool) : Hp := fun b => if b ∈ adrOf ts then some (.tbl #[]) else if scr = true ∧ b = a then some (.frz o (.lst (ns.map V.int))) else none
theorem law_endT {l : PySem.W.OpenLaw} {n k : Nat} {q : Program} {loose : List Str} {XP : (Str → Option Value) → Heap → Prop} {YP : World → Heap → Prop} {d : DefRec} {K : Params → PySem.W.Frag} (hn : l.most = some n) (hn2 : n ≤ 63) (hdf : d.params.defaults = []) (hr : Room k callerA)
    (hY : ∀ (w : World) (h : Heap), YP w h → (K w.params).In h)
    (F : ∀ (w : World) (mg : Str → Option Value) (fa : Addr) (h : Heap), (K w.params).In h → h.Ns mainGlobals mg → mg d.name = some (.ref fa) → ∃ (ts : List Tab3) (run : Run), (adrOf ts).Nodup ∧
      (∀ t ∈ ts, (K w.params).lookup t.P = none ∧ PySem.W.codeHdIn (K w.params) t.c t.P = true ∧ ∃ x d', PySem.W.tabIn (K w.params) x = some (t.c, t.P) ∧ (recsOf q).find? (fun e => e.name == x) = some d') ∧
      (∀ ns : List Int, ns.length ≤ 63 → ∃ st', run [.frz (ns.map D.int)] (stoOf ts) = .ok (.bl true) st') ∧
      ∀ base : Heap, (K w.params).In base → base.Ns mainGlobals mg → (∀ t ∈ ts, TabB base mg t.c t.P) → PrG l.prog w (K w.params) mg base k fa run) :
    PySem.W.WalkO q loose XP YP l.row.toRowW d [] (fun f vs => PySem.call f vs) := by
  refine Att.attach_callB hn hdf fun w s₀ s₁ mg mb fa o pm cd doc a vs ns G Y ho hd hcd hmg hobj hints hlen hbits hg => ?_
  have KX := hY w _ Y
  obtain ⟨ts, run, nd, ht, hrun, hF⟩ := F w mg fa _ KX G.T.g hmg
  have empty : ∀ t ∈ ts, s₁.heap.get? t.P = some (PySem.W.tabObj #[]) := fun t m => by
    obtain ⟨_, _, x, d', h1, h2⟩ := ht t m
    exact (PySem.W.tab_of G.T KX h2 h1).2
  have emptyA : ∀ b ∈ adrOf ts, s₁.heap.get? b = some (PySem.W.tabObj #[]) := fun b m => by
    obtain ⟨t, m1, rfl⟩ := List.mem_map.mp m
    exact empty t m1
  have freeK : ∀ b ∈ adrOf ts, (K w.params).lookup b = none := fun b m => by
    obtain ⟨t, m1, rfl⟩ := List.mem_map.mp m
    exact (ht t m1).1
  have aT : a ∉ adrOf ts := fun m => by
    have z := hobj.symm.trans (emptyA a m)
    cases z
  have hl63 : ns.length ≤ 63 := Nat.le_trans hlen hn2
  have lenV := hints.length
  -- the look of the heap at what is tracked
  have main : ∀ scr : Bool, (scr = true → (K w.params).lookup a = none) → FzL (K w.params) (startH a { cls := .type "list", data := .seq vs.toArray } ns ts scr) a (ns.map V.int) → codeAny (model l.prog w) callerA (.call (.ref fa) ⟨[.ref a], []⟩) (fun r s' => r = .ok (.ret (.bool true)) ∧ OldK s₁.heap s'.heap ∧ s'.os = s₁.os ∧ AllBare s'.gens) s₁ := by
    intro scr hscr hS
    generalize hH : startH a { cls := .type "list", data := .seq vs.toArray } ns ts scr = H at hS
    have atT : ∀ b ∈ adrOf ts, H b = some (.tbl #[]) := fun b m => by rw [← hH]; exact if_pos m
    have atO : ∀ b, b ∉ adrOf ts → b ≠ a → H b = none := fun b m e => by rw [← hH]; unfold startH; rw [if_neg m, if_neg fun z => e z.2]
    have atA : H a = none ∨ (scr = true ∧ H a = some (.frz { cls := .type "list", data := .seq vs.toArray } (.lst (ns.map V.int)))) := by
      rw [← hH]; unfold startH; rw [if_neg aT]
      cases scr
      · exact .inl rfl
      · exact .inr ⟨rfl, by rw [if_pos ⟨rfl, rfl⟩]⟩
    have untr : ∀ {b : Addr} {o : Obj}, s₁.heap.get? b = some o → o.data ≠ .fields #[] → (∀ x m, o.data ≠ .seq x m) → H b = none := fun {b o} e h1 h2 => by
      refine atO b (fun m => ?_) fun z => ?_
      · have z := e.symm.trans (emptyA b m)
        exact h1 (by rw [Option.some.inj z])
      · subst z
        have z := e.symm.trans hobj
        exact h2 _ _ (by rw [Option.some.inj z])
    have nsT : ∀ {b : Addr} {m : Str → Option Value}, s₁.heap.Ns b m → (hidT s₁.heap H).Ns b m := fun {b m} ⟨o, es, ep, e, dd, r⟩ => ⟨o, es, ep, hidT_get e (untr e (by rw [dd]; exact fun z => nomatch z) (by rw [dd]; exact fun _ _ z => nomatch z)), dd, r⟩
    have KB : (K w.params).In (hidT s₁.heap H) := fun b o e => hidT_get (KX b o e) (by
      have m : b ∉ adrOf ts := fun m => by rw [freeK b m] at e; cases e
      rcases Classical.em (b = a) with rfl | ne
      · rcases atA with h | ⟨h1, _⟩
        · exact h
        · rw [hscr h1] at e; cases e
      · exact atO b m ne)
    obtain ⟨bm, ob, b1, b2, b3, b4, b5, b6⟩ := G.T.bmain
    have notG : ∀ {b : Addr} {o : Obj}, s₁.heap.get? b = some o → (∀ es n, o.data ≠ .dict es n) → b ≠ mainGlobals := fun {b o} e nd z => by
      obtain ⟨g, es, ep, hg, dd, _⟩ := G.T.g
      subst z
      rw [e] at hg
      cases hg
      exact nd _ _ dd
    have bI : ∀ t ∈ ts, (hidT s₁.heap H).BuiltinsAt mg t.P := fun t m => by
      have n1 : bm ≠ mainGlobals := notG b3 (by rw [b6]; exact fun _ _ z => nomatch z)
      have n2 : bm ≠ t.P := by
        intro z
        have y := b3
        rw [z, empty t m] at y
        have y := congrArg Obj.data (Option.some.inj y)
        rw [b6] at y
        exact nomatch y
      exact ⟨bm, ob, b1, b2, n1, n2, hidT_get b3 (untr b3 (by rw [b6]; exact fun z => nomatch z) (by rw [b6]; exact fun _ _ z => nomatch z)), b4, b5, b6⟩
    have TB : ∀ t ∈ ts, TabB (hidT s₁.heap H) mg t.c t.P := fun t m => NdefX.tabB_of_K KB (ht t m).2.1 (bI t m) fun z => notG (empty t m) (fun _ _ y => nomatch y) z.symm
    have ok : HOk l.prog w H s₁.heap := fun b u e => by
      rcases Classical.em (b ∈ adrOf ts) with m | m
      · rw [atT b m] at e
        cases e
        exact emptyA b m
      · rcases Classical.em (b = a) with rfl | ne
        · rcases atA with h | ⟨_, h⟩
          · rw [h] at e; cases e
          · rw [h] at e
            cases e
            exact ⟨hobj, by rw [List.length_map, sizeLine_eq]; omega, vs, _, vals_ints hints, hobj⟩
        · rw [atO b m ne] at e; cases e
    have nl : (hidT s₁.heap H).NoLimit := by
      obtain ⟨mc, h1, h2⟩ := G.T.nolimit
      exact ⟨mc, nsT h1, h2⟩
    have e0 : Env0 l.prog w (K w.params) mg (hidT s₁.heap H) callerA [] s₁ H := ⟨rfl, ⟨KB, nsT G.T.g, ⟨mb, nsT G.T.b, G.T.builtins⟩, nl⟩, fun b o e => of_hidT e, Nat.le_of_eq (hidT_size _ _), trivial, (fun b m => nomatch m), ok, .of_eq hg⟩
    refine codeAny_mono (law_from (hF _ KB (nsT G.T.g) TB) hr e0 nd (fun t m => atT _ (List.mem_map_of_mem m)) hS (hrun ns hl63)) fun r s' z => ?_
    obtain ⟨er, os, br, H', un, ok'⟩ := z
    have kept : ∀ b o, b ∉ adrOf ts → s₁.heap.get? b = some o → s'.heap.get? b = some o := fun b o m e => by
      cases hb : H b with
      | none => exact un.keep b o e hb (fun y => nomatch y) fun y => nomatch y
      | some u =>
        rcases Classical.em (b = a) with rfl | ne
        · rcases atA with h | ⟨_, h⟩
          · rw [h] at hb; cases hb
          · have k := (ok' _ _ (un.frzs _ _ _ h)).1
            rw [k]
            exact hobj.symm.trans e
        · rw [atO b m ne] at hb; cases hb
    have grew : ∀ t ∈ ts, ∃ more : Array Value, s'.heap.get? t.P = some { cls := .none, data := .fields more } := fun t m => by
      obtain ⟨more, y⟩ := un.tbls t.P #[] (atT _ (List.mem_map_of_mem m))
      exact ⟨_, ok' _ _ y⟩
    refine ⟨er, ⟨fun b o e => ?_, fun b o e => ?_⟩, os, br⟩
    · rcases Classical.em (b ∈ adrOf ts) with m | m
      · obtain ⟨t, m1, rfl⟩ := List.mem_map.mp m
        obtain ⟨more, y⟩ := grew t m1
        obtain ⟨_, _, x, d', h1, h2⟩ := ht t m1
        obtain ⟨hd, em⟩ := PySem.W.tab_of G.T KX h2 h1
        rw [em] at e
        cases e
        exact .inr (.inl ⟨(hd.tab em).isCodeTable, rfl, #[], more, rfl, by rw [Array.empty_append]; exact y⟩)
      · exact .inl (kept b o m e)
    · rcases Classical.em (b ∈ adrOf ts) with m | m
      · obtain ⟨t, m1, rfl⟩ := List.mem_map.mp m
        obtain ⟨more, y⟩ := grew t m1
        exact ⟨_, y⟩
      · exact ⟨o, kept b o m e⟩
  cases hk : (K w.params).lookup a with
  | some o =>
    have e := (KX a o hk).symm.trans hobj
    cases e
    exact main false (fun z => nomatch z) (.inr ⟨_, vs.toArray, _, hk, rfl, rfl, rfl, by rw [List.size_toArray, lenV, sizeLine_eq]; omega, vals_ints hints⟩)
  | none => exact main true (fun _ => hk) (.inl ⟨_, by unfold startH; rw [if_neg aT, if_pos ⟨rfl, rfl⟩]⟩)
end L3

/-! repr of data -/
namespace L3
open PySem PySem.Spec PyProof.Rows L2
/-- an empty dict -/
def isE (d : D) (st : Sto) : Bool := match d with
  | .loc n => match st[n]? with
    | some (.dK []) => true
    | some (.dT []) => true
    | _ => false
  | .fdk [] [] => true
  | _ => false
def shG (d : D) (st : Sto) : Option Str := if isE d st = true then some (PyData.shown (.dict [])) else match pd st 40 d with
  | some p => if p.showable = true ∧ p.hasDict = false ∧ p.depth ≤ 60 ∧ p.shown.length ≤ 16777216 then some p.shown else none
  | none => none
def reprG (ds : List D) (st : Sto) : R D := match ds with
  | [d] => match shG d st with
    | some x => .ok (.str x) st
    | none => .bad
  | _ => .bad
section
variable {X : Cx} {W : WX}
theorem call_reprD (hgd : X.A.guards = some []) (hu : X.A.units + 62 < cLine) : CallR X (.builtin "repr") (fun xs H Q => ∃ v p, xs = [v] ∧ Dp X.K H v p ∧ p.showable = true ∧ p.hasDict = false ∧ p.depth ≤ 60 ∧ p.shown.length ≤ 16777216 ∧ Q (.str p.shown) H) := by
  rintro pins s σ H xs us Q I r ⟨v, p, rfl, hp, h1, h2, h3, h4, q⟩
  obtain ⟨u, rfl, ru⟩ := vals1 r
  have big : ∀ {a : Addr}, u = .ref a → (p.depth ≤ 60) → wpAny (model X.prog X.w) X.A (call (.builtin "repr") [u]) (EP X pins σ Q) X.xe s := fun {a} e _ => by
    subst e
    obtain ⟨as, rd⟩ := Dp.reads I p v _ hp ru
    exact repr_of_reads' rd h1 (fun z => by rw [h2] at z; cases z) hgd (by omega) (fun _ _ z => z) (fun h' x tk k => ⟨.str p.shown, H, I.kept k, ⟨_, rfl⟩, q⟩) (szl h4)
  cases hp with
  | non => cases ru; exact PySem.P.repr_of_none ⟨.str "None", H, I.tok _, ⟨_, rfl⟩, q⟩
  | bl b => cases ru; exact PySem.P.repr_of_bool ⟨.str _, H, I.tok _, ⟨_, rfl⟩, q⟩
  | int i =>
    obtain ⟨t, rfl⟩ := ru
    exact PySem.P.repr_of_int (of_decide_eq_true h1) ⟨.str _, H, I.tok _, ⟨_, rfl⟩, q⟩
  | str x =>
    obtain ⟨t, rfl⟩ := ru
    exact PySem.P.repr_of_str ⟨.str _, H, I.tok _, ⟨_, rfl⟩, q⟩ (szl h4)
  | lst _ _ => exact big ru h3
  | tup _ _ => exact big ru h3
theorem call_reprE (hgd : X.A.guards = some []) (hu : X.A.units + 62 < cLine) : CallR X (.builtin "repr") (fun xs H Q => ∃ a, xs = [.ref a] ∧ (Rd H a (.dK []) ∨ H a = some (.dT [])) ∧ Q (.str (PyData.shown (.dict []))) H) := by
  rintro pins s σ H xs us Q I r ⟨a, rfl, ha, q⟩
  obtain ⟨u, rfl, ru⟩ := vals1 r
  obtain rfl : u = Value.ref a := ru
  obtain ⟨ns, o, n, ho, hx, hd⟩ : (a == sysModules) = false ∧ ∃ o n, s.heap.get? a = some o ∧ o.ExactDict ∧ o.data = .dict #[] n := by
    rcases ha with ha | ha
    · obtain ⟨_, n1, vs, kv, o, es, ep, h1, h2, h3, _, h5, _⟩ := dk_rd I.hok ha
      have hl : es.toList.length = vs.length := h5.length
      have hv : vs.length = 0 := by cases kv; rfl
      refine ⟨n1, o, ep, h1, h2, ?_⟩
      have : es = #[] := by
        apply Array.eq_empty_of_size_eq_zero
        rw [← Array.length_toList, hl, hv]
      rw [h3, this]
    · obtain ⟨_, n1, xs, pr, o, es, ep, h1, h2, h3, h4, _⟩ := dt_of I.hok ha
      have hx : xs = [] := by cases pr; rfl
      refine ⟨n1, o, ep, h1, h2, ?_⟩
      have : es = #[] := by
        apply Array.eq_empty_of_size_eq_zero
        rw [← Array.length_toList, h4, hx]; rfl
      rw [h3, this]
  have rd : Reads s.heap (.ref a) (.dict []) [a] := Reads.dict (as := []) (bs := []) ho hx.1 hd .nil .nil
  exact repr_of_reads' rd rfl (fun _ z => by
    rcases List.mem_cons.mp z with z | z
    · rw [z, beq_self_eq_true] at ns; cases ns
    · cases z) hgd (by have : (PyData.dict []).depth ≤ 60 := by decide
                       omega) (fun _ _ z => z) (fun h' x tk k => ⟨.str _, H, I.kept k, ⟨_, rfl⟩, q⟩) (by decide +kernel)
/-- repr(e) of data -/
theorem f_reprG (hgd : X.A.guards = some []) (hu : X.A.units + 62 < cLine) : CallS X W (.builtin "repr") reprG := CallS.of ((call_reprD hgd hu).or (call_reprE hgd hu)) fun σ H xs Q β st ds S r p => by
  unfold reprG at p
  split at p
  · rename_i d
    obtain ⟨v, rfl, rv⟩ := r.one
    split at p
    · rename_i x hx
      unfold shG at hx
      split at hx
      · rename_i he
        cases hx
        right
        unfold isE at he
        split at he
        · rename_i n
          obtain ⟨a, h1, rfl⟩ := VR.loc.mp rv
          obtain ⟨o, h2, h3⟩ := S.at h1
          rw [h2] at he
          refine ⟨a, rfl, ?_, fin p S (VR.str.mpr rfl)⟩
          match o, h3, he with
          | .dK [], h3, _ => obtain ⟨vs, h4, h5⟩ := h3; cases h5; exact .inl (.inl h4)
          | .dT [], h3, _ => obtain ⟨vs, h4, h5⟩ := h3; cases h5; exact .inr h4
        · obtain ⟨a, o, vs, rfl, h1, h2, h3⟩ := VR.fdk.mp rv
          obtain rfl := VRs.nil.mp h3
          exact ⟨a, rfl, .inl (.inr ⟨o, h1⟩), fin p S (VR.str.mpr rfl)⟩
        · cases he
      · split at hx
        · rename_i q hq
          split at hx
          · rename_i hc
            cases hx
            exact .inl ⟨v, q, rfl, pd_ok S 40 d v q hq rv, hc.1, hc.2.1, hc.2.2.1, hc.2.2.2, fin p S (VR.str.mpr rfl)⟩
          · cases hx
        · cases hx
    · exact p.elim
  · exact p.elim
end
end L3

/-! dicts that nobody changes; a comprehension over an empty one; sources of either kind -/
namespace L3
open PySem PySem.Spec PyProof.Rows L2
/-- Q, or Q once the dict that came is locked -/
def FQd (Q : VK) : VK := fun x H => ∃ q kvs, x = .ref q ∧ H q = some (.dK kvs) ∧ ∀ o, Q x (upd H q (.frz o (.dK kvs)))
section
variable {X : Cx} {W : WX} {ka : KE} {iter : Expr} {pos : Pos}
theorem PE.fd {e : Expr} {t : TE} (h : PE X e t) : PE X e fun σ H Q => t σ H (FQd Q) :=
  ⟨fun pins s σ H Q I p => thn (h.run pins s σ H (FQd Q) I p) fun v s' ⟨x, G, J, r, a, kvs, e1, hl, q⟩ => by
    subst e1
    obtain ⟨o, J'⟩ := J.lock hl trivial
    exact ⟨_, _, J', r, q o⟩⟩
theorem new_fd {σ : L2.St} {Q : VK} {β : List Addr} {st : Sto} {H : Hp} {ks : List Key} {ds : List D} {vs : List V} {q : Addr} (S : Sim X.K X.mg β st H) (r : VRs X.K β H ds vs) (hl : ks.length = vs.length) (hq : H q = none) (p : PostA X.K X.mg W σ (okE X.K Q) β H (.ok (.fdk ks ds) st)) :
    FQd Q (.ref q) (upd H q (.dK (ks.zip vs))) := by
  refine ⟨q, _, rfl, upd_same, fun o => ?_⟩
  rw [upd_upd]
  exact p β _ (ext_new0 hq) (S.new0 hq) _ (VR.fdk.mpr ⟨q, o, vs, rfl, upd_same, hl, VRs.mono (ext_new0 hq) _ _ r⟩)
/-- {} -/
def kE0 : KE := fun _ st => .ok (.fdk [] []) st
theorem q_dE0 : PE X (.Dict [] [] pos) (lift X.K X.mg W kE0) :=
  PE.imp (PE.fd pe_dnewK) fun σ H Q ⟨β, ρ, st, S, E, p⟩ => fun q hq => new_fd (ks := []) (vs := []) S (VRs.nil.mpr rfl) rfl hq p
/-- {i: j} of whole numbers -/
def kE1 (i j : Int) : KE := fun _ st => .ok (.fdk [.inl i] [.int j]) st
theorem q_dE1 {i j : Int} {p1 p2 : Pos} {k1 k2} : PE X (.Dict [some (.Constant (.int i) k1 p1)] [.Constant (.int j) k2 p2] pos) (lift X.K X.mg W (kE1 i j)) :=
  PE.imp (PE.fd (pe_disp (pps_cons pe_int pe_int pps_nil) rfl rfl (by simp) (by show 1 ≤ 15; decide))) fun σ H Q ⟨β, ρ, st, S, E, p⟩ => fun q hq => by
    refine ⟨upd_same, [(.inl i, .int j)], rfl, by show 1 ≤ 15; decide, ?_⟩
    have z := new_fd (ks := [.inl i]) (vs := [.int j]) S (VRs.cons.mpr ⟨_, _, rfl, VR.int.mpr rfl, VRs.nil.mpr rfl⟩) rfl hq p
    rw [upd_upd]
    exact z
/-- {k: v for t in e}, e empty -/
def kDcE (a : KE) : KE := fun ρ st => (a ρ st).bind fun d st1 => match d with
  | .fdk [] [] => .ok (.fdk [] []) st1
  | _ => .bad
theorem q_dcE {kx vx tg : Expr} {scope : Scope} {own : List (Str × Nat)} (hc : X.calm = true) (hN : X.N.Nodup) (ok : BlkOk X.N X.env.scope scope own) (he : PE X iter (lift X.K X.mg W ka)) (hs : ∀ x, foldedSetIterable iter X.env x = pure x := by intro _; rfl) :
    PE X (.DictComp kx vx [⟨tg, iter, [], 0⟩] scope pos) (lift X.K X.mg W (kDcE ka)) := by
  have no : ∀ {Y : Cx} {e : Expr}, PE Y e fun _ _ _ => False := ⟨fun _ _ _ _ _ _ z => z.elim⟩
  refine PE.imp (PE.fd (pe_dc (g := fun _ _ _ _ => False) hc hN (pi_keys he) ok (fun _ _ _ _ _ => ⟨fun _ _ _ _ _ _ _ _ _ z => z.elim⟩) (fun _ _ _ _ _ => pts_nil) (fun _ _ _ _ _ => no) (fun _ _ _ _ _ => no) hs)) fun σ H Q ⟨β, ρ, st, S, E, p⟩ => ?_
  refine lift.bind S E p fun d v β1 H1 st1 e1 S1 E1 r1 p1 => ?_
  match d, p1 with
  | .fdk [] [], p1 =>
    obtain ⟨a, o, vs, rfl, h1, h2, h3⟩ := VR.fdk.mp r1
    obtain rfl := VRs.nil.mp h3
    refine ⟨a, o, rfl, .inl ⟨_, h1, fun D hD => ⟨fun i _ H' => i = 0 ∧ H' = upd H1 D (.dK []), ⟨0, rfl, rfl⟩, fun i m H' ⟨e1, e2⟩ => ?_⟩⟩⟩
    subst e1 e2
    exact .inl ⟨⟨by rw [upd_ne (ne_of_none h1 hD)]; exact h1, Nat.le_refl _⟩, new_fd (ks := []) (vs := []) S1 (VRs.nil.mpr rfl) rfl hD p1⟩
end
end L3

/-! The looks at exceptions and code objects, from the library's own. -/
namespace L3
open PySem PySem.Spec PyProof.Rows L2
section
open PySem.W
variable {K : Frag} {C D B f c P : Addr} {x : Str} {b : Bool} {bm bmB bs sub : List Value} {newId : String} {nm qn : Str} {ns : Addr} {hd ab : Bool} {sn : List Str} {col : Option Bool} {k0 k1 k2 k3 k5 : Option Value} {dd : Option Addr}
theorem exm_of (h1 : subIn K (.ref C) (.type "BaseException") = some true) (h2 : isClsIn K C = true) (h3 : typeIn K (.ref C) = some (.type "type")) (h4 : subIn K (.ref D) (.ref C) = some b) : exmOne K (.ref D) (.ref C) = some b := by
  unfold exmOne kitCls
  rw [h1]
  have h2' : (clsIn K C).isSome = true := h2
  simp [h2', h3, h4]
theorem excInit_by (l : K.lookup C = some ⟨.type "type", dd, .cls ⟨nm, bs, .ref C :: bm, ns, qn, hd, sn, sub, ab, col, false⟩, #[k0, k1, k2, k3, some (.builtin newId), k5]⟩) (ht : excTail bmB bm = true) : excInitIn K C bmB newId = true := by
  unfold excInitIn
  rw [l]
  simp [ht]
theorem excOver_by {dl : Bool} (l : clsIn K C = some ⟨nm, bs, .ref C :: bm, ns, qn, hd, sn, sub, ab, col, dl⟩) (ht : excTail bmB bm = true) : excOver K C bmB = true := by
  unfold excOver
  rw [l]
  simp [ht]
theorem tail0 : tailIn K bmB bmB = true := by
  cases bmB <;> simp [tailIn]
theorem tail1 {cl : Value} {d : Option Addr} {cd : ClassData} {sl : Array (Option Value)} (l : K.lookup B = some ⟨cl, d, .cls cd, sl⟩) (h1 : nsOkIn K cd.ns = true) (h2 : nsIn K cd.ns "__init__" = some none) : tailIn K bmB (.ref B :: bmB) = true := by
  unfold tailIn
  simp only [l]
  simp [h1, h2, tail0]
theorem excIn_by (l : K.lookup C = some ⟨.type "type", dd, .cls ⟨nm, bs, .ref C :: bm, ns, qn, hd, sn, sub, ab, col, false⟩, #[k0, k1, k2, k3, some (.builtin newId), k5]⟩) (ht : tailIn K bmB bm = true) (h1 : nsOkIn K ns = true) (h2 : nsIn K ns "__init__" = some none) : excIn K C bmB newId = true := by
  unfold excIn
  rw [l]
  simp [ht, h1, h2]
theorem tabIn_by {o1 a1 : Value} {o2 a2 : Option Addr} {o3 a3 : Array (Option Value)} {fd : FuncData} {vs : Array Value} (h1 : nsIn K mainGlobals x = some (some (.ref f))) (h2 : K.lookup f = some ⟨o1, o2, .func fd, o3⟩) (h3 : fd.code = .ref c) (h4 : K.lookup c = some ⟨a1, a2, .fields vs, a3⟩) (h5 : (vs[11]? : Option Value) = some (.ref P)) : tabIn K x = some (c, P) := by
  unfold tabIn
  rw [h1]
  simp only [h2, h3, h4, h5]
theorem codeHd_by {o : Obj} (h4 : K.lookup c = some o) (h : codeHdIn [(c, o)] c P = true) : codeHdIn K c P = true := by
  unfold codeHdIn at h ⊢
  rw [h4]
  rw [show List.lookup c [(c, o)] = some o from by simp] at h
  exact h
end
end L3

namespace k17
open PySem PySem.Spec PyProof.Rows L2 L3
def cl_ : List Str := ["InvalidSize", "InvalidNumber", "Unlaid"]
def hs_law_met : List (Str × MH) := [("InvalidSize", (fun _ => (kc (.str "size")))), ("InvalidPlan", (fun _ => (kc (.str "plan")))), ("InvalidLine", (fun _ => (kc (.str "line")))), ("InvalidOperation", (fun _ => (kc (.str "operation")))), ("InvalidNumber", (fun x => k2 addD (kc (.str "number ")) ((fun x => kF reprG (kA1 ((kXf "value") x) kA0)) x))), ("Unlaid", (fun x => k2 addD (kc (.str "unlaid ")) ((fun x => kF reprG (kA1 ((kXf "value") x) kA0)) x))), ("TooMany", (fun x => k2 addD (kc (.str "many ")) ((fun x => kF reprG (kA1 ((kXf "limit") x) kA0)) x)))]
def ke_law_met : KE := (kc (.str ""))
/-- is_whole -/
def b_is_whole  : KS :=
  (sRet (kAndV (k1 (isF "int") (kv 0)) (kNotV (k1 (isF "bool") (kv 0)))))
/-- is_index -/
def b_is_index (r_is_whole : L3.Run) : KS :=
  (sRet (kAndV (kF r_is_whole (kA1 (kv 0) kA0)) (kChain leD ltD (kc (.int 0)) (kv 0) (kv 1))))
/-- copied -/
def b_copied (r_copied : L3.Run) : KS :=
  (sSeq (sIf (kTr (k1 (isF "list") (kv 0))) (sRet (kLz [1] (gN 1) (iL (kv 0)) kTrue (kF r_copied (kA1 (kv 1) kA0)))) sNil)
    (sSeq (sIf (kTr (k1 (isF "tuple") (kv 0))) (sRet (kF tupleF (kA1 (kLz [1] (gN 1) (iT (kv 0)) kTrue (kF r_copied (kA1 (kv 1) kA0))) kA0))) sNil)
    (sSeq (sIf (kTr (k1 (isF "dict") (kv 0))) (sRet (kDcE (kv 0))) sNil)
    (sRet (kv 0)))))
/-- can_hold_floor -/
def b_can_hold_floor  : KS :=
  (sSeq (sAsg (gT 3 (gs1 (gN 1) (gs1 (gN 2) (gs1 (gN 3) gs0)))) (kv 0))
    (sRet (kOrV (k2 eqD (k2 modD (kv 1) (kv 3)) (kc (.int 0))) (k2 eqD (k2 modD (kv 2) (kv 3)) (kc (.int 0))))))
/-- is_size -/
def b_is_size (r_is_whole : L3.Run) : KS :=
  (sSeq (sIf (tOr3 (tNot3 (kTr (k1 (isF "tuple") (kv 0)))) (kTb (k2 neD (kF lenF (kA1 (kv 0) kA0)) (kc (.int 3))))) (sRet (kc (.bl false))) sNil)
    (sSeq (sIf (tNot3 (kTr (kF allF (kA1 (kLz [4] (gN 4) (iT (kv 0)) kTrue (kF r_is_whole (kA1 (kv 4) kA0))) kA0)))) (sRet (kc (.bl false))) sNil)
    (sSeq (sAsg (gT 3 (gs1 (gN 1) (gs1 (gN 2) (gs1 (gN 3) gs0)))) (kv 0))
    (sRet (kAndV (kChain leD leD (kc (.int 1)) (kv 1) (kc (.int 1000000000000000000000000000000))) (kAndV (kChain leD leD (kc (.int 1)) (kv 2) (kc (.int 1000000000000000000000000000000))) (kChain leD leD (kc (.int 2)) (kv 3) (kc (.int 1000000000000000000000000000000)))))))))
/-- can_be_laid -/
def b_can_be_laid (r_is_size : L3.Run) (r_can_hold_floor : L3.Run) : KS :=
  (sSeq (sIf (tNot3 (kTr (kF r_is_size (kA1 (kv 0) kA0)))) (sRaise (kMk0 "InvalidSize")) sNil)
    (sRet (kF r_can_hold_floor (kA1 (kv 0) kA0))))
/-- pairs_with_sum -/
def b_pairs_with_sum  : KS :=
  (sRet (kF maxF (kA1 (kc (.int 0)) (kA1 (k2 addD (k2 subD (kF minF (kA1 (k2 subD (kv 0) (kc (.int 1))) (kA1 (kv 2) kA0))) (kF maxF (kA1 (kc (.int 0)) (kA1 (k2 addD (k2 subD (kv 2) (kv 1)) (kc (.int 1))) kA0)))) (kc (.int 1))) kA0))))
/-- weight -/
def b_weight (r_is_size : L3.Run) (r_is_index : L3.Run) (r_InvalidNumber___init__ : L3.Run) (r_pairs_with_sum : L3.Run) : KS :=
  (sSeq (sIf (tNot3 (kTr (kF r_is_size (kA1 (kv 0) kA0)))) (sRaise (kMk0 "InvalidSize")) sNil)
    (sSeq (sAsg (gT 3 (gs1 (gN 2) (gs1 (gN 3) (gs1 (gN 4) gs0)))) (kv 0))
    (sSeq (sIf (tNot3 (kTr (kF r_is_index (kA1 (kv 1) (kA1 (kv 4) kA0))))) (sRaise (kMk1 "InvalidNumber" "value" r_InvalidNumber___init__ (kv 1))) sNil)
    (sSeq (sPar2 5 6 (k2 modD (kv 2) (kv 4)) (k2 modD (kv 3) (kv 4)))
    (sSeq (sSet 7 (k2 fdivD (k2 subD (k2 mulD (kv 2) (kv 3)) (k2 mulD (kv 5) (kv 6))) (kv 4)))
    (sRet (k2 addD (k2 addD (kv 7) (kF r_pairs_with_sum (kA1 (kv 5) (kA1 (kv 6) (kA1 (kv 1) kA0))))) (kF r_pairs_with_sum (kA1 (kv 5) (kA1 (kv 6) (kA1 (k2 addD (kv 1) (kv 4)) kA0)))))))))))
/-- is_one_bar -/
def b_is_one_bar  : KS :=
  (sSeq (sAsg (gT 3 (gs1 (gN 1) (gs1 (gN 2) (gs1 (gN 3) gs0)))) (kv 0))
    (sRet (k2 (inY false) (kF tupF (kA1 (kv 1) (kA1 (kv 2) kA0))) (kF tupF (kA1 (kF tupF (kA1 (kv 3) (kA1 (kc (.int 1)) kA0))) (kA1 (kF tupF (kA1 (kc (.int 1)) (kA1 (kv 3) kA0))) kA0))))))
/-- is_narrow -/
def b_is_narrow (r_is_one_bar : L3.Run) : KS :=
  (sSeq (sAsg (gT 3 (gs1 (gN 1) (gs1 (gN 2) (gs1 (gN 3) gs0)))) (kv 0))
    (sRet (kAndV (k2 leD (kF minF (kA1 (kv 1) (kA1 (kv 2) kA0))) (k2 mulD (kc (.int 2)) (kv 3))) (kNotV (kF r_is_one_bar (kA1 (kv 0) kA0))))))
/-- has_bond -/
def b_has_bond (r_can_be_laid : L3.Run) (r_is_narrow : L3.Run) : KS :=
  (sRet (kAndV (kF r_can_be_laid (kA1 (kv 0) kA0)) (kAndV (kNotV (kF r_is_narrow (kA1 (kv 0) kA0))) (k1 (eqG true [6, 6, 2]) (kv 0)))))
/-- need_along -/
def b_need_along  : KS :=
  (sSeq (sSet 3 (k2 subD (kv 0) (kc (.int 1))))
    (sSeq (sSet 4 (k2 fdivD (kv 3) (kv 2)))
    (sRet (k2 addD (k2 mulD (kv 4) (kv 2)) (k2 mulD (k2 subD (kv 3) (kv 4)) (kOrV (k2 modD (kv 1) (kv 2)) (kv 2)))))))
/-- total_need -/
def b_total_need (r_can_be_laid : L3.Run) (r_Unlaid___init__ : L3.Run) (r_need_along : L3.Run) : KS :=
  (sSeq (sIf (tNot3 (kTr (kF r_can_be_laid (kA1 (kv 0) kA0)))) (sRaise (kMk1 "Unlaid" "value" r_Unlaid___init__ (kv 0))) sNil)
    (sSeq (sAsg (gT 3 (gs1 (gN 1) (gs1 (gN 2) (gs1 (gN 3) gs0)))) (kv 0))
    (sRet (k2 addD (kF r_need_along (kA1 (kv 1) (kA1 (kv 2) (kA1 (kv 3) kA0)))) (kF r_need_along (kA1 (kv 2) (kA1 (kv 1) (kA1 (kv 3) kA0))))))))
/-- total_crossings -/
def b_total_crossings (r_can_be_laid : L3.Run) (r_Unlaid___init__ : L3.Run) : KS :=
  (sSeq (sIf (tNot3 (kTr (kF r_can_be_laid (kA1 (kv 0) kA0)))) (sRaise (kMk1 "Unlaid" "value" r_Unlaid___init__ (kv 0))) sNil)
    (sSeq (sAsg (gT 3 (gs1 (gN 1) (gs1 (gN 2) (gs1 (gN 3) gs0)))) (kv 0))
    (sRet (k2 mulD (k2 subD (kv 3) (kc (.int 1))) (k2 fdivD (k2 mulD (kv 1) (kv 2)) (kv 3))))))
/-- is_few -/
def b_is_few (r_can_hold_floor : L3.Run) (r_total_need : L3.Run) (r_total_crossings : L3.Run) : KS :=
  (sRet (kAndV (kF r_can_hold_floor (kA1 (kv 0) kA0)) (k2 gtD (kF r_total_need (kA1 (kv 0) kA0)) (kF r_total_crossings (kA1 (kv 0) kA0)))))
/-- reason -/
def b_reason (r_has_bond : L3.Run) (r_is_narrow : L3.Run) (r_can_hold_floor : L3.Run) : KS :=
  (sSeq (sIf (kTr (kF r_has_bond (kA1 (kv 0) kA0))) (sRet (kc .non)) sNil)
    (sSeq (sIf (kTr (kF r_is_narrow (kA1 (kv 0) kA0))) (sRet (kF tupF (kA1 (kc (.str "narrow")) kA0))) sNil)
    (sSeq (sIf (kTr (kF r_can_hold_floor (kA1 (kv 0) kA0))) (sRet (kF tupF (kA1 (kc (.str "few")) kA0))) sNil)
    (sSeq (sAsg (gT 3 (gs1 (gN 1) (gs1 (gN 2) (gs1 (gN 3) gs0)))) (kv 0))
    (sSeq (sSet 4 (kF maxF (kA1 (k2 modD (kv 1) (kv 3)) (kA1 (k2 modD (kv 2) (kv 3)) kA0))))
    (sRet (kF tupF (kA1 (kc (.str "weights")) (kA1 (kv 4) (kA1 (k2 subD (kv 4) (kc (.int 1))) kA0))))))))))
/-- weights_differ -/
def b_weights_differ (r_is_index : L3.Run) (r_weight : L3.Run) : KS :=
  (sSeq (sSet 3 (k2 ixD (kv 0) (kc (.int 2))))
    (sRet (kAndV (kF r_is_index (kA1 (kv 1) (kA1 (kv 3) kA0))) (kAndV (kF r_is_index (kA1 (kv 2) (kA1 (kv 3) kA0))) (k2 neD (kF r_weight (kA1 (kv 0) (kA1 (kv 1) kA0))) (kF r_weight (kA1 (kv 0) (kA1 (kv 2) kA0))))))))
/-- is_reason -/
def b_is_reason (r_is_size : L3.Run) (r_is_narrow : L3.Run) (r_is_few : L3.Run) (r_weights_differ : L3.Run) : KS :=
  (sSeq (sIf (tNot3 (kTr (kF r_is_size (kA1 (kv 0) kA0)))) (sRaise (kMk0 "InvalidSize")) sNil)
    (sSeq (sIf (tNot3 (kTr (k1 (isF "tuple") (kv 1)))) (sRet (kc (.bl false))) sNil)
    (sSeq (sIf (kTb (k2 eqD (kv 1) (kF tupF (kA1 (kc (.str "narrow")) kA0)))) (sRet (kF r_is_narrow (kA1 (kv 0) kA0))) sNil)
    (sSeq (sIf (kTb (k2 eqD (kv 1) (kF tupF (kA1 (kc (.str "few")) kA0)))) (sRet (kF r_is_few (kA1 (kv 0) kA0))) sNil)
    (sRet (kAndV (k2 eqD (kF lenF (kA1 (kv 1) kA0)) (kc (.int 3))) (kAndV (k2 eqD (k2 ixD (kv 1) (kc (.int 0))) (kc (.str "weights"))) (kF r_weights_differ (kA1 (kv 0) (kA1 (k2 ixD (kv 1) (kc (.int 1))) (kA1 (k2 ixD (kv 1) (kc (.int 2))) kA0)))))))))))
/-- _law_urn -/
def b_law_urn  : KS :=
  (sSeq (sSet 2 (kIf (kTb (k2 ltD (kv 1) (kF lenF (kA1 (kv 0) kA0)))) (k2 ixD (kv 0) (kv 1)) (k2 addD (k2 mulD (kc (.int 83)) (kv 1)) (kc (.int 37)))))
    (sSeq (sSet 3 (k2 modD (kF intF (kA1 (kF absF (kA1 (kv 2) kA0)) kA0)) (k2 powD (k2 powD (kc (.int 10)) (kc (.int 60))) (kc (.int 9)))))
    (sSeq (sSet 4 (k2 modD (kF intF (kA1 (k2 addD (k2 addD (k2 addD (k2 mulD (kv 3) (kc (.int 104651))) (k2 mulD (kc (.int 15331)) (kv 1))) (k2 mulD (kc (.int 43)) (kF intF (kA1 (k2 ltD (kv 2) (kc (.int 0))) kA0)))) (kc (.int 19))) kA0)) (kc (.int 2305843009213693921))))
    (sRet (kF lstF (kA1 (kF maxF (kA1 (kc (.int 0)) (kA1 (k2 subD (kv 3) (k2 powD (kc (.int 10)) (kc (.int 17)))) kA0))) (kA1 (kv 4) (kA1 (kc (.int 0)) kA0))))))))
/-- _law_take -/
def b_law_take  : KS :=
  (sSeq (sIf (kTb (k2 gtD (k2 ixD (kv 0) (kc (.int 0))) (kc (.int 0)))) (sSeq (sSet 5 (k2 modD (kF intF (kA1 (k2 ixD (kv 0) (kc (.int 0))) kA0)) (kv 1)))
    (sSeq (sSetIx setL (kv 0) (kc (.int 0)) (k2 fdivD (k2 ixD (kv 0) (kc (.int 0))) (kv 1)))
    (sRet (kv 5)))) sNil)
    (sSeq (sSetIx setL (kv 0) (kc (.int 2)) (k2 addD (k2 ixD (kv 0) (kc (.int 2))) (kc (.int 1))))
    (sSeq (sSet 2 (k2 modD (kF intF (kA1 (k2 addD (k2 ixD (kv 0) (kc (.int 1))) (k2 mulD (kc (.int 1299709)) (k2 ixD (kv 0) (kc (.int 2))))) kA0)) (kc (.int 2305843009213693951))))
    (sSeq (sSet 3 (k2 modD (kF intF (kA1 (k2 addD (k2 mulD (kv 2) (kv 2)) (k2 mulD (kc (.int 7919)) (k2 ixD (kv 0) (kc (.int 2))))) kA0)) (kc (.int 1000000000039))))
    (sSeq (sSet 4 (k2 modD (kF intF (kA1 (k2 addD (k2 mulD (kv 3) (kv 3)) (kv 2)) kA0)) (kc (.int 998244353))))
    (sRet (k2 modD (kF intF (kA1 (k2 fdivD (kv 4) (kc (.int 61))) kA0)) (kv 1))))))))
/-- _law_one -/
def b_law_one (r_law_take : L3.Run) : KS :=
  (sRet (k2 ixD (kv 1) (kF r_law_take (kA1 (kv 0) (kA1 (kF lenF (kA1 (kv 1) kA0)) kA0)))))
/-- _law_is_laid -/
def b_law_is_laid  : KS :=
  (sRet (kOrV (k2 eqD (k2 modD (k2 ixD (kv 0) (kc (.int 0))) (k2 ixD (kv 0) (kc (.int 2)))) (kc (.int 0))) (k2 eqD (k2 modD (k2 ixD (kv 0) (kc (.int 1))) (k2 ixD (kv 0) (kc (.int 2)))) (kc (.int 0)))))
/-- _law_small -/
def b_law_small (r_law_one : L3.Run) (r_law_take : L3.Run) : KS :=
  (sSeq (sSet 2 (kF r_law_one (kA1 (kv 0) (kA1 (kF frzF (kA1 (kc (.int 2)) (kA1 (kc (.int 2)) (kA1 (kc (.int 3)) (kA1 (kc (.int 2)) (kA1 (kc (.int 4)) (kA1 (kc (.int 3)) (kA1 (kc (.int 5)) kA0)))))))) kA0))))
    (sSeq (sSet 3 (k2 addD (kc (.int 1)) (kF r_law_take (kA1 (kv 0) (kA1 (k2 addD (k2 mulD (kc (.int 3)) (kv 2)) (kc (.int 2))) kA0)))))
    (sSeq (sIf (kTb (k2 gtD (kF r_law_take (kA1 (kv 0) (kA1 (kc (.int 3)) kA0))) (kc (.int 0)))) (sSet 3 (k2 mulD (kv 2) (k2 addD (kc (.int 1)) (kF r_law_take (kA1 (kv 0) (kA1 (kc (.int 4)) kA0)))))) sNil)
    (sSeq (sSet 3 (kF minF (kA1 (kv 3) (kA1 (kv 1) kA0))))
    (sSeq (sSet 4 (k2 addD (kc (.int 1)) (kF r_law_take (kA1 (kv 0) (kA1 (kF maxF (kA1 (kc (.int 1)) (kA1 (kF minF (kA1 (k2 addD (k2 mulD (kc (.int 3)) (kv 2)) (kc (.int 2))) (kA1 (k2 fdivD (kv 1) (kv 3)) kA0))) kA0))) kA0)))))
    (sRet (kIf (kTb (k2 eqD (kF r_law_take (kA1 (kv 0) (kA1 (kc (.int 2)) kA0))) (kc (.int 0)))) (kF tupF (kA1 (kv 3) (kA1 (kv 4) (kA1 (kv 2) kA0)))) (kF tupF (kA1 (kv 4) (kA1 (kv 3) (kA1 (kv 2) kA0)))))))))))
/-- _law_great -/
def b_law_great (r_law_one : L3.Run) : KS :=
  (sSeq (sSet 1 (kF r_law_one (kA1 (kv 0) (kA1 (kF frzF (kA1 (kc (.int 2)) (kA1 (kc (.int 3)) (kA1 (kc (.int 4)) (kA1 (kc (.int 7)) (kA1 (kc (.int 10)) (kA1 (kc (.int 2)) (kA1 (kc (.int 3)) (kA1 (kc (.int 1000)) (kA1 (k2 addD (k2 powD (kc (.int 10)) (kc (.int 9))) (kc (.int 7))) (kA1 (k2 powD (kc (.int 10)) (kc (.int 20))) (kA1 (k2 addD (k2 powD (kc (.int 10)) (kc (.int 29))) (kc (.int 3))) kA0)))))))))))) kA0))))
    (sSeq (sSet 2 (k2 fdivD (k2 powD (kc (.int 10)) (kc (.int 30))) (kv 1)))
    (sSeq (sSet 3 (kF lstF kA0))
    (sSeq (sFor (gN 4) (iR1 (kA1 (kc (.int 2)) kA0)) (sSeq (sSet 5 (kF r_law_one (kA1 (kv 0) (kA1 (kF frzF (kA1 (kc (.int 1)) (kA1 (kc (.int 2)) (kA1 (kc (.int 3)) (kA1 (kc (.int 4)) (kA1 (k2 powD (kc (.int 10)) (kc (.int 6))) (kA1 (k2 subD (kv 2) (kc (.int 1))) (kA1 (k2 fdivD (kv 2) (kc (.int 3))) kA0)))))))) kA0))))
    (sSeq (sSet 6 (kF r_law_one (kA1 (kv 0) (kA1 (kF frzF (kA1 (kc (.int 0)) (kA1 (kc (.int 0)) (kA1 (kc (.int 1)) (kA1 (k2 subD (kv 1) (kc (.int 1))) (kA1 (k2 fdivD (kv 1) (kc (.int 2))) kA0)))))) kA0))))
    (sExpr (kM (tyD "list") appendM (kv 3) (kA1 (kF maxF (kA1 (kc (.int 1)) (kA1 (kF minF (kA1 (k2 powD (kc (.int 10)) (kc (.int 30))) (kA1 (k2 addD (k2 mulD (kF minF (kA1 (kv 5) (kA1 (kv 2) kA0))) (kv 1)) (kv 6)) kA0))) kA0))) kA0))))))
    (sRet (kF tupF (kA1 (k2 ixD (kv 3) (kc (.int 0))) (kA1 (k2 ixD (kv 3) (kc (.int 1))) (kA1 (kv 1) kA0)))))))))
/-- _law_no_size -/
def b_law_no_size (r_law_one : L3.Run) : KS :=
  (sSeq (sSet 1 (kF frzF (kA1 (kc .non) (kA1 (kc (.int 0)) (kA1 (kF tupF kA0) (kA1 (kF tupF (kA1 (kc (.int 6)) (kA1 (kc (.int 5)) kA0))) (kA1 (kF tupF (kA1 (kc (.int 6)) (kA1 (kc (.int 5)) (kA1 (kc (.int 2)) (kA1 (kc (.int 0)) kA0))))) (kA1 (kF frzF (kA1 (kc (.int 6)) (kA1 (kc (.int 5)) (kA1 (kc (.int 2)) kA0)))) (kA1 (kF tupF (kA1 (kc (.int 0)) (kA1 (kc (.int 5)) (kA1 (kc (.int 2)) kA0)))) (kA1 (kF tupF (kA1 (kc (.int 6)) (kA1 (kc (.int 0)) (kA1 (kc (.int 2)) kA0)))) (kA1 (kF tupF (kA1 (kc (.int 6)) (kA1 (kc (.int 5)) (kA1 (kc (.int 1)) kA0)))) (kA1 (kF tupF (kA1 (kc (.int 6)) (kA1 (kc (.int 5)) (kA1 (kc (.int 0)) kA0)))) (kA1 (kF tupF (kA1 (k1 negD (kc (.int 6))) (kA1 (kc (.int 5)) (kA1 (kc (.int 2)) kA0)))) (kA1 (kc (.str "652")) kA0))))))))))))))
    (sSeq (sSet 1 (k2 addZ (kv 1) (kF frzF (kA1 (kF tupF (kA1 (kc (.bl true)) (kA1 (kc (.int 5)) (kA1 (kc (.int 2)) kA0)))) (kA1 (kF tupF (kA1 (kc (.int 6)) (kA1 (kc (.bl true)) (kA1 (kc (.int 2)) kA0)))) (kA1 (kF tupF (kA1 (kc (.int 6)) (kA1 (kc (.int 5)) (kA1 (kc (.bl true)) kA0)))) (kA1 (kF tupF (kA1 (k2 addD (k2 powD (kc (.int 10)) (kc (.int 30))) (kc (.int 1))) (kA1 (kc (.int 5)) (kA1 (kc (.int 2)) kA0)))) (kA1 (kF tupF (kA1 (kc (.int 6)) (kA1 (k2 addD (k2 powD (kc (.int 10)) (kc (.int 30))) (kc (.int 1))) (kA1 (kc (.int 2)) kA0)))) (kA1 (kE1 6 5) kA0)))))))))
    (sRet (kF r_law_one (kA1 (kv 0) (kA1 (k2 addZ (kv 1) (kF frzF (kA1 (kF tupF (kA1 (kc (.int 6)) (kA1 (kc (.int 5)) (kA1 (k2 addD (k2 powD (kc (.int 10)) (kc (.int 30))) (kc (.int 1))) kA0)))) (kA1 (kF tupF (kA1 (kc (.str "6")) (kA1 (kc (.int 5)) (kA1 (kc (.int 2)) kA0)))) (kA1 (kF tupF (kA1 (kc (.int 6)) (kA1 (kc .non) (kA1 (kc (.int 2)) kA0)))) (kA1 (kF tupF (kA1 (kF tupF (kA1 (kc (.int 6)) kA0)) (kA1 (kc (.int 5)) (kA1 (kc (.int 2)) kA0)))) (kA1 (kc (.bl true)) (kA1 (kF tupF (kA1 (kc (.int 6)) (kA1 (kc (.int 5)) (kA1 (kF frzF (kA1 (kc (.int 2)) kA0)) kA0)))) kA0)))))))) kA0))))))
/-- _law_right -/
def b_law_right (A_total_crossings : Addr) (A_total_need : Addr) (A_reason : Addr) (A_has_bond : Addr) (A_can_be_laid : Addr) (P_law_right : Addr) (r_law_one : L3.Run) (r_law_no_size : L3.Run) (r_can_be_laid : L3.Run) (r_has_bond : L3.Run) (r_reason : L3.Run) (r_total_need : L3.Run) (r_total_crossings : L3.Run) (r_is_reason : L3.Run) (r_weight : L3.Run) (r_law_great : L3.Run) (r_law_small : L3.Run) (r_law_is_laid : L3.Run) : KS :=
  (sSeq (sAsg (gT 2 (gs1 (gN 1) (gs1 (gN 2) gs0))) (kF tupF (kA1 (kF r_law_no_size (kA1 (kv 0) kA0)) (kA1 (kF r_law_one (kA1 (kv 0) (kA1 (kF frzF (kA1 (kc .non) (kA1 (k1 negD (kc (.int 1))) (kA1 (kc (.str "0")) (kA1 (kc (.bl true)) (kA1 (kF tupF (kA1 (kc (.int 0)) kA0)) (kA1 (kF frzF kA0) (kA1 kE0 (kA1 (k2 powD (kc (.int 10)) (kc (.int 38))) (kA1 (kc (.bl false)) kA0)))))))))) kA0))) kA0))))
    (sSeq (sFor (gN 3) (iL (kF frzF (kA1 (kc (.fn "can_be_laid" A_can_be_laid)) (kA1 (kc (.fn "has_bond" A_has_bond)) (kA1 (kc (.fn "reason" A_reason)) (kA1 (kc (.fn "total_need" A_total_need)) (kA1 (kc (.fn "total_crossings" A_total_crossings)) kA0))))))) (sIf (kTb (k2 neD (kMet 0 P_law_right (("_law_right" : Str) ++ ".<locals>." ++ "<lambda>") cl_ 2 hs_law_met ke_law_met (kCallV [("can_be_laid", A_can_be_laid, r_can_be_laid), ("has_bond", A_has_bond, r_has_bond), ("reason", A_reason, r_reason), ("total_need", A_total_need, r_total_need), ("total_crossings", A_total_crossings, r_total_crossings)] 3 (kA1 (kv 1) kA0))) (kc (.str "size")))) (sRet (kc (.bl false))) sNil))
    (sSeq (sSet 4 (kF lstF (kA1 (kMet 0 P_law_right (("_law_right" : Str) ++ ".<locals>." ++ "<lambda>") cl_ 2 hs_law_met ke_law_met (kF r_is_reason (kA1 (kv 1) (kA1 (kv 2) kA0)))) kA0)))
    (sSeq (sExpr (kM (tyD "list") appendM (kv 4) (kA1 (kMet 0 P_law_right (("_law_right" : Str) ++ ".<locals>." ++ "<lambda>") cl_ 2 hs_law_met ke_law_met (kF r_weight (kA1 (kv 1) (kA1 (kv 2) kA0)))) kA0)))
    (sSeq (sSet 5 (kF r_law_one (kA1 (kv 0) (kA1 (kF frzF (kA1 (kF r_law_small (kA1 (kv 0) (kA1 (kc (.int 400)) kA0))) (kA1 (kF r_law_great (kA1 (kv 0) kA0)) kA0))) kA0))))
    (sSeq (sExpr (kM (tyD "list") appendM (kv 4) (kA1 (kMet 0 P_law_right (("_law_right" : Str) ++ ".<locals>." ++ "<lambda>") cl_ 2 hs_law_met ke_law_met (kF r_weight (kA1 (kv 5) (kA1 (kv 2) kA0)))) kA0)))
    (sSeq (sExpr (kM (tyD "list") appendM (kv 4) (kA1 (kMet 0 P_law_right (("_law_right" : Str) ++ ".<locals>." ++ "<lambda>") cl_ 2 hs_law_met ke_law_met (kF r_weight (kA1 (kv 5) (kA1 (k2 ixD (kv 5) (kc (.int 2))) kA0)))) kA0)))
    (sSeq (sIf (kTb (k2 neD (kv 4) (kF frzF (kA1 (kc (.str "size")) (kA1 (kc (.str "size")) (kA1 (k2 addD (kc (.str "number ")) (kF reprG (kA1 (kv 2) kA0))) (kA1 (k2 addD (kc (.str "number ")) (kF reprG (kA1 (k2 ixD (kv 5) (kc (.int 2))) kA0))) kA0))))))) (sRet (kc (.bl false))) sNil)
    (sSeq (sSet 6 (kIf (kTr (kF r_law_is_laid (kA1 (kv 5) kA0))) (kc (.str "")) (k2 addD (kc (.str "unlaid ")) (kF reprG (kA1 (kv 5) kA0)))))
    (sSeq (sFor (gN 3) (iL (kF frzF (kA1 (kc (.fn "total_need" A_total_need)) (kA1 (kc (.fn "total_crossings" A_total_crossings)) kA0)))) (sIf (kTb (k2 neD (kMet 0 P_law_right (("_law_right" : Str) ++ ".<locals>." ++ "<lambda>") cl_ 2 hs_law_met ke_law_met (kCallV [("can_be_laid", A_can_be_laid, r_can_be_laid), ("has_bond", A_has_bond, r_has_bond), ("reason", A_reason, r_reason), ("total_need", A_total_need, r_total_need), ("total_crossings", A_total_crossings, r_total_crossings)] 3 (kA1 (kv 5) kA0))) (kv 6))) (sRet (kc (.bl false))) sNil))
    (sSeq (sSet 4 (kF lstF (kA1 (kMet 0 P_law_right (("_law_right" : Str) ++ ".<locals>." ++ "<lambda>") cl_ 2 hs_law_met ke_law_met (kF r_is_reason (kA1 (kv 5) (kA1 (kv 1) kA0)))) kA0)))
    (sSeq (sExpr (kM (tyD "list") appendM (kv 4) (kA1 (kMet 0 P_law_right (("_law_right" : Str) ++ ".<locals>." ++ "<lambda>") cl_ 2 hs_law_met ke_law_met (kF r_reason (kA1 (kv 5) kA0))) kA0)))
    (sRet (k2 eqD (kv 4) (kF frzF (kA1 (kc (.str "")) (kA1 (kc (.str "")) kA0)))))))))))))))))
/-- law -/
def b_law (P_law : Addr) (r_law_urn : L3.Run) (r_law_right : L3.Run) (r_total_need : L3.Run) (r_weight : L3.Run) : KS :=
  (sSeq (sFor (gN 1) (iR1 (kA1 (kF maxF (kA1 (kc (.int 1)) (kA1 (kF minF (kA1 (kc (.int 8)) (kA1 (kF lenF (kA1 (kv 0) kA0)) kA0))) kA0))) kA0)) (sSeq (sSet 3 (kF r_law_urn (kA1 (kv 0) (kA1 (kv 1) kA0))))
    (sFor (gN 4) (iR1 (kA1 (kc (.int 4)) kA0)) (sIf (tNot3 (kTr (kF r_law_right (kA1 (kv 3) kA0)))) (sRet (kc (.bl false))) sNil))))
    (sSeq (sSet 2 (kF lstF (kA1 (kMet 1 P_law (("law" : Str) ++ ".<locals>." ++ "<lambda>") cl_ 2 hs_law_met ke_law_met (kF r_total_need (kA1 (kF tupF (kA1 (kc (.int 3)) (kA1 (kc (.int 3)) (kA1 (kc (.int 2)) kA0)))) kA0))) kA0)))
    (sSeq (sExpr (kM (tyD "list") appendM (kv 2) (kA1 (kMet 1 P_law (("law" : Str) ++ ".<locals>." ++ "<lambda>") cl_ 2 hs_law_met ke_law_met (kF r_weight (kA1 (kF tupF (kA1 (k2 powD (kc (.int 10)) (kc (.int 30))) (kA1 (k2 powD (kc (.int 10)) (kc (.int 30))) (kA1 (k2 powD (kc (.int 10)) (kc (.int 30))) kA0)))) (kA1 (k2 subD (k2 powD (kc (.int 10)) (kc (.int 30))) (kc (.int 1))) kA0)))) kA0)))
    (sRet (k2 eqD (kv 2) (kF frzF (kA1 (kc (.str "unlaid (3, 3, 2)")) (kA1 (kc (.str "")) kA0))))))))
def ids : List String := ["is_whole", "is_index", "copied", "can_hold_floor", "is_size", "InvalidNumber.__init__", "Unlaid.__init__", "can_be_laid", "pairs_with_sum", "weight", "is_one_bar", "is_narrow", "has_bond", "need_along", "total_need", "total_crossings", "is_few", "reason", "weights_differ", "is_reason", "_law_urn", "_law_take", "_law_one", "_law_is_laid", "_law_small", "_law_great", "_law_no_size", "_law_right", "law"]
def callT (A_total_crossings : Addr) (A_total_need : Addr) (A_reason : Addr) (A_has_bond : Addr) (A_can_be_laid : Addr) (P_law_right : Addr) (P_law : Addr) : Nat → Nat → L3.Run
  | 0, _ => runBad
  | n + 1, i => match i with
    | 0 => runDef 1 1 (b_is_whole )
    | 1 => runDef 2 2 (b_is_index (callT A_total_crossings A_total_need A_reason A_has_bond A_can_be_laid P_law_right P_law n 0))
    | 2 => runDef 3 1 (b_copied (callT A_total_crossings A_total_need A_reason A_has_bond A_can_be_laid P_law_right P_law n 2))
    | 3 => runDef 4 1 (b_can_hold_floor )
    | 4 => runDef 5 1 (b_is_size (callT A_total_crossings A_total_need A_reason A_has_bond A_can_be_laid P_law_right P_law n 0))
    | 5 => callT A_total_crossings A_total_need A_reason A_has_bond A_can_be_laid P_law_right P_law n 2
    | 6 => callT A_total_crossings A_total_need A_reason A_has_bond A_can_be_laid P_law_right P_law n 2
    | 7 => runDef 1 1 (b_can_be_laid (callT A_total_crossings A_total_need A_reason A_has_bond A_can_be_laid P_law_right P_law n 4) (callT A_total_crossings A_total_need A_reason A_has_bond A_can_be_laid P_law_right P_law n 3))
    | 8 => runDef 3 3 (b_pairs_with_sum )
    | 9 => runDef 8 2 (b_weight (callT A_total_crossings A_total_need A_reason A_has_bond A_can_be_laid P_law_right P_law n 4) (callT A_total_crossings A_total_need A_reason A_has_bond A_can_be_laid P_law_right P_law n 1) (callT A_total_crossings A_total_need A_reason A_has_bond A_can_be_laid P_law_right P_law n 5) (callT A_total_crossings A_total_need A_reason A_has_bond A_can_be_laid P_law_right P_law n 8))
    | 10 => runDef 4 1 (b_is_one_bar )
    | 11 => runDef 4 1 (b_is_narrow (callT A_total_crossings A_total_need A_reason A_has_bond A_can_be_laid P_law_right P_law n 10))
    | 12 => runDef 1 1 (b_has_bond (callT A_total_crossings A_total_need A_reason A_has_bond A_can_be_laid P_law_right P_law n 7) (callT A_total_crossings A_total_need A_reason A_has_bond A_can_be_laid P_law_right P_law n 11))
    | 13 => runDef 5 3 (b_need_along )
    | 14 => runDef 4 1 (b_total_need (callT A_total_crossings A_total_need A_reason A_has_bond A_can_be_laid P_law_right P_law n 7) (callT A_total_crossings A_total_need A_reason A_has_bond A_can_be_laid P_law_right P_law n 6) (callT A_total_crossings A_total_need A_reason A_has_bond A_can_be_laid P_law_right P_law n 13))
    | 15 => runDef 4 1 (b_total_crossings (callT A_total_crossings A_total_need A_reason A_has_bond A_can_be_laid P_law_right P_law n 7) (callT A_total_crossings A_total_need A_reason A_has_bond A_can_be_laid P_law_right P_law n 6))
    | 16 => runDef 1 1 (b_is_few (callT A_total_crossings A_total_need A_reason A_has_bond A_can_be_laid P_law_right P_law n 3) (callT A_total_crossings A_total_need A_reason A_has_bond A_can_be_laid P_law_right P_law n 14) (callT A_total_crossings A_total_need A_reason A_has_bond A_can_be_laid P_law_right P_law n 15))
    | 17 => runDef 5 1 (b_reason (callT A_total_crossings A_total_need A_reason A_has_bond A_can_be_laid P_law_right P_law n 12) (callT A_total_crossings A_total_need A_reason A_has_bond A_can_be_laid P_law_right P_law n 11) (callT A_total_crossings A_total_need A_reason A_has_bond A_can_be_laid P_law_right P_law n 3))
    | 18 => runDef 4 3 (b_weights_differ (callT A_total_crossings A_total_need A_reason A_has_bond A_can_be_laid P_law_right P_law n 1) (callT A_total_crossings A_total_need A_reason A_has_bond A_can_be_laid P_law_right P_law n 9))
    | 19 => runDef 2 2 (b_is_reason (callT A_total_crossings A_total_need A_reason A_has_bond A_can_be_laid P_law_right P_law n 4) (callT A_total_crossings A_total_need A_reason A_has_bond A_can_be_laid P_law_right P_law n 11) (callT A_total_crossings A_total_need A_reason A_has_bond A_can_be_laid P_law_right P_law n 16) (callT A_total_crossings A_total_need A_reason A_has_bond A_can_be_laid P_law_right P_law n 18))
    | 20 => runDef 5 2 (b_law_urn )
    | 21 => runDef 6 2 (b_law_take )
    | 22 => runDef 2 2 (b_law_one (callT A_total_crossings A_total_need A_reason A_has_bond A_can_be_laid P_law_right P_law n 21))
    | 23 => runDef 1 1 (b_law_is_laid )
    | 24 => runDef 5 2 (b_law_small (callT A_total_crossings A_total_need A_reason A_has_bond A_can_be_laid P_law_right P_law n 22) (callT A_total_crossings A_total_need A_reason A_has_bond A_can_be_laid P_law_right P_law n 21))
    | 25 => runDef 7 1 (b_law_great (callT A_total_crossings A_total_need A_reason A_has_bond A_can_be_laid P_law_right P_law n 22))
    | 26 => runDef 2 1 (b_law_no_size (callT A_total_crossings A_total_need A_reason A_has_bond A_can_be_laid P_law_right P_law n 22))
    | 27 => runDef 7 1 (b_law_right A_total_crossings A_total_need A_reason A_has_bond A_can_be_laid P_law_right (callT A_total_crossings A_total_need A_reason A_has_bond A_can_be_laid P_law_right P_law n 22) (callT A_total_crossings A_total_need A_reason A_has_bond A_can_be_laid P_law_right P_law n 26) (callT A_total_crossings A_total_need A_reason A_has_bond A_can_be_laid P_law_right P_law n 7) (callT A_total_crossings A_total_need A_reason A_has_bond A_can_be_laid P_law_right P_law n 12) (callT A_total_crossings A_total_need A_reason A_has_bond A_can_be_laid P_law_right P_law n 17) (callT A_total_crossings A_total_need A_reason A_has_bond A_can_be_laid P_law_right P_law n 14) (callT A_total_crossings A_total_need A_reason A_has_bond A_can_be_laid P_law_right P_law n 15) (callT A_total_crossings A_total_need A_reason A_has_bond A_can_be_laid P_law_right P_law n 19) (callT A_total_crossings A_total_need A_reason A_has_bond A_can_be_laid P_law_right P_law n 9) (callT A_total_crossings A_total_need A_reason A_has_bond A_can_be_laid P_law_right P_law n 25) (callT A_total_crossings A_total_need A_reason A_has_bond A_can_be_laid P_law_right P_law n 24) (callT A_total_crossings A_total_need A_reason A_has_bond A_can_be_laid P_law_right P_law n 23))
    | 28 => runDef 5 1 (b_law P_law (callT A_total_crossings A_total_need A_reason A_has_bond A_can_be_laid P_law_right P_law n 20) (callT A_total_crossings A_total_need A_reason A_has_bond A_can_be_laid P_law_right P_law n 27) (callT A_total_crossings A_total_need A_reason A_has_bond A_can_be_laid P_law_right P_law n 14) (callT A_total_crossings A_total_need A_reason A_has_bond A_can_be_laid P_law_right P_law n 9))
    | _ => runBad
end k17
namespace Hu
open PySem PySem.Spec PyProof.Rows L2 L3
def b_law_urn  : KS :=
  (sSeq (sSet 2 (kIf (kTb (k2 ltD (kv 1) (kF lenF (kA1 (kv 0) kA0)))) (k2 ixD (kv 0) (kv 1)) (k2 addD (k2 mulD (kc (.int 83)) (kv 1)) (kc (.int 37)))))
    (sSeq (sSet 3 (k2 modD (kF intF (kA1 (kF absF (kA1 (kv 2) kA0)) kA0)) (k2 powD (k2 powD (kc (.int 10)) (kc (.int 60))) (kc (.int 9)))))
    (sSeq (sSet 4 (k2 modD (kF intF (kA1 (k2 addD (k2 addD (k2 addD (k2 mulD (kv 3) (kc (.int 104651))) (k2 mulD (kc (.int 15331)) (kv 1))) (k2 mulD (kc (.int 43)) (kF intF (kA1 (k2 ltD (kv 2) (kc (.int 0))) kA0)))) (kc (.int 19))) kA0)) (kc (.int 2305843009213693921))))
    (sRet (kF lstF (kA1 (kF maxF (kA1 (kc (.int 0)) (kA1 (k2 subD (kv 3) (k2 powD (kc (.int 10)) (kc (.int 17)))) kA0))) (kA1 (kv 4) (kA1 (kc (.int 0)) kA0))))))))
def b_law_take  : KS :=
  (sSeq (sIf (kTb (k2 gtD (k2 ixD (kv 0) (kc (.int 0))) (kc (.int 0)))) (sSeq (sSet 5 (k2 modD (kF intF (kA1 (k2 ixD (kv 0) (kc (.int 0))) kA0)) (kv 1)))
    (sSeq (sSetIx setL (kv 0) (kc (.int 0)) (k2 fdivD (k2 ixD (kv 0) (kc (.int 0))) (kv 1)))
    (sRet (kv 5)))) sNil)
    (sSeq (sSetIx setL (kv 0) (kc (.int 2)) (k2 addD (k2 ixD (kv 0) (kc (.int 2))) (kc (.int 1))))
    (sSeq (sSet 2 (k2 modD (kF intF (kA1 (k2 addD (k2 ixD (kv 0) (kc (.int 1))) (k2 mulD (kc (.int 1299709)) (k2 ixD (kv 0) (kc (.int 2))))) kA0)) (kc (.int 2305843009213693951))))
    (sSeq (sSet 3 (k2 modD (kF intF (kA1 (k2 addD (k2 mulD (kv 2) (kv 2)) (k2 mulD (kc (.int 7919)) (k2 ixD (kv 0) (kc (.int 2))))) kA0)) (kc (.int 1000000000039))))
    (sSeq (sSet 4 (k2 modD (kF intF (kA1 (k2 addD (k2 mulD (kv 3) (kv 3)) (kv 2)) kA0)) (kc (.int 998244353))))
    (sRet (k2 modD (kF intF (kA1 (k2 fdivD (kv 4) (kc (.int 61))) kA0)) (kv 1))))))))
def b_law_one (r_law_take : L3.Run) : KS :=
  (sRet (k2 ixD (kv 1) (kF r_law_take (kA1 (kv 0) (kA1 (kF lenF (kA1 (kv 1) kA0)) kA0)))))
def b_law_is_one_bar  : KS :=
  (sRet (k2 eqD (kF sortZ (kA1 (kSz (kv 0) kO0 (kO1 (kc (.int 2)))) kA0)) (kF frzF (kA1 (kc (.int 1)) (kA1 (k2 ixD (kv 0) (kc (.int 2))) kA0)))))
def b_law_small (r_law_one : L3.Run) (r_law_take : L3.Run) : KS :=
  (sSeq (sSet 2 (kF r_law_one (kA1 (kv 0) (kA1 (kF frzF (kA1 (kc (.int 2)) (kA1 (kc (.int 2)) (kA1 (kc (.int 3)) (kA1 (kc (.int 2)) (kA1 (kc (.int 4)) (kA1 (kc (.int 3)) (kA1 (kc (.int 5)) kA0)))))))) kA0))))
    (sSeq (sSet 3 (k2 addD (kc (.int 1)) (kF r_law_take (kA1 (kv 0) (kA1 (k2 addD (k2 mulD (kc (.int 3)) (kv 2)) (kc (.int 2))) kA0)))))
    (sSeq (sIf (kTb (k2 gtD (kF r_law_take (kA1 (kv 0) (kA1 (kc (.int 3)) kA0))) (kc (.int 0)))) (sSet 3 (k2 mulD (kv 2) (k2 addD (kc (.int 1)) (kF r_law_take (kA1 (kv 0) (kA1 (kc (.int 4)) kA0)))))) sNil)
    (sSeq (sSet 3 (kF minF (kA1 (kv 3) (kA1 (kv 1) kA0))))
    (sSeq (sSet 4 (k2 addD (kc (.int 1)) (kF r_law_take (kA1 (kv 0) (kA1 (kF maxF (kA1 (kc (.int 1)) (kA1 (kF minF (kA1 (k2 addD (k2 mulD (kc (.int 3)) (kv 2)) (kc (.int 2))) (kA1 (k2 fdivD (kv 1) (kv 3)) kA0))) kA0))) kA0)))))
    (sRet (kIf (kTb (k2 eqD (kF r_law_take (kA1 (kv 0) (kA1 (kc (.int 2)) kA0))) (kc (.int 0)))) (kF tupF (kA1 (kv 3) (kA1 (kv 4) (kA1 (kv 2) kA0)))) (kF tupF (kA1 (kv 4) (kA1 (kv 3) (kA1 (kv 2) kA0)))))))))))
def b_law_great (r_law_one : L3.Run) : KS :=
  (sSeq (sSet 1 (kF r_law_one (kA1 (kv 0) (kA1 (kF frzF (kA1 (kc (.int 2)) (kA1 (kc (.int 3)) (kA1 (kc (.int 4)) (kA1 (kc (.int 7)) (kA1 (kc (.int 10)) (kA1 (kc (.int 2)) (kA1 (kc (.int 3)) (kA1 (kc (.int 1000)) (kA1 (k2 addD (k2 powD (kc (.int 10)) (kc (.int 9))) (kc (.int 7))) (kA1 (k2 powD (kc (.int 10)) (kc (.int 20))) (kA1 (k2 addD (k2 powD (kc (.int 10)) (kc (.int 29))) (kc (.int 3))) kA0)))))))))))) kA0))))
    (sSeq (sSet 2 (k2 fdivD (k2 powD (kc (.int 10)) (kc (.int 30))) (kv 1)))
    (sSeq (sSet 3 (kF lstF kA0))
    (sSeq (sFor (gN 4) (iR1 (kA1 (kc (.int 2)) kA0)) (sSeq (sSet 5 (kF r_law_one (kA1 (kv 0) (kA1 (kF frzF (kA1 (kc (.int 1)) (kA1 (kc (.int 2)) (kA1 (kc (.int 3)) (kA1 (kc (.int 4)) (kA1 (k2 powD (kc (.int 10)) (kc (.int 6))) (kA1 (k2 subD (kv 2) (kc (.int 1))) (kA1 (k2 fdivD (kv 2) (kc (.int 3))) kA0)))))))) kA0))))
    (sSeq (sSet 6 (kF r_law_one (kA1 (kv 0) (kA1 (kF frzF (kA1 (kc (.int 0)) (kA1 (kc (.int 0)) (kA1 (kc (.int 1)) (kA1 (k2 subD (kv 1) (kc (.int 1))) (kA1 (k2 fdivD (kv 1) (kc (.int 2))) kA0)))))) kA0))))
    (sExpr (kM (tyD "list") appendM (kv 3) (kA1 (kF maxF (kA1 (kc (.int 1)) (kA1 (kF minF (kA1 (k2 powD (kc (.int 10)) (kc (.int 30))) (kA1 (k2 addD (k2 mulD (kF minF (kA1 (kv 5) (kA1 (kv 2) kA0))) (kv 1)) (kv 6)) kA0))) kA0))) kA0))))))
    (sRet (kF tupF (kA1 (k2 ixD (kv 3) (kc (.int 0))) (kA1 (k2 ixD (kv 3) (kc (.int 1))) (kA1 (kv 1) kA0)))))))))
end Hu

namespace L3
open PySem L2
/-- a size: whole numbers within the bounds -/
structure Sz (w h l : Int) : Prop where
  w1 : 1 ≤ w
  w2 : w ≤ 1000000000000000000000000000000
  h1 : 1 ≤ h
  h2 : h ≤ 1000000000000000000000000000000
  l1 : 2 ≤ l
  l2 : l ≤ 1000000000000000000000000000000
abbrev sz (w h l : Int) : D := .tup [.int w, .int h, .int l]
theorem Sz.swap {w h l : Int} (z : Sz w h l) : Sz h w l := ⟨z.h1, z.h2, z.w1, z.w2, z.l1, z.l2⟩
theorem log_small {i : Int} (h : i.natAbs < 2 ^ 1920) : i.natAbs.log2 < 1920 := by
  by_cases h0 : i.natAbs = 0
  · rw [h0]; decide
  · exact (Nat.log2_lt h0).mpr h
theorem divOk_pos {l : Int} (h1 : 0 < l) (h2 : l ≤ 1000000000000000000000000000000) : divOk l := ⟨h1, .inr (by
    have h1 : l.natAbs < 2 ^ 1920 := by omega
    have := log_small h1; omega)⟩
theorem mulOk_small {i j : Int} (h : -(2 ^ 64) < i ∧ i < 2 ^ 64) : mulOk i j := .inl (.inl h)
theorem mulOk_small' {i j : Int} (h : -(2 ^ 64) < j ∧ j < 2 ^ 64) : mulOk i j := .inl (.inr h)
theorem mulOk_big {i j : Int} (h1 : i.natAbs < 2 ^ 1920) (h2 : j.natAbs < 2 ^ 1920) : mulOk i j := .inr (by
    have := log_small h1; have := log_small h2; omega)
end L3
namespace Hu
open PySem L2 L3
theorem take_div {st : Sto} {n : Nat} {tot : Int} (hd : DieAt n st) (dt : divOk tot) : ∃ (k : Int) (st' : Sto), 0 ≤ k ∧ k < tot ∧ runDef 6 2 b_law_take [.loc n, .int tot] st = .ok (.int k) st' ∧ st'.length = st.length ∧ Step n st st' := by
  have h0 := dt.1
  obtain ⟨a, b, c, hn⟩ := id hd
  have hl := hd.lt
  have ix0 : ∀ {x y z : Int}, atI [D.int x, .int y, .int z] 0 = some (.int x) := atI_zero
  have ix1 : ∀ {x y z : Int}, atI [D.int x, .int y, .int z] 1 = some (.int y) := atI_one
  have ix2 : ∀ {x y z : Int}, atI [D.int x, .int y, .int z] 2 = some (.int z) := atI_two
  have nx0 : ixN 3 0 = some 0 := rfl
  have nx2 : ixN 3 2 = some 2 := rfl
  by_cases ha : 0 < a
  · refine ⟨a % tot, st.set n (.lst [.int (a / tot), .int b, .int c]), Int.emod_nonneg _ (by omega), Int.emod_lt_of_pos _ h0, ?_, by simp, Step.draw hd _ _ _⟩
    simp only [b_law_take, Int.cast_ofNat_Int, Nat.zero_add, Int.reduceEq, Int.reduceNe, Int.reduceLT, Int.reduceLE, Int.reduceGT, Int.reduceGE, Int.reduceAdd, Int.reduceSub, Int.reduceMul, Int.reduceNeg, Int.reduceMod, Int.reduceDiv, Nat.reduceLeDiff, slZ_tup, eqD_int, neD_int, eqD_bl, neD_bl, ixT0, ixT1, ixT2, ixF0, ixF1, ixF2, lenT, lenZ, addZ_frz, addZ_loc_frz, addL_loc_frz, beq_self_eq_true, runDef_eq, start3, finR, sSeq, sSet, sExpr, sRet, sRetN, sIf, sPar2, sAsg, sSetIx, sNil, RS.andThen_nx, RS.andThen_rt, RS.andThen_exn, R.toS_ok, R.toS_exn, kv, kc, k1, k2, kA0, kA1, kF, kM, kIf, kTr, kTb, tAnd3, tOr3, tNot3, kAndV, kOrV, kNotV, kChain, R.bind_ok, R.bind_exn, gN, gT, gs0, gs1, List.map_cons, List.map_nil, List.length_cons, List.length_nil, List.replicate, List.cons_append, List.nil_append, List.getElem?_cons_zero, List.getElem?_cons_succ, List.set_cons_zero, List.set_cons_succ, Nat.reduceAdd, Nat.reduceSub, if_true, if_false, Bool.false_eq_true, Bool.true_eq_false, reduceIte, Bool.not_true, Bool.not_false, Option.bind_some, decide_true, decide_false, frzF, tupF, listZ, addD, subD, mulD, fdivD, modD, cmpD, ltD, leD, gtD, geD, negD, absF, maxF, minF, intF, truD, strF, ixD_loc hn ix0, ha, h0, dt, setL_loc hn nx0]
  · have hs : (st.set n (.lst [.int a, .int b, .int (c + 1)]))[n]? = some (.lst [.int a, .int b, .int (c + 1)]) := by rw [List.getElem?_set_self hl]
    have e1 : ∀ x : Int, 0 ≤ x % 2305843009213693951 ∧ x % 2305843009213693951 < 2305843009213693951 := fun x => ⟨Int.emod_nonneg _ (by omega), Int.emod_lt_of_pos _ (by omega)⟩
    have e2 : ∀ x : Int, 0 ≤ x % 1000000000039 ∧ x % 1000000000039 < 1000000000039 := fun x => ⟨Int.emod_nonneg _ (by omega), Int.emod_lt_of_pos _ (by omega)⟩
    have m1 : ∀ x : Int, mulOk 1299709 x := fun x => .inl (.inl ⟨by decide, by decide⟩)
    have m2 : ∀ x : Int, mulOk 7919 x := fun x => .inl (.inl ⟨by decide, by decide⟩)
    have m3 : ∀ x y : Int, mulOk x (y % 2305843009213693951) := fun x y => .inl (.inr ⟨by have := e1 y; omega, by have := e1 y; omega⟩)
    have m4 : ∀ x y : Int, mulOk x (y % 1000000000039) := fun x y => .inl (.inr ⟨by have := e2 y; omega, by have := e2 y; omega⟩)
    have d1 : divOk 61 := ⟨by decide, .inl (by decide)⟩
    have p1 : (0 : Int) < 2305843009213693951 := by decide
    have p2 : (0 : Int) < 1000000000039 := by decide
    have p3 : (0 : Int) < 998244353 := by decide
    obtain ⟨z, hz⟩ : ∃ z : Int, runDef 6 2 b_law_take [D.loc n, D.int tot] st = .ok (.int (z % tot)) (st.set n (.lst [.int a, .int b, .int (c + 1)])) := by
      simp only [b_law_take, Int.cast_ofNat_Int, Nat.zero_add, Int.reduceEq, Int.reduceNe, Int.reduceLT, Int.reduceLE, Int.reduceGT, Int.reduceGE, Int.reduceAdd, Int.reduceSub, Int.reduceMul, Int.reduceNeg, Int.reduceMod, Int.reduceDiv, Nat.reduceLeDiff, slZ_tup, eqD_int, neD_int, eqD_bl, neD_bl, ixT0, ixT1, ixT2, ixF0, ixF1, ixF2, lenT, lenZ, addZ_frz, addZ_loc_frz, addL_loc_frz, beq_self_eq_true, runDef_eq, start3, finR, sSeq, sSet, sExpr, sRet, sRetN, sIf, sPar2, sAsg, sSetIx, sNil, RS.andThen_nx, RS.andThen_rt, RS.andThen_exn, R.toS_ok, R.toS_exn, kv, kc, k1, k2, kA0, kA1, kF, kM, kIf, kTr, kTb, tAnd3, tOr3, tNot3, kAndV, kOrV, kNotV, kChain, R.bind_ok, R.bind_exn, gN, gT, gs0, gs1, List.map_cons, List.map_nil, List.length_cons, List.length_nil, List.replicate, List.cons_append, List.nil_append, List.getElem?_cons_zero, List.getElem?_cons_succ, List.set_cons_zero, List.set_cons_succ, Nat.reduceAdd, Nat.reduceSub, if_true, if_false, Bool.false_eq_true, Bool.true_eq_false, reduceIte, Bool.not_true, Bool.not_false, Option.bind_some, decide_true, decide_false, frzF, tupF, listZ, addD, subD, mulD, fdivD, modD, cmpD, ltD, leD, gtD, geD, negD, absF, maxF, minF, intF, truD, strF, ixD_loc hn ix0, ixD_loc hn ix2, ixD_loc hs ix1, ixD_loc hs ix2, ha, h0, setL_loc hn nx2, m1, m2, m3, m4, d1, p1, p2, p3]
      exact ⟨_, rfl⟩
    exact ⟨z % tot, _, Int.emod_nonneg _ (by omega), Int.emod_lt_of_pos _ h0, hz, by simp, Step.draw hd _ _ _⟩
theorem take_ok : CastS (runDef 6 2 b_law_take) := fun st n tot hd h0 h1 => take_div hd ⟨h0, .inl h1⟩
theorem one_ok {rc : L3.Run} (hc : CastS rc) : PickS (runDef 2 2 (b_law_one rc)) := by
  intro st n it xs hd hs hm hne hl
  have hpos : 0 < xs.length := List.length_pos_iff.mpr hne
  obtain ⟨k, st1, h0, h1, hr, hlen, hstep⟩ := hc st n xs.length hd (by omega) (by omega)
  have hs1 := seqD_step hstep hm hs
  obtain ⟨y, hy, hix⟩ := ixD_seq hs1 h0 h1
  refine ⟨y, st1, List.mem_of_getElem? hy, ?_, hlen, hstep⟩
  simp only [b_law_one, Int.cast_ofNat_Int, Nat.zero_add, Int.reduceEq, Int.reduceNe, Int.reduceLT, Int.reduceLE, Int.reduceGT, Int.reduceGE, Int.reduceAdd, Int.reduceSub, Int.reduceMul, Int.reduceNeg, Int.reduceMod, Int.reduceDiv, Nat.reduceLeDiff, slZ_tup, eqD_int, neD_int, eqD_bl, neD_bl, ixT0, ixT1, ixT2, ixF0, ixF1, ixF2, lenT, lenZ, addZ_frz, addZ_loc_frz, addL_loc_frz, beq_self_eq_true, runDef_eq, start3, finR, sSeq, sSet, sExpr, sRet, sRetN, sIf, sPar2, sAsg, sSetIx, sNil, RS.andThen_nx, RS.andThen_rt, RS.andThen_exn, R.toS_ok, R.toS_exn, kv, kc, k1, k2, kA0, kA1, kF, kM, kIf, kTr, kTb, tAnd3, tOr3, tNot3, kAndV, kOrV, kNotV, kChain, R.bind_ok, R.bind_exn, gN, gT, gs0, gs1, List.map_cons, List.map_nil, List.length_cons, List.length_nil, List.replicate, List.cons_append, List.nil_append, List.getElem?_cons_zero, List.getElem?_cons_succ, List.set_cons_zero, List.set_cons_succ, Nat.reduceAdd, Nat.reduceSub, if_true, if_false, Bool.false_eq_true, Bool.true_eq_false, reduceIte, Bool.not_true, Bool.not_false, Option.bind_some, decide_true, decide_false, lenF_seq hs, hr, hix]
theorem urn_ok : NumsS (runDef 5 2 b_law_urn) := by
  intro st ns k hk
  have hp1 : ∀ st : Sto, powD (.int 10) (.int 60) st = .ok (.int (10 ^ (60 : Int).toNat)) st := fun st => pow_ok (by decide +kernel)
  have hp2 : ∀ st : Sto, powD (.int (10 ^ (60 : Int).toNat)) (.int 9) st = .ok (.int ((10 ^ (60 : Int).toNat) ^ (9 : Int).toNat)) st := fun st => pow_ok (by decide +kernel)
  have hp3 : ∀ st : Sto, powD (.int 10) (.int 17) st = .ok (.int (10 ^ (17 : Int).toNat)) st := fun st => pow_ok (by decide +kernel)
  have hpos : (0 : Int) < (10 ^ (60 : Int).toNat) ^ (9 : Int).toNat := by decide +kernel
  generalize ((10 : Int) ^ (60 : Int).toNat) = P at hp1 hp2 hpos
  generalize P ^ (9 : Int).toNat = M at hp2 hpos
  generalize ((10 : Int) ^ (17 : Int).toNat) = Q at hp3
  have m1 : ∀ x : Int, mulOk x 104651 := fun x => .inl (.inr ⟨by decide, by decide⟩)
  have m2 : ∀ x : Int, mulOk 15331 x := fun x => .inl (.inl ⟨by decide, by decide⟩)
  have m3 : ∀ x : Int, mulOk 43 x := fun x => .inl (.inl ⟨by decide, by decide⟩)
  have m4 : ∀ x : Int, mulOk 83 x := fun x => .inl (.inl ⟨by decide, by decide⟩)
  have p1 : (0 : Int) < 2305843009213693921 := by decide
  have hz : (3 : Nat) ≤ 16777216 := by decide
  have cell : ∃ c : Int, (kIf (kTb (k2 ltD (kv 1) (kF lenF (kA1 (kv 0) kA0)))) (k2 ixD (kv 0) (kv 1)) (k2 addD (k2 mulD (kc (.int 83)) (kv 1)) (kc (.int 37)))) [some (.frz (ns.map D.int)), some (.int k), none, none, none] st = .ok (.int c) st := by
    by_cases h : k < ns.length
    · have hk2 : k.toNat < ns.length := by omega
      have e : atI (ns.map D.int) k = some (.int ns[k.toNat]) := by
        rw [atI_lt hk (by simpa using h)]
        simp
      refine ⟨ns[k.toNat], ?_⟩
      simp only [Int.cast_ofNat_Int, Nat.zero_add, Int.reduceEq, Int.reduceNe, Int.reduceLT, Int.reduceLE, Int.reduceGT, Int.reduceGE, Int.reduceAdd, Int.reduceSub, Int.reduceMul, Int.reduceNeg, Int.reduceMod, Int.reduceDiv, Nat.reduceLeDiff, slZ_tup, eqD_int, neD_int, eqD_bl, neD_bl, ixT0, ixT1, ixT2, ixF0, ixF1, ixF2, lenT, lenZ, addZ_frz, addZ_loc_frz, addL_loc_frz, beq_self_eq_true, runDef_eq, start3, finR, sSeq, sSet, sExpr, sRet, sRetN, sIf, sPar2, sAsg, sSetIx, sNil, RS.andThen_nx, RS.andThen_rt, RS.andThen_exn, R.toS_ok, R.toS_exn, kv, kc, k1, k2, kA0, kA1, kF, kM, kIf, kTr, kTb, tAnd3, tOr3, tNot3, kAndV, kOrV, kNotV, kChain, R.bind_ok, R.bind_exn, gN, gT, gs0, gs1, List.map_cons, List.map_nil, List.length_cons, List.length_nil, List.replicate, List.cons_append, List.nil_append, List.getElem?_cons_zero, List.getElem?_cons_succ, List.set_cons_zero, List.set_cons_succ, Nat.reduceAdd, Nat.reduceSub, if_true, if_false, Bool.false_eq_true, Bool.true_eq_false, reduceIte, Bool.not_true, Bool.not_false, Option.bind_some, decide_true, decide_false, frzF, listZ, addD, subD, mulD, fdivD, modD, cmpD, ltD, leD, gtD, geD, negD, lenF, absF, maxF, minF, intF, reprF, listF, tupleF, tupF, lstF, truD, tyD, List.length_map, h, ixD_frz e]
    · refine ⟨83 * k + 37, ?_⟩
      simp only [Int.cast_ofNat_Int, Nat.zero_add, Int.reduceEq, Int.reduceNe, Int.reduceLT, Int.reduceLE, Int.reduceGT, Int.reduceGE, Int.reduceAdd, Int.reduceSub, Int.reduceMul, Int.reduceNeg, Int.reduceMod, Int.reduceDiv, Nat.reduceLeDiff, slZ_tup, eqD_int, neD_int, eqD_bl, neD_bl, ixT0, ixT1, ixT2, ixF0, ixF1, ixF2, lenT, lenZ, addZ_frz, addZ_loc_frz, addL_loc_frz, beq_self_eq_true, runDef_eq, start3, finR, sSeq, sSet, sExpr, sRet, sRetN, sIf, sPar2, sAsg, sSetIx, sNil, RS.andThen_nx, RS.andThen_rt, RS.andThen_exn, R.toS_ok, R.toS_exn, kv, kc, k1, k2, kA0, kA1, kF, kM, kIf, kTr, kTb, tAnd3, tOr3, tNot3, kAndV, kOrV, kNotV, kChain, R.bind_ok, R.bind_exn, gN, gT, gs0, gs1, List.map_cons, List.map_nil, List.length_cons, List.length_nil, List.replicate, List.cons_append, List.nil_append, List.getElem?_cons_zero, List.getElem?_cons_succ, List.set_cons_zero, List.set_cons_succ, Nat.reduceAdd, Nat.reduceSub, if_true, if_false, Bool.false_eq_true, Bool.true_eq_false, reduceIte, Bool.not_true, Bool.not_false, Option.bind_some, decide_true, decide_false, frzF, listZ, addD, subD, mulD, fdivD, modD, cmpD, ltD, leD, gtD, geD, negD, lenF, absF, maxF, minF, intF, reprF, listF, tupleF, tupF, lstF, truD, tyD, List.length_map, h, m4]
  obtain ⟨c, hc⟩ := cell
  simp only [runDef_eq, Nat.reduceAdd, Nat.reduceSub, start3, b_law_urn, List.map_cons, List.map_nil, List.length_cons, List.length_nil, List.replicate, List.cons_append, List.nil_append, sSeq, sSet]
  rw [hc]
  simp only [Int.cast_ofNat_Int, Nat.zero_add, Int.reduceEq, Int.reduceNe, Int.reduceLT, Int.reduceLE, Int.reduceGT, Int.reduceGE, Int.reduceAdd, Int.reduceSub, Int.reduceMul, Int.reduceNeg, Int.reduceMod, Int.reduceDiv, Nat.reduceLeDiff, slZ_tup, eqD_int, neD_int, eqD_bl, neD_bl, ixT0, ixT1, ixT2, ixF0, ixF1, ixF2, lenT, lenZ, addZ_frz, addZ_loc_frz, addL_loc_frz, beq_self_eq_true, runDef_eq, start3, finR, sSeq, sSet, sExpr, sRet, sRetN, sIf, sPar2, sAsg, sSetIx, sNil, RS.andThen_nx, RS.andThen_rt, RS.andThen_exn, R.toS_ok, R.toS_exn, kv, kc, k1, k2, kA0, kA1, kF, kM, kIf, kTr, kTb, tAnd3, tOr3, tNot3, kAndV, kOrV, kNotV, kChain, R.bind_ok, R.bind_exn, gN, gT, gs0, gs1, List.map_cons, List.map_nil, List.length_cons, List.length_nil, List.replicate, List.cons_append, List.nil_append, List.getElem?_cons_zero, List.getElem?_cons_succ, List.set_cons_zero, List.set_cons_succ, Nat.reduceAdd, Nat.reduceSub, if_true, if_false, Bool.false_eq_true, Bool.true_eq_false, reduceIte, Bool.not_true, Bool.not_false, Option.bind_some, decide_true, decide_false, frzF, listZ, addD, subD, mulD, fdivD, modD, cmpD, ltD, leD, gtD, geD, negD, lenF, absF, maxF, minF, intF, reprF, listF, tupleF, tupF, lstF, truD, tyD, hp1, hp2, hp3, hpos, m1, m2, m3, p1, hz]
  exact ⟨_, _, rfl⟩
end Hu

namespace L3
open PySem L2
/-- a number that is taken -/
theorem CastS.get {r : L3.Run} (h : CastS r) {st : Sto} {n : Nat} (hd : DieAt n st) {tot : Int} (h0 : 0 < tot) (h1 : tot < 1073741824) : ∃ (k : Int) (st' : Sto), 0 ≤ k ∧ k < tot ∧ r [.loc n, .int tot] st = .ok (.int k) st' ∧ Step n st st' := by
  obtain ⟨k, st', a, b, c, _, d⟩ := h st n tot hd h0 h1
  exact ⟨k, st', a, b, c, d⟩
/-- a small size -/
structure Sm (m w h l : Int) : Prop where
  l1 : 2 ≤ l
  l2 : l ≤ 5
  w1 : 1 ≤ w
  h1 : 1 ≤ h
  w2 : w ≤ 20
  h2 : h ≤ 20
  c : w * h ≤ m
theorem Sm.sz {m w h l : Int} (s : Sm m w h l) : Sz w h l := ⟨s.w1, by have := s.w2; omega, s.h1, by have := s.h2; omega, s.l1, by have := s.l2; omega⟩
theorem le_mul_of_le_div {a b c : Int} (hb : 0 < b) (h : a ≤ c / b) : b * a ≤ c := by
  rw [Int.mul_comm]; exact (Int.le_ediv_iff_mul_le hb).mp h
end L3
namespace Hu
open PySem L2 L3
theorem small_ok {ro rt : L3.Run} (ho : PickS ro) (ht : CastS rt) {m : Int} (m1 : 1 ≤ m) (m2 : m ≤ 1000) {st : Sto} {n : Nat} (hd : DieAt n st) :
    ∃ (w h l : Int) (st' : Sto), runDef 5 2 (b_law_small ro rt) [.loc n, .int m] st = .ok (sz w h l) st' ∧ Step n st st' ∧ Sm m w h l := by
  obtain ⟨y1, s1, g1, e1, _, t1⟩ := ho.frz hd [.int 2, .int 2, .int 3, .int 2, .int 4, .int 3, .int 5] (by simp) (by simp)
  obtain ⟨l, rfl, l1, l2⟩ : ∃ l : Int, y1 = .int l ∧ 2 ≤ l ∧ l ≤ 5 := by
    simp only [List.mem_cons, List.not_mem_nil, or_false] at g1
    rcases g1 with rfl | rfl | rfl | rfl | rfl | rfl | rfl <;> exact ⟨_, rfl, by omega, by omega⟩
  obtain ⟨a, s2, a0, a1, e2, t2⟩ := ht.get t1.die (tot := 3 * l + 2) (by omega) (by omega)
  obtain ⟨b, s3, b0, b1, e3, t3⟩ := ht.get t2.die (tot := 3) (by omega) (by omega)
  have q1 : ∀ x, mulOk 3 x := fun x => mulOk_small (by decide)
  have q2 : ∀ x, mulOk l x := fun x => mulOk_small (by omega)
  obtain ⟨x, s4, x1, x2, t4, ex⟩ : ∃ (x : Int) (s4 : Sto), 1 ≤ x ∧ x ≤ 20 ∧ Step n s3 s4 ∧ (sIf (kTb (k2 gtD (kF rt (kA1 (kv 0) (kA1 (kc (.int 3)) kA0))) (kc (.int 0)))) (sSet 3 (k2 mulD (kv 2) (k2 addD (kc (.int 1)) (kF rt (kA1 (kv 0) (kA1 (kc (.int 4)) kA0)))))) sNil) [some (.loc n), some (.int m), some (.int l), some (.int (1 + a)), none] s2
      = .nx [some (.loc n), some (.int m), some (.int l), some (.int x), none] s4 := by
    by_cases hb : 0 < b
    · obtain ⟨c, s4, c0, c1, e4, t4⟩ := ht.get t3.die (tot := 4) (by omega) (by omega)
      have q3 : l * (1 + c) ≤ 5 * 4 := Int.mul_le_mul (by omega) (by omega) (by omega) (by omega)
      have q4 : 1 * 1 ≤ l * (1 + c) := Int.mul_le_mul (by omega) (by omega) (by omega) (by omega)
      exact ⟨l * (1 + c), s4, by omega, by omega, t4, by simp only [Int.cast_ofNat_Int, Nat.zero_add, Int.reduceEq, Int.reduceNe, Int.reduceLT, Int.reduceLE, Int.reduceGT, Int.reduceGE, Int.reduceAdd, Int.reduceSub, Int.reduceMul, Int.reduceNeg, Int.reduceMod, Int.reduceDiv, Nat.reduceLeDiff, slZ_tup, eqD_int, neD_int, eqD_bl, neD_bl, ixT0, ixT1, ixT2, ixF0, ixF1, ixF2, lenT, lenZ, addZ_frz, addZ_loc_frz, addL_loc_frz, beq_self_eq_true, runDef_eq, start3, finR, sSeq, sSet, sExpr, sRet, sRetN, sIf, sPar2, sAsg, sSetIx, sNil, RS.andThen_nx, RS.andThen_rt, RS.andThen_exn, R.toS_ok, R.toS_exn, kv, kc, k1, k2, kA0, kA1, kF, kM, kIf, kTr, kTb, tAnd3, tOr3, tNot3, kAndV, kOrV, kNotV, kChain, R.bind_ok, R.bind_exn, gN, gT, gs0, gs1, List.map_cons, List.map_nil, List.length_cons, List.length_nil, List.replicate, List.cons_append, List.nil_append, List.getElem?_cons_zero, List.getElem?_cons_succ, List.set_cons_zero, List.set_cons_succ, Nat.reduceAdd, Nat.reduceSub, if_true, if_false, Bool.false_eq_true, Bool.true_eq_false, reduceIte, Bool.not_true, Bool.not_false, Option.bind_some, decide_true, decide_false, frzF, tupF, listZ, addD, subD, mulD, fdivD, modD, cmpD, ltD, leD, gtD, geD, negD, absF, maxF, minF, intF, truD, strF, e3, hb, e4, q2]⟩
    · exact ⟨1 + a, s3, by omega, by omega, .refl t3.die, by simp only [Int.cast_ofNat_Int, Nat.zero_add, Int.reduceEq, Int.reduceNe, Int.reduceLT, Int.reduceLE, Int.reduceGT, Int.reduceGE, Int.reduceAdd, Int.reduceSub, Int.reduceMul, Int.reduceNeg, Int.reduceMod, Int.reduceDiv, Nat.reduceLeDiff, slZ_tup, eqD_int, neD_int, eqD_bl, neD_bl, ixT0, ixT1, ixT2, ixF0, ixF1, ixF2, lenT, lenZ, addZ_frz, addZ_loc_frz, addL_loc_frz, beq_self_eq_true, runDef_eq, start3, finR, sSeq, sSet, sExpr, sRet, sRetN, sIf, sPar2, sAsg, sSetIx, sNil, RS.andThen_nx, RS.andThen_rt, RS.andThen_exn, R.toS_ok, R.toS_exn, kv, kc, k1, k2, kA0, kA1, kF, kM, kIf, kTr, kTb, tAnd3, tOr3, tNot3, kAndV, kOrV, kNotV, kChain, R.bind_ok, R.bind_exn, gN, gT, gs0, gs1, List.map_cons, List.map_nil, List.length_cons, List.length_nil, List.replicate, List.cons_append, List.nil_append, List.getElem?_cons_zero, List.getElem?_cons_succ, List.set_cons_zero, List.set_cons_succ, Nat.reduceAdd, Nat.reduceSub, if_true, if_false, Bool.false_eq_true, Bool.true_eq_false, reduceIte, Bool.not_true, Bool.not_false, Option.bind_some, decide_true, decide_false, frzF, tupF, listZ, addD, subD, mulD, fdivD, modD, cmpD, ltD, leD, gtD, geD, negD, absF, maxF, minF, intF, truD, strF, e3, hb]⟩
  obtain ⟨w, hw⟩ : ∃ w : Int, w = (if m < x then m else x) := ⟨_, rfl⟩
  have w1 : 1 ≤ w := by rw [hw]; split <;> omega
  have w2 : w ≤ 20 := by rw [hw]; split <;> omega
  have w3 : w ≤ m := by rw [hw]; split <;> omega
  have dw : divOk w := divOk_pos (by omega) (by omega)
  obtain ⟨v, hv⟩ : ∃ v : Int, v = m / w := ⟨_, rfl⟩
  have v1 : 1 ≤ v := by rw [hv]; exact (Int.le_ediv_iff_mul_le (by omega)).mpr (by omega)
  obtain ⟨u, hu⟩ : ∃ u : Int, u = (if v < 3 * l + 2 then v else 3 * l + 2) := ⟨_, rfl⟩
  obtain ⟨u', hu'⟩ : ∃ u' : Int, u' = (if u > 1 then u else 1) := ⟨_, rfl⟩
  have u1 : 1 ≤ u' ∧ u' ≤ v ∧ u' ≤ 17 := by rw [hu', hu]; split <;> split <;> omega
  obtain ⟨c, s5, c0, c1, e5, t5⟩ := ht.get t4.die (tot := u') (by omega) (by omega)
  obtain ⟨d, s6, d0, d1, e6, t6⟩ := ht.get t5.die (tot := 2) (by omega) (by omega)
  have hc : w * (1 + c) ≤ m := le_mul_of_le_div (by omega) (by rw [← hv]; omega)
  have tt := ((((t1.trans t2).trans t3).trans t4).trans t5).trans t6
  have run : runDef 5 2 (b_law_small ro rt) [.loc n, .int m] st = .ok (if d = 0 then sz w (1 + c) l else sz (1 + c) w l) s6 := by
    simp only [runDef_eq, b_law_small, List.length_cons, List.length_nil, Nat.reduceAdd]
    generalize hS : (sIf (kTb (k2 gtD (kF rt (kA1 (kv 0) (kA1 (kc (.int 3)) kA0))) (kc (.int 0)))) (sSet 3 (k2 mulD (kv 2) (k2 addD (kc (.int 1)) (kF rt (kA1 (kv 0) (kA1 (kc (.int 4)) kA0)))))) sNil) = S at ex ⊢
    simp only [Int.cast_ofNat_Int, Nat.zero_add, Int.reduceEq, Int.reduceNe, Int.reduceLT, Int.reduceLE, Int.reduceGT, Int.reduceGE, Int.reduceAdd, Int.reduceSub, Int.reduceMul, Int.reduceNeg, Int.reduceMod, Int.reduceDiv, Nat.reduceLeDiff, slZ_tup, eqD_int, neD_int, eqD_bl, neD_bl, ixT0, ixT1, ixT2, ixF0, ixF1, ixF2, lenT, lenZ, addZ_frz, addZ_loc_frz, addL_loc_frz, beq_self_eq_true, runDef_eq, start3, finR, sSeq, sSet, sExpr, sRet, sRetN, sIf, sPar2, sAsg, sSetIx, sNil, RS.andThen_nx, RS.andThen_rt, RS.andThen_exn, R.toS_ok, R.toS_exn, kv, kc, k1, k2, kA0, kA1, kF, kM, kIf, kTr, kTb, tAnd3, tOr3, tNot3, kAndV, kOrV, kNotV, kChain, R.bind_ok, R.bind_exn, gN, gT, gs0, gs1, List.map_cons, List.map_nil, List.length_cons, List.length_nil, List.replicate, List.cons_append, List.nil_append, List.getElem?_cons_zero, List.getElem?_cons_succ, List.set_cons_zero, List.set_cons_succ, Nat.reduceAdd, Nat.reduceSub, if_true, if_false, Bool.false_eq_true, Bool.true_eq_false, reduceIte, Bool.not_true, Bool.not_false, Option.bind_some, decide_true, decide_false, frzF, tupF, listZ, addD, subD, mulD, fdivD, modD, cmpD, ltD, leD, gtD, geD, negD, absF, maxF, minF, intF, truD, strF, e1, e2, q1, ex, ← hw, dw, ← hv, ← hu, ← hu', e5, e6]
    by_cases hd0 : d = 0
    · simp only [hd0, Int.cast_ofNat_Int, Nat.zero_add, Int.reduceEq, Int.reduceNe, Int.reduceLT, Int.reduceLE, Int.reduceGT, Int.reduceGE, Int.reduceAdd, Int.reduceSub, Int.reduceMul, Int.reduceNeg, Int.reduceMod, Int.reduceDiv, Nat.reduceLeDiff, slZ_tup, eqD_int, neD_int, eqD_bl, neD_bl, ixT0, ixT1, ixT2, ixF0, ixF1, ixF2, lenT, lenZ, addZ_frz, addZ_loc_frz, addL_loc_frz, beq_self_eq_true, runDef_eq, start3, finR, sSeq, sSet, sExpr, sRet, sRetN, sIf, sPar2, sAsg, sSetIx, sNil, RS.andThen_nx, RS.andThen_rt, RS.andThen_exn, R.toS_ok, R.toS_exn, kv, kc, k1, k2, kA0, kA1, kF, kM, kIf, kTr, kTb, tAnd3, tOr3, tNot3, kAndV, kOrV, kNotV, kChain, R.bind_ok, R.bind_exn, gN, gT, gs0, gs1, List.map_cons, List.map_nil, List.length_cons, List.length_nil, List.replicate, List.cons_append, List.nil_append, List.getElem?_cons_zero, List.getElem?_cons_succ, List.set_cons_zero, List.set_cons_succ, Nat.reduceAdd, Nat.reduceSub, if_true, if_false, Bool.false_eq_true, Bool.true_eq_false, reduceIte, Bool.not_true, Bool.not_false, Option.bind_some, decide_true, decide_false, frzF, tupF, listZ, addD, subD, mulD, fdivD, modD, cmpD, ltD, leD, gtD, geD, negD, absF, maxF, minF, intF, truD, strF]
    · simp only [hd0, Int.cast_ofNat_Int, Nat.zero_add, Int.reduceEq, Int.reduceNe, Int.reduceLT, Int.reduceLE, Int.reduceGT, Int.reduceGE, Int.reduceAdd, Int.reduceSub, Int.reduceMul, Int.reduceNeg, Int.reduceMod, Int.reduceDiv, Nat.reduceLeDiff, slZ_tup, eqD_int, neD_int, eqD_bl, neD_bl, ixT0, ixT1, ixT2, ixF0, ixF1, ixF2, lenT, lenZ, addZ_frz, addZ_loc_frz, addL_loc_frz, beq_self_eq_true, runDef_eq, start3, finR, sSeq, sSet, sExpr, sRet, sRetN, sIf, sPar2, sAsg, sSetIx, sNil, RS.andThen_nx, RS.andThen_rt, RS.andThen_exn, R.toS_ok, R.toS_exn, kv, kc, k1, k2, kA0, kA1, kF, kM, kIf, kTr, kTb, tAnd3, tOr3, tNot3, kAndV, kOrV, kNotV, kChain, R.bind_ok, R.bind_exn, gN, gT, gs0, gs1, List.map_cons, List.map_nil, List.length_cons, List.length_nil, List.replicate, List.cons_append, List.nil_append, List.getElem?_cons_zero, List.getElem?_cons_succ, List.set_cons_zero, List.set_cons_succ, Nat.reduceAdd, Nat.reduceSub, if_true, if_false, Bool.false_eq_true, Bool.true_eq_false, reduceIte, Bool.not_true, Bool.not_false, Option.bind_some, decide_true, decide_false, frzF, tupF, listZ, addD, subD, mulD, fdivD, modD, cmpD, ltD, leD, gtD, geD, negD, absF, maxF, minF, intF, truD, strF]
  by_cases hd0 : d = 0
  · rw [if_pos hd0] at run
    exact ⟨_, _, _, s6, run, tt, l1, l2, w1, by omega, w2, by omega, hc⟩
  · rw [if_neg hd0] at run
    exact ⟨_, _, _, s6, run, tt, l1, l2, by omega, w1, by omega, w2, by rw [Int.mul_comm]; exact hc⟩
end Hu

namespace L3
open PySem L2
theorem Step.setNew {n m : Nat} {st s : Sto} (h : Step n st s) (hm : st.length ≤ m) (hn : m ≠ n) (o : O) : Step n st (s.set m o) :=
  ⟨fun k u hk q => by rw [List.getElem?_set_ne (by have := (List.getElem?_eq_some_iff.mp q).1; omega)]; exact h.keep k u hk q, by
    obtain ⟨a, b, c, e⟩ := h.die
    exact ⟨a, b, c, by rw [List.getElem?_set_ne hn]; exact e⟩, by simpa using h.len⟩
theorem iR1_lit {ρ : Env3} {st : Sto} {T : Nat} {j : Int} (hj : j = T) (h : T < 1000) : iR1 (kA1 (kc (.int j)) kA0) ρ st = .ok (.its (rngIts 0 T)) st := by
  subst hj
  exact it_rng1 h
theorem sort2 {a b : Int} : sortIs [a, b] = if a ≤ b then [a, b] else [b, a] := by
  unfold sortIs
  split
  · exact List.mergeSort_of_pairwise (by simp; assumption)
  · rename_i h
    refine (List.mergeSort_perm [a, b] _ |>.trans (List.Perm.swap b a [])).eq_of_pairwise (le := fun a b => a ≤ b) (fun a b _ _ h1 h2 => by omega) ?_ (by simp; omega)
    have := List.pairwise_mergeSort (le := fun a b : Int => decide (a ≤ b)) (fun a b c h1 h2 => by simp only [decide_eq_true_eq] at *; omega) (fun a b => by simp only [Bool.or_eq_true, decide_eq_true_eq]; omega) [a, b]
    exact this.imp fun h => of_decide_eq_true h
theorem eqD_frz2 {a b c d : Int} {st : Sto} : eqD (.frz [.int a, .int b]) (.frz [.int c, .int d]) st = .ok (.bl (decide (a = c) && decide (b = d))) st := by
  have p : ∀ a b : Int, pd st 40 (.frz [.int a, .int b]) = some (.list [.int a, .int b]) := fun _ _ => rfl
  have s : ∀ a b : Int, SeqAt.shaped (.list [.int a, .int b]) = true := fun a b => by simp [SeqAt.shaped, PyData.canLay0, PyData.canLayAll0, PyData.depth, PyData.depthAll]
  simp only [eqD, p]
  rw [if_pos ⟨s _ _, s _ _⟩]
  simp only [PyData.eqv, PyData.eqvAll, Bool.and_true]
  rfl
/-- one bar -/
def oneB (w h l : Int) : Bool := decide ((w = 1 ∧ h = l) ∨ (w = l ∧ h = 1))
/-- a great size's length -/
def grLs : List Int := [2, 3, 4, 7, 10, 2, 3, 1000, 1000000007, 100000000000000000000, 100000000000000000000000000003]
end L3
namespace Hu
open PySem L2 L3
theorem great_ok {ro : L3.Run} (ho : PickS ro) {st : Sto} {n : Nat} (hd : DieAt n st) :
    ∃ (w h l : Int) (st' : Sto), runDef 7 1 (b_law_great ro) [.loc n] st = .ok (sz w h l) st' ∧ Step n st st' ∧ Sz w h l ∧ l ∈ grLs := by
  have p9 : ∀ st : Sto, powD (.int 10) (.int 9) st = .ok (.int 1000000000) st := fun st => pow_ok (by decide +kernel)
  have p6 : ∀ st : Sto, powD (.int 10) (.int 6) st = .ok (.int 1000000) st := fun st => pow_ok (by decide +kernel)
  have p20 : ∀ st : Sto, powD (.int 10) (.int 20) st = .ok (.int 100000000000000000000) st := fun st => pow_ok (by decide +kernel)
  have p29 : ∀ st : Sto, powD (.int 10) (.int 29) st = .ok (.int 100000000000000000000000000000) st := fun st => pow_ok (by decide +kernel)
  have p30 : ∀ st : Sto, powD (.int 10) (.int 30) st = .ok (.int 1000000000000000000000000000000) st := fun st => pow_ok (by decide +kernel)
  obtain ⟨y1, s1, g1, e1, _, t1⟩ := ho.frz hd [.int 2, .int 3, .int 4, .int 7, .int 10, .int 2, .int 3, .int 1000, .int 1000000007, .int 100000000000000000000, .int 100000000000000000000000000003] (by simp) (by simp)
  obtain ⟨l, rfl, l1, l2, lm⟩ : ∃ l : Int, y1 = .int l ∧ 2 ≤ l ∧ l ≤ 100000000000000000000000000003 ∧ l ∈ grLs := by
    have : y1 ∈ grLs.map D.int := g1
    obtain ⟨l, hl, rfl⟩ := List.mem_map.mp this
    refine ⟨l, rfl, ?_, ?_, hl⟩
    · have h : ∀ l ∈ grLs, (2 : Int) ≤ l := by decide
      exact h l hl
    · have h : ∀ l ∈ grLs, l ≤ (100000000000000000000000000003 : Int) := by decide
      exact h l hl
  have dl : divOk l := divOk_pos (by omega) (by omega)
  obtain ⟨M, hM⟩ : ∃ M : Int, M = 1000000000000000000000000000000 / l := ⟨_, rfl⟩
  have M1 : 1 ≤ M := by rw [hM]; exact (Int.le_ediv_iff_mul_le (by omega)).mpr (by omega)
  have M2 : M ≤ 1000000000000000000000000000000 := by rw [hM]; exact Int.ediv_le_self _ (by omega)
  have d3 : divOk 3 := ⟨by decide, .inl (by decide)⟩
  have d2 : divOk 2 := ⟨by decide, .inl (by decide)⟩
  have v3 : 0 ≤ M / 3 ∧ M / 3 ≤ M := ⟨Int.ediv_nonneg (by omega) (by omega), Int.ediv_le_self _ (by omega)⟩
  have v2 : 0 ≤ l / 2 ∧ l / 2 ≤ l := ⟨Int.ediv_nonneg (by omega) (by omega), Int.ediv_le_self _ (by omega)⟩
  have hn1 := t1.die.lt
  obtain ⟨s2, hs2⟩ : ∃ s2, s1 ++ [O.lst []] = s2 := ⟨_, rfl⟩
  have t2 : Step n s1 s2 := by rw [← hs2]; exact Step.grow t1.die _
  have a2 : s2[s1.length]? = some (.lst (([] : List Int).map D.int)) := by rw [← hs2, stA0]; rfl
  obtain ⟨B, hB⟩ : ∃ B, (sSeq (sSet 5 (kF ro (kA1 (kv 0) (kA1 (kF frzF (kA1 (kc (.int 1)) (kA1 (kc (.int 2)) (kA1 (kc (.int 3)) (kA1 (kc (.int 4)) (kA1 (k2 powD (kc (.int 10)) (kc (.int 6))) (kA1 (k2 subD (kv 2) (kc (.int 1))) (kA1 (k2 fdivD (kv 2) (kc (.int 3))) kA0)))))))) kA0))))
    (sSeq (sSet 6 (kF ro (kA1 (kv 0) (kA1 (kF frzF (kA1 (kc (.int 0)) (kA1 (kc (.int 0)) (kA1 (kc (.int 1)) (kA1 (k2 subD (kv 1) (kc (.int 1))) (kA1 (k2 fdivD (kv 1) (kc (.int 2))) kA0)))))) kA0))))
    (sExpr (kM (tyD "list") appendM (kv 3) (kA1 (kF maxF (kA1 (kc (.int 1)) (kA1 (kF minF (kA1 (k2 powD (kc (.int 10)) (kc (.int 30))) (kA1 (k2 addD (k2 mulD (kF minF (kA1 (kv 5) (kA1 (kv 2) kA0))) (kv 1)) (kv 6)) kA0))) kA0))) kA0))))) = B := ⟨_, rfl⟩
  obtain ⟨ρ', s3, q1, q2, ⟨x4, x5, x6, q3⟩, is, q4, q5, q6⟩ := for_inv (g := gN 4) (body := B) (src := .its (rngIts 0 2)) (xs := rngIts 0 2)
    (fun i ρ s => Step n s1 s ∧ (∃ a b c, ρ = [some (.loc n), some (.int l), some (.int M), some (.loc s1.length), a, b, c]) ∧ ∃ is : List Int, s[s1.length]? = some (.lst (is.map D.int)) ∧ is.length = i ∧ ∀ x ∈ is, 1 ≤ x ∧ x ≤ 1000000000000000000000000000000) (fun i ρ s h => rfl)
    (fun i x ρ s hx ⟨q, ⟨a, b, c, hρ⟩, is, ha, hi, hb⟩ => by
      subst hρ
      have i2 : i < 2 := by have := (List.getElem?_eq_some_iff.mp hx).1; unfold rngIts at this; simpa using this
      obtain ⟨y, sa, ga, ea, _, ta⟩ := ho.frz q.die [.int 1, .int 2, .int 3, .int 4, .int 1000000, .int (M - 1), .int (M / 3)] (by simp) (by simp)
      obtain ⟨tm, rfl, tm1, tm2⟩ : ∃ k : Int, y = .int k ∧ 0 ≤ k ∧ k ≤ 1000000000000000000000000000000 := by
        simp only [List.mem_cons, List.not_mem_nil, or_false] at ga
        rcases ga with rfl | rfl | rfl | rfl | rfl | rfl | rfl <;> exact ⟨_, rfl, by omega, by omega⟩
      obtain ⟨y, sb, gb, eb, _, tb⟩ := ho.frz ta.die [.int 0, .int 0, .int 1, .int (l - 1), .int (l / 2)] (by simp) (by simp)
      obtain ⟨mo, rfl, mo1⟩ : ∃ k : Int, y = .int k ∧ 0 ≤ k := by
        simp only [List.mem_cons, List.not_mem_nil, or_false] at gb
        rcases gb with rfl | rfl | rfl | rfl | rfl <;> exact ⟨_, rfl, by omega⟩
      obtain ⟨u, hu⟩ : ∃ u : Int, u = (if M < tm then M else tm) := ⟨_, rfl⟩
      have u1 : 0 ≤ u ∧ u ≤ 1000000000000000000000000000000 := by rw [hu]; split <;> omega
      have mu : mulOk u l := mulOk_big (by omega) (by omega)
      obtain ⟨v, hv⟩ : ∃ v : Int, v = (if u * l + mo < 1000000000000000000000000000000 then u * l + mo else 1000000000000000000000000000000) := ⟨_, rfl⟩
      obtain ⟨v', hv'⟩ : ∃ v' : Int, v' = (if v > 1 then v else 1) := ⟨_, rfl⟩
      have vb : 1 ≤ v' ∧ v' ≤ 1000000000000000000000000000000 := by rw [hv', hv]; split <;> split <;> omega
      have ma := (ta.trans tb).keep s1.length _ (by omega) ha
      have al : s1.length < sb.length := (List.getElem?_eq_some_iff.mp ma).1
      have ty : tyD "list" (.loc s1.length) sb = true := tyD_lst ma
      have ap : appendM (.loc s1.length) [.int v'] sb = .ok .non (sb.set s1.length (.lst (is.map D.int ++ [.int v']))) := appendM_ok ma (by rw [List.length_map]; omega)
      refine ⟨[some (.loc n), some (.int l), some (.int M), some (.loc s1.length), some x, b, c], [some (.loc n), some (.int l), some (.int M), some (.loc s1.length), some x, some (.int tm), some (.int mo)], sb.set s1.length (.lst (is.map D.int ++ [.int v'])), rfl, .inl ?_, ?_, ⟨_, _, _, rfl⟩, is ++ [v'], ?_, by simp [hi], fun x hx => ?_⟩
      · rw [← hB]
        simp only [Int.cast_ofNat_Int, Nat.zero_add, Int.reduceEq, Int.reduceNe, Int.reduceLT, Int.reduceLE, Int.reduceGT, Int.reduceGE, Int.reduceAdd, Int.reduceSub, Int.reduceMul, Int.reduceNeg, Int.reduceMod, Int.reduceDiv, Nat.reduceLeDiff, slZ_tup, eqD_int, neD_int, eqD_bl, neD_bl, ixT0, ixT1, ixT2, ixF0, ixF1, ixF2, lenT, lenZ, addZ_frz, addZ_loc_frz, addL_loc_frz, beq_self_eq_true, runDef_eq, start3, finR, sSeq, sSet, sExpr, sRet, sRetN, sIf, sPar2, sAsg, sSetIx, sNil, RS.andThen_nx, RS.andThen_rt, RS.andThen_exn, R.toS_ok, R.toS_exn, kv, kc, k1, k2, kA0, kA1, kF, kM, kIf, kTr, kTb, tAnd3, tOr3, tNot3, kAndV, kOrV, kNotV, kChain, R.bind_ok, R.bind_exn, gN, gT, gs0, gs1, List.map_cons, List.map_nil, List.length_cons, List.length_nil, List.replicate, List.cons_append, List.nil_append, List.getElem?_cons_zero, List.getElem?_cons_succ, List.set_cons_zero, List.set_cons_succ, Nat.reduceAdd, Nat.reduceSub, if_true, if_false, Bool.false_eq_true, Bool.true_eq_false, reduceIte, Bool.not_true, Bool.not_false, Option.bind_some, decide_true, decide_false, frzF, tupF, listZ, addD, subD, mulD, fdivD, modD, cmpD, ltD, leD, gtD, geD, negD, absF, maxF, minF, intF, truD, strF, p6, d3, ea, d2, eb, p30, ← hu, mu, ← hv, ← hv', ty, ap]
      · exact ((q.trans ta).trans tb).setNew (Nat.le_refl _) (by omega) _
      · rw [List.getElem?_set_self al, List.map_append]; rfl
      · rcases List.mem_append.mp hx with hx | hx
        · exact hb x hx
        · rw [List.mem_singleton.mp hx]; exact vb)
    2 0 [some (.loc n), some (.int l), some (.int M), some (.loc s1.length), none, none, none] s2 3 rfl (by decide) (by omega) ⟨t2, ⟨none, none, none, rfl⟩, [], a2, rfl, fun x hx => nomatch hx⟩
  have r2 : (rngIts 0 2).length = 2 := rfl
  rw [r2] at q5
  obtain ⟨w, h, rfl⟩ : ∃ w h, is = [w, h] := by
    match is, q5 with
    | [w, h], _ => exact ⟨w, h, rfl⟩
  have bw := q6 w (by simp)
  have bh := q6 h (by simp)
  have e3 : sFor (gN 4) (iR1 (kA1 (kc (.int 2)) kA0)) B [some (.loc n), some (.int l), some (.int M), some (.loc s1.length), none, none, none] s2 = .nx [some (.loc n), some (.int l), some (.int M), some (.loc s1.length), x4, x5, x6] s3 := by
    refine sFor_its (iR1_lit (T := 2) rfl (by decide)) ?_
    rw [← q3]
    exact q1
  have i0 : ixD (.loc s1.length) (.int 0) s3 = .ok (.int w) s3 := ixD_loc q4 atI_zero
  have i1 : ixD (.loc s1.length) (.int 1) s3 = .ok (.int h) s3 := ixD_loc q4 atI_one
  refine ⟨w, h, l, s3, ?_, t1.trans q2, ⟨bw.1, bw.2, bh.1, bh.2, l1, by omega⟩, lm⟩
  obtain ⟨F, hF⟩ : ∃ F, sFor (gN 4) (iR1 (kA1 (kc (.int 2)) kA0)) B = F := ⟨_, rfl⟩
  rw [hF] at e3
  simp only [b_law_great, hB, hF]
  simp only [Int.cast_ofNat_Int, Nat.zero_add, Int.reduceEq, Int.reduceNe, Int.reduceLT, Int.reduceLE, Int.reduceGT, Int.reduceGE, Int.reduceAdd, Int.reduceSub, Int.reduceMul, Int.reduceNeg, Int.reduceMod, Int.reduceDiv, Nat.reduceLeDiff, slZ_tup, eqD_int, neD_int, eqD_bl, neD_bl, ixT0, ixT1, ixT2, ixF0, ixF1, ixF2, lenT, lenZ, addZ_frz, addZ_loc_frz, addL_loc_frz, beq_self_eq_true, runDef_eq, start3, finR, sSeq, sSet, sExpr, sRet, sRetN, sIf, sPar2, sAsg, sSetIx, sNil, RS.andThen_nx, RS.andThen_rt, RS.andThen_exn, R.toS_ok, R.toS_exn, kv, kc, k1, k2, kA0, kA1, kF, kM, kIf, kTr, kTb, tAnd3, tOr3, tNot3, kAndV, kOrV, kNotV, kChain, R.bind_ok, R.bind_exn, gN, gT, gs0, gs1, List.map_cons, List.map_nil, List.length_cons, List.length_nil, List.replicate, List.cons_append, List.nil_append, List.getElem?_cons_zero, List.getElem?_cons_succ, List.set_cons_zero, List.set_cons_succ, Nat.reduceAdd, Nat.reduceSub, if_true, if_false, Bool.false_eq_true, Bool.true_eq_false, reduceIte, Bool.not_true, Bool.not_false, Option.bind_some, decide_true, decide_false, frzF, tupF, listZ, addD, subD, mulD, fdivD, modD, cmpD, ltD, leD, gtD, geD, negD, absF, maxF, minF, intF, truD, strF, lstF, p9, p20, p29, e1, p30, dl, ← hM, hs2, e3, i0, i1]
theorem oneBar_ok {w h l : Int} (hl : 2 ≤ l) : Ans (runDef 1 1 b_law_is_one_bar) [sz w h l] (.bl (oneB w h l)) := by
  intro st
  have cut : cutD [D.int w, .int h, .int l] none (some 2) = [.int w, .int h] := rfl
  have so : sortZ [.tup [.int w, .int h]] st = .ok (.frz (if w ≤ h then [.int w, .int h] else [.int h, .int w])) st := by
    have e : intsO [D.int w, .int h] = some [w, h] := rfl
    simp only [sortZ, e, sort2]
    split <;> rfl
  simp only [b_law_is_one_bar, Int.cast_ofNat_Int, Nat.zero_add, Int.reduceEq, Int.reduceNe, Int.reduceLT, Int.reduceLE, Int.reduceGT, Int.reduceGE, Int.reduceAdd, Int.reduceSub, Int.reduceMul, Int.reduceNeg, Int.reduceMod, Int.reduceDiv, Nat.reduceLeDiff, slZ_tup, eqD_int, neD_int, eqD_bl, neD_bl, ixT0, ixT1, ixT2, ixF0, ixF1, ixF2, lenT, lenZ, addZ_frz, addZ_loc_frz, addL_loc_frz, beq_self_eq_true, runDef_eq, start3, finR, sSeq, sSet, sExpr, sRet, sRetN, sIf, sPar2, sAsg, sSetIx, sNil, RS.andThen_nx, RS.andThen_rt, RS.andThen_exn, R.toS_ok, R.toS_exn, kv, kc, k1, k2, kA0, kA1, kF, kM, kIf, kTr, kTb, tAnd3, tOr3, tNot3, kAndV, kOrV, kNotV, kChain, R.bind_ok, R.bind_exn, gN, gT, gs0, gs1, List.map_cons, List.map_nil, List.length_cons, List.length_nil, List.replicate, List.cons_append, List.nil_append, List.getElem?_cons_zero, List.getElem?_cons_succ, List.set_cons_zero, List.set_cons_succ, Nat.reduceAdd, Nat.reduceSub, if_true, if_false, Bool.false_eq_true, Bool.true_eq_false, reduceIte, Bool.not_true, Bool.not_false, Option.bind_some, decide_true, decide_false, frzF, tupF, listZ, addD, subD, mulD, fdivD, modD, cmpD, ltD, leD, gtD, geD, negD, absF, maxF, minF, intF, truD, strF, kSz, kO0, kO1, cut, so]
  by_cases h1 : w ≤ h
  · simp only [h1, Int.cast_ofNat_Int, Nat.zero_add, Int.reduceEq, Int.reduceNe, Int.reduceLT, Int.reduceLE, Int.reduceGT, Int.reduceGE, Int.reduceAdd, Int.reduceSub, Int.reduceMul, Int.reduceNeg, Int.reduceMod, Int.reduceDiv, Nat.reduceLeDiff, slZ_tup, eqD_int, neD_int, eqD_bl, neD_bl, ixT0, ixT1, ixT2, ixF0, ixF1, ixF2, lenT, lenZ, addZ_frz, addZ_loc_frz, addL_loc_frz, beq_self_eq_true, runDef_eq, start3, finR, sSeq, sSet, sExpr, sRet, sRetN, sIf, sPar2, sAsg, sSetIx, sNil, RS.andThen_nx, RS.andThen_rt, RS.andThen_exn, R.toS_ok, R.toS_exn, kv, kc, k1, k2, kA0, kA1, kF, kM, kIf, kTr, kTb, tAnd3, tOr3, tNot3, kAndV, kOrV, kNotV, kChain, R.bind_ok, R.bind_exn, gN, gT, gs0, gs1, List.map_cons, List.map_nil, List.length_cons, List.length_nil, List.replicate, List.cons_append, List.nil_append, List.getElem?_cons_zero, List.getElem?_cons_succ, List.set_cons_zero, List.set_cons_succ, Nat.reduceAdd, Nat.reduceSub, if_true, if_false, Bool.false_eq_true, Bool.true_eq_false, reduceIte, Bool.not_true, Bool.not_false, Option.bind_some, decide_true, decide_false, frzF, tupF, listZ, addD, subD, mulD, fdivD, modD, cmpD, ltD, leD, gtD, geD, negD, absF, maxF, minF, intF, truD, strF, eqD_frz2]
    congr 2
    unfold oneB
    rw [← Bool.decide_and, decide_eq_decide]
    omega
  · simp only [h1, Int.cast_ofNat_Int, Nat.zero_add, Int.reduceEq, Int.reduceNe, Int.reduceLT, Int.reduceLE, Int.reduceGT, Int.reduceGE, Int.reduceAdd, Int.reduceSub, Int.reduceMul, Int.reduceNeg, Int.reduceMod, Int.reduceDiv, Nat.reduceLeDiff, slZ_tup, eqD_int, neD_int, eqD_bl, neD_bl, ixT0, ixT1, ixT2, ixF0, ixF1, ixF2, lenT, lenZ, addZ_frz, addZ_loc_frz, addL_loc_frz, beq_self_eq_true, runDef_eq, start3, finR, sSeq, sSet, sExpr, sRet, sRetN, sIf, sPar2, sAsg, sSetIx, sNil, RS.andThen_nx, RS.andThen_rt, RS.andThen_exn, R.toS_ok, R.toS_exn, kv, kc, k1, k2, kA0, kA1, kF, kM, kIf, kTr, kTb, tAnd3, tOr3, tNot3, kAndV, kOrV, kNotV, kChain, R.bind_ok, R.bind_exn, gN, gT, gs0, gs1, List.map_cons, List.map_nil, List.length_cons, List.length_nil, List.replicate, List.cons_append, List.nil_append, List.getElem?_cons_zero, List.getElem?_cons_succ, List.set_cons_zero, List.set_cons_succ, Nat.reduceAdd, Nat.reduceSub, if_true, if_false, Bool.false_eq_true, Bool.true_eq_false, reduceIte, Bool.not_true, Bool.not_false, Option.bind_some, decide_true, decide_false, frzF, tupF, listZ, addD, subD, mulD, fdivD, modD, cmpD, ltD, leD, gtD, geD, negD, absF, maxF, minF, intF, truD, strF, eqD_frz2]
    congr 2
    unfold oneB
    rw [← Bool.decide_and, decide_eq_decide]
    omega
end Hu

namespace Pg
open PySem PySem.Spec PyProof.Rows L2 L3
def b_is_whole  : KS :=
  (sRet (kAndV (k1 (isF "int") (kv 0)) (kNotV (k1 (isF "bool") (kv 0)))))
def b_is_index (r_is_whole : L3.Run) : KS :=
  (sRet (kAndV (kF r_is_whole (kA1 (kv 0) kA0)) (kChain leD ltD (kc (.int 0)) (kv 0) (kv 1))))
def b_can_hold_floor  : KS :=
  (sSeq (sAsg (gT 3 (gs1 (gN 1) (gs1 (gN 2) (gs1 (gN 3) gs0)))) (kv 0))
    (sRet (kOrV (k2 eqD (k2 modD (kv 1) (kv 3)) (kc (.int 0))) (k2 eqD (k2 modD (kv 2) (kv 3)) (kc (.int 0))))))
def b_is_size (r_is_whole : L3.Run) : KS :=
  (sSeq (sIf (tOr3 (tNot3 (kTr (k1 (isF "tuple") (kv 0)))) (kTb (k2 neD (kF lenF (kA1 (kv 0) kA0)) (kc (.int 3))))) (sRet (kc (.bl false))) sNil)
    (sSeq (sIf (tNot3 (kTr (kF allF (kA1 (kLz [4] (gN 4) (iT (kv 0)) kTrue (kF r_is_whole (kA1 (kv 4) kA0))) kA0)))) (sRet (kc (.bl false))) sNil)
    (sSeq (sAsg (gT 3 (gs1 (gN 1) (gs1 (gN 2) (gs1 (gN 3) gs0)))) (kv 0))
    (sRet (kAndV (kChain leD leD (kc (.int 1)) (kv 1) (kc (.int 1000000000000000000000000000000))) (kAndV (kChain leD leD (kc (.int 1)) (kv 2) (kc (.int 1000000000000000000000000000000))) (kChain leD leD (kc (.int 2)) (kv 3) (kc (.int 1000000000000000000000000000000)))))))))
def b_can_be_laid (r_is_size : L3.Run) (r_can_hold_floor : L3.Run) : KS :=
  (sSeq (sIf (tNot3 (kTr (kF r_is_size (kA1 (kv 0) kA0)))) sNever sNil)
    (sRet (kF r_can_hold_floor (kA1 (kv 0) kA0))))
def b_pairs_with_sum  : KS :=
  (sRet (kF maxF (kA1 (kc (.int 0)) (kA1 (k2 addD (k2 subD (kF minF (kA1 (k2 subD (kv 0) (kc (.int 1))) (kA1 (kv 2) kA0))) (kF maxF (kA1 (kc (.int 0)) (kA1 (k2 addD (k2 subD (kv 2) (kv 1)) (kc (.int 1))) kA0)))) (kc (.int 1))) kA0))))
def b_weight (r_is_size : L3.Run) (r_is_index : L3.Run) (r_pairs_with_sum : L3.Run) : KS :=
  (sSeq (sIf (tNot3 (kTr (kF r_is_size (kA1 (kv 0) kA0)))) sNever sNil)
    (sSeq (sAsg (gT 3 (gs1 (gN 2) (gs1 (gN 3) (gs1 (gN 4) gs0)))) (kv 0))
    (sSeq (sIf (tNot3 (kTr (kF r_is_index (kA1 (kv 1) (kA1 (kv 4) kA0))))) sNever sNil)
    (sSeq (sPar2 5 6 (k2 modD (kv 2) (kv 4)) (k2 modD (kv 3) (kv 4)))
    (sSeq (sSet 7 (k2 fdivD (k2 subD (k2 mulD (kv 2) (kv 3)) (k2 mulD (kv 5) (kv 6))) (kv 4)))
    (sRet (k2 addD (k2 addD (kv 7) (kF r_pairs_with_sum (kA1 (kv 5) (kA1 (kv 6) (kA1 (kv 1) kA0))))) (kF r_pairs_with_sum (kA1 (kv 5) (kA1 (kv 6) (kA1 (k2 addD (kv 1) (kv 4)) kA0)))))))))))
def b_is_one_bar  : KS :=
  (sSeq (sAsg (gT 3 (gs1 (gN 1) (gs1 (gN 2) (gs1 (gN 3) gs0)))) (kv 0))
    (sRet (k2 (inY false) (kF tupF (kA1 (kv 1) (kA1 (kv 2) kA0))) (kF tupF (kA1 (kF tupF (kA1 (kv 3) (kA1 (kc (.int 1)) kA0))) (kA1 (kF tupF (kA1 (kc (.int 1)) (kA1 (kv 3) kA0))) kA0))))))
def b_is_narrow (r_is_one_bar : L3.Run) : KS :=
  (sSeq (sAsg (gT 3 (gs1 (gN 1) (gs1 (gN 2) (gs1 (gN 3) gs0)))) (kv 0))
    (sRet (kAndV (k2 leD (kF minF (kA1 (kv 1) (kA1 (kv 2) kA0))) (k2 mulD (kc (.int 2)) (kv 3))) (kNotV (kF r_is_one_bar (kA1 (kv 0) kA0))))))
def b_has_bond (r_can_be_laid : L3.Run) (r_is_narrow : L3.Run) : KS :=
  (sRet (kAndV (kF r_can_be_laid (kA1 (kv 0) kA0)) (kAndV (kNotV (kF r_is_narrow (kA1 (kv 0) kA0))) (k1 (eqG true [6, 6, 2]) (kv 0)))))
def b_need_along  : KS :=
  (sSeq (sSet 3 (k2 subD (kv 0) (kc (.int 1))))
    (sSeq (sSet 4 (k2 fdivD (kv 3) (kv 2)))
    (sRet (k2 addD (k2 mulD (kv 4) (kv 2)) (k2 mulD (k2 subD (kv 3) (kv 4)) (kOrV (k2 modD (kv 1) (kv 2)) (kv 2)))))))
def b_total_need (r_can_be_laid : L3.Run) (r_need_along : L3.Run) : KS :=
  (sSeq (sIf (tNot3 (kTr (kF r_can_be_laid (kA1 (kv 0) kA0)))) sNever sNil)
    (sSeq (sAsg (gT 3 (gs1 (gN 1) (gs1 (gN 2) (gs1 (gN 3) gs0)))) (kv 0))
    (sRet (k2 addD (kF r_need_along (kA1 (kv 1) (kA1 (kv 2) (kA1 (kv 3) kA0)))) (kF r_need_along (kA1 (kv 2) (kA1 (kv 1) (kA1 (kv 3) kA0))))))))
def b_total_crossings (r_can_be_laid : L3.Run) : KS :=
  (sSeq (sIf (tNot3 (kTr (kF r_can_be_laid (kA1 (kv 0) kA0)))) sNever sNil)
    (sSeq (sAsg (gT 3 (gs1 (gN 1) (gs1 (gN 2) (gs1 (gN 3) gs0)))) (kv 0))
    (sRet (k2 mulD (k2 subD (kv 3) (kc (.int 1))) (k2 fdivD (k2 mulD (kv 1) (kv 2)) (kv 3))))))
def b_is_few (r_can_hold_floor : L3.Run) (r_total_need : L3.Run) (r_total_crossings : L3.Run) : KS :=
  (sRet (kAndV (kF r_can_hold_floor (kA1 (kv 0) kA0)) (k2 gtD (kF r_total_need (kA1 (kv 0) kA0)) (kF r_total_crossings (kA1 (kv 0) kA0)))))
def b_reason (r_has_bond : L3.Run) (r_is_narrow : L3.Run) (r_can_hold_floor : L3.Run) : KS :=
  (sSeq (sIf (kTr (kF r_has_bond (kA1 (kv 0) kA0))) (sRet (kc .non)) sNil)
    (sSeq (sIf (kTr (kF r_is_narrow (kA1 (kv 0) kA0))) (sRet (kF tupF (kA1 (kc (.str "narrow")) kA0))) sNil)
    (sSeq (sIf (kTr (kF r_can_hold_floor (kA1 (kv 0) kA0))) (sRet (kF tupF (kA1 (kc (.str "few")) kA0))) sNil)
    (sSeq (sAsg (gT 3 (gs1 (gN 1) (gs1 (gN 2) (gs1 (gN 3) gs0)))) (kv 0))
    (sSeq (sSet 4 (kF maxF (kA1 (k2 modD (kv 1) (kv 3)) (kA1 (k2 modD (kv 2) (kv 3)) kA0))))
    (sRet (kF tupF (kA1 (kc (.str "weights")) (kA1 (kv 4) (kA1 (k2 subD (kv 4) (kc (.int 1))) kA0))))))))))
def b_weights_differ (r_is_index : L3.Run) (r_weight : L3.Run) : KS :=
  (sSeq (sSet 3 (k2 ixD (kv 0) (kc (.int 2))))
    (sRet (kAndV (kF r_is_index (kA1 (kv 1) (kA1 (kv 3) kA0))) (kAndV (kF r_is_index (kA1 (kv 2) (kA1 (kv 3) kA0))) (k2 neD (kF r_weight (kA1 (kv 0) (kA1 (kv 1) kA0))) (kF r_weight (kA1 (kv 0) (kA1 (kv 2) kA0))))))))
def b_is_reason (r_is_size : L3.Run) (r_is_narrow : L3.Run) (r_is_few : L3.Run) (r_weights_differ : L3.Run) : KS :=
  (sSeq (sIf (tNot3 (kTr (kF r_is_size (kA1 (kv 0) kA0)))) sNever sNil)
    (sSeq (sIf (tNot3 (kTr (k1 (isF "tuple") (kv 1)))) (sRet (kc (.bl false))) sNil)
    (sSeq (sIf (kTb (k2 eqD (kv 1) (kF tupF (kA1 (kc (.str "narrow")) kA0)))) (sRet (kF r_is_narrow (kA1 (kv 0) kA0))) sNil)
    (sSeq (sIf (kTb (k2 eqD (kv 1) (kF tupF (kA1 (kc (.str "few")) kA0)))) (sRet (kF r_is_few (kA1 (kv 0) kA0))) sNil)
    (sRet (kAndV (k2 eqD (kF lenF (kA1 (kv 1) kA0)) (kc (.int 3))) (kAndV (k2 eqD (k2 ixD (kv 1) (kc (.int 0))) (kc (.str "weights"))) (kF r_weights_differ (kA1 (kv 0) (kA1 (k2 ixD (kv 1) (kc (.int 1))) (kA1 (k2 ixD (kv 1) (kc (.int 2))) kA0)))))))))))
def b_fewest_in_flat  : KS :=
  (sSeq (sPar2 3 4 (k2 fdivD (kv 0) (kv 2)) (k2 modD (kv 0) (kv 2)))
    (sSeq (sIf (kTb (k2 ltD (kv 1) (kv 2))) (sRet (k2 subD (k2 addD (k2 subD (kv 1) (kc (.int 1))) (kv 3)) (kc (.int 1)))) sNil)
    (sRet (kIf (kTb (k2 gtD (kv 4) (kc (.int 0)))) (k2 subD (k2 addD (kv 4) (kv 3)) (kc (.int 1))) (k2 subD (k2 addD (kv 2) (kv 3)) (kc (.int 2)))))))
def b_fewest_seams (r_can_be_laid : L3.Run) (r_has_bond : L3.Run) (r_fewest_in_flat : L3.Run) : KS :=
  (sSeq (sIf (tNot3 (kTr (kF r_can_be_laid (kA1 (kv 0) kA0)))) sNever sNil)
    (sSeq (sIf (kTr (kF r_has_bond (kA1 (kv 0) kA0))) (sRet (kc (.int 0))) sNil)
    (sSeq (sSet 1 (k2 ixD (kv 0) (kc (.int 2))))
    (sSeq (sPar2 2 3 (kF (mmI false minF) (kA1 (kSz (kv 0) kO0 (kO1 (kc (.int 2)))) kA0)) (kF (mmI true maxF) (kA1 (kSz (kv 0) kO0 (kO1 (kc (.int 2)))) kA0)))
    (sSeq (sIf (kTb (k2 leD (kv 2) (kv 1))) (sRet (kF r_fewest_in_flat (kA1 (kv 3) (kA1 (kv 2) (kA1 (kv 1) kA0))))) sNil)
    (sSeq (sPar2 4 5 (k2 fdivD (kv 3) (kv 1)) (k2 modD (kv 3) (kv 1)))
    (sSeq (sIf (tAnd3 (kTb (k2 eqD (kv 2) (k2 mulD (kc (.int 2)) (kv 1)))) (tAnd3 (kTb (k2 eqD (kv 5) (kc (.int 0)))) (tOr3 (kTb (k2 eqD (kv 4) (kc (.int 2)))) (kTb (k2 eqD (kv 1) (kc (.int 2))))))) (sRet (kc (.int 2))) sNil)
    (sRet (kc (.int 1))))))))))
end Pg

namespace L3
open PySem L2
def wholeB : D → Bool
  | .int _ => true
  | _ => false
def LookP (r : L3.Run) (f : D → Bool) : Prop := ∀ (st : Sto) (n : Nat) (d : D), Pl n st d → r [d] st = .ok (.bl (f d)) st
def laidB (w h l : Int) : Bool := decide (w % l = 0) || decide (h % l = 0)
def narrowB (w h l : Int) : Bool := decide ((if h < w then h else w) ≤ 2 * l) && !oneB w h l
def bondB (w h l : Int) : Bool := laidB w h l && (!narrowB w h l && !decide (w = 6 ∧ h = 6 ∧ l = 2))
def needAl (s o l : Int) : Int := (s - 1) / l * l + ((s - 1) - (s - 1) / l) * (if o % l = 0 then l else o % l)
def needT (w h l : Int) : Int := needAl w h l + needAl h w l
def crossT (w h l : Int) : Int := (l - 1) * (w * h / l)
def flatF (w h l : Int) : Int := if h < l then h - 1 + w / l - 1 else if 0 < w % l then w % l + w / l - 1 else l + w / l - 2
def fewF (w h l : Int) : Int := if bondB w h l = true then 0 else
  if (if h < w then h else w) ≤ l then flatF (if w < h then h else w) (if h < w then h else w) l else
  if (if h < w then h else w) = 2 * l ∧ (if w < h then h else w) % l = 0 ∧ ((if w < h then h else w) / l = 2 ∨ l = 2) then 2 else 1
theorem inY_tt {a b c d e f : Int} {st : Sto} : inY false (.tup [.int a, .int b]) (.tup [.tup [.int c, .int d], .tup [.int e, .int f]]) st = .ok (.bl (decide (c = a ∧ d = b) || decide (e = a ∧ f = b))) st := by
  have p : pd st 40 (.tup [.int a, .int b]) = some (.tuple [.int a, .int b]) := rfl
  have p2 : pd st 40 (.tup [.tup [.int c, .int d], .tup [.int e, .int f]]) = some (.tuple [.tuple [.int c, .int d], .tuple [.int e, .int f]]) := rfl
  simp only [inY, p, p2]
  rw [if_pos ⟨by simp [SeqAt.shaped, PyData.canLay0, PyData.canLayAll0, PyData.depth, PyData.depthAll], by simp [SeqAt.shaped, PyData.canLay0, PyData.canLayAll0, PyData.depth, PyData.depthAll]⟩]
  simp only [List.any_cons, List.any_nil, PyData.eqv, PyData.eqvAll, Bool.and_true, Bool.or_false, Bool.false_bne]
  congr 2
  rw [Bool.eq_iff_iff]
  simp
theorem eqG_sz {w h l a b c : Int} {st : Sto} : eqG true [a, b, c] (sz w h l) st = .ok (.bl (!decide (w = a ∧ h = b ∧ l = c))) st := by
  have p : pd st 40 (sz w h l) = some (.tuple [.int w, .int h, .int l]) := rfl
  simp only [eqG, p]
  rw [if_pos ⟨by simp [SeqAt.shaped, PyData.canLay0, PyData.canLayAll0, PyData.depth, PyData.depthAll], by simp [SeqAt.shaped, PyData.canLay0, PyData.canLayAll0, PyData.depth, PyData.depthAll]⟩]
  simp only [List.map_cons, List.map_nil, PyData.eqv, PyData.eqvAll, Bool.and_true, Bool.true_bne]
  congr 3
  rw [Bool.eq_iff_iff]
  simp
end L3
namespace Pg
open PySem L2 L3
theorem whole_ok : LookP (runDef 1 1 b_is_whole) wholeB := by
  intro st n d h
  simp only [b_is_whole, Int.cast_ofNat_Int, Nat.zero_add, Int.reduceEq, Int.reduceNe, Int.reduceLT, Int.reduceLE, Int.reduceGT, Int.reduceGE, Int.reduceAdd, Int.reduceSub, Int.reduceMul, Int.reduceNeg, Int.reduceMod, Int.reduceDiv, Nat.reduceLeDiff, slZ_tup, eqD_int, neD_int, eqD_bl, neD_bl, ixT0, ixT1, ixT2, ixF0, ixF1, ixF2, lenT, lenZ, addZ_frz, addZ_loc_frz, addL_loc_frz, beq_self_eq_true, runDef_eq, start3, finR, sSeq, sSet, sExpr, sRet, sRetN, sIf, sPar2, sAsg, sSetIx, sNil, RS.andThen_nx, RS.andThen_rt, RS.andThen_exn, R.toS_ok, R.toS_exn, kv, kc, k1, k2, kA0, kA1, kF, kM, kIf, kTr, kTb, tAnd3, tOr3, tNot3, kAndV, kOrV, kNotV, kChain, R.bind_ok, R.bind_exn, gN, gT, gs0, gs1, List.map_cons, List.map_nil, List.length_cons, List.length_nil, List.replicate, List.cons_append, List.nil_append, List.getElem?_cons_zero, List.getElem?_cons_succ, List.set_cons_zero, List.set_cons_succ, Nat.reduceAdd, Nat.reduceSub, if_true, if_false, Bool.false_eq_true, Bool.true_eq_false, reduceIte, Bool.not_true, Bool.not_false, Option.bind_some, decide_true, decide_false, is_int h, is_bool h, truD]
  cases h <;> rfl
theorem size_ok {rw' : L3.Run} (hw : LookP rw' wholeB) {w h l : Int} (s : Sz w h l) : Ans (runDef 5 1 (b_is_size rw')) [sz w h l] (.bl true) := by
  intro st
  have it : isF "tuple" (sz w h l) st = .ok (.bl true) st := isF_of rfl kb_tuple_tuple
  obtain ⟨L, hL⟩ : ∃ L, kLz [4] (gN 4) (iT (kv 0)) kTrue (kF rw' (kA1 (kv 4) kA0)) = L := ⟨_, rfl⟩
  have e : L [some (sz w h l), none, none, none, none] st = .ok (.frz [.bl true, .bl true, .bl true]) st := by
    rw [← hL]
    refine lz_map (xs := [.int w, .int h, .int l]) (fun d => .bl (wholeB d)) rfl (by simp) fun d hd => ⟨[some (sz w h l), none, none, none, some d], rfl, ?_⟩
    have : Pl st.length st d := by
      simp only [List.mem_cons, List.not_mem_nil, or_false] at hd
      rcases hd with rfl | rfl | rfl <;> exact .int _
    simp only [Int.cast_ofNat_Int, Nat.zero_add, Int.reduceEq, Int.reduceNe, Int.reduceLT, Int.reduceLE, Int.reduceGT, Int.reduceGE, Int.reduceAdd, Int.reduceSub, Int.reduceMul, Int.reduceNeg, Int.reduceMod, Int.reduceDiv, Nat.reduceLeDiff, slZ_tup, eqD_int, neD_int, eqD_bl, neD_bl, ixT0, ixT1, ixT2, ixF0, ixF1, ixF2, lenT, lenZ, addZ_frz, addZ_loc_frz, addL_loc_frz, beq_self_eq_true, runDef_eq, start3, finR, sSeq, sSet, sExpr, sRet, sRetN, sIf, sPar2, sAsg, sSetIx, sNil, RS.andThen_nx, RS.andThen_rt, RS.andThen_exn, R.toS_ok, R.toS_exn, kv, kc, k1, k2, kA0, kA1, kF, kM, kIf, kTr, kTb, tAnd3, tOr3, tNot3, kAndV, kOrV, kNotV, kChain, R.bind_ok, R.bind_exn, gN, gT, gs0, gs1, List.map_cons, List.map_nil, List.length_cons, List.length_nil, List.replicate, List.cons_append, List.nil_append, List.getElem?_cons_zero, List.getElem?_cons_succ, List.set_cons_zero, List.set_cons_succ, Nat.reduceAdd, Nat.reduceSub, if_true, if_false, Bool.false_eq_true, Bool.true_eq_false, reduceIte, Bool.not_true, Bool.not_false, Option.bind_some, decide_true, decide_false, hw st _ d this]
  have a3 : allF [.frz [.bl true, .bl true, .bl true]] st = .ok (.bl true) st := rfl
  simp only [b_is_size, hL, Int.cast_ofNat_Int, Nat.zero_add, Int.reduceEq, Int.reduceNe, Int.reduceLT, Int.reduceLE, Int.reduceGT, Int.reduceGE, Int.reduceAdd, Int.reduceSub, Int.reduceMul, Int.reduceNeg, Int.reduceMod, Int.reduceDiv, Nat.reduceLeDiff, slZ_tup, eqD_int, neD_int, eqD_bl, neD_bl, ixT0, ixT1, ixT2, ixF0, ixF1, ixF2, lenT, lenZ, addZ_frz, addZ_loc_frz, addL_loc_frz, beq_self_eq_true, runDef_eq, start3, finR, sSeq, sSet, sExpr, sRet, sRetN, sIf, sPar2, sAsg, sSetIx, sNil, RS.andThen_nx, RS.andThen_rt, RS.andThen_exn, R.toS_ok, R.toS_exn, kv, kc, k1, k2, kA0, kA1, kF, kM, kIf, kTr, kTb, tAnd3, tOr3, tNot3, kAndV, kOrV, kNotV, kChain, R.bind_ok, R.bind_exn, gN, gT, gs0, gs1, List.map_cons, List.map_nil, List.length_cons, List.length_nil, List.replicate, List.cons_append, List.nil_append, List.getElem?_cons_zero, List.getElem?_cons_succ, List.set_cons_zero, List.set_cons_succ, Nat.reduceAdd, Nat.reduceSub, if_true, if_false, Bool.false_eq_true, Bool.true_eq_false, reduceIte, Bool.not_true, Bool.not_false, Option.bind_some, decide_true, decide_false, it, truD, e, a3, cmpD, leD, s.w1, s.w2, s.h1, s.h2, s.l1, s.l2]
theorem hold_ok {w h l : Int} (s : Sz w h l) : Ans (runDef 4 1 b_can_hold_floor) [sz w h l] (.bl (laidB w h l)) := by
  intro st
  have hl : 0 < l := by have := s.l1; omega
  simp only [b_can_hold_floor, Int.cast_ofNat_Int, Nat.zero_add, Int.reduceEq, Int.reduceNe, Int.reduceLT, Int.reduceLE, Int.reduceGT, Int.reduceGE, Int.reduceAdd, Int.reduceSub, Int.reduceMul, Int.reduceNeg, Int.reduceMod, Int.reduceDiv, Nat.reduceLeDiff, slZ_tup, eqD_int, neD_int, eqD_bl, neD_bl, ixT0, ixT1, ixT2, ixF0, ixF1, ixF2, lenT, lenZ, addZ_frz, addZ_loc_frz, addL_loc_frz, beq_self_eq_true, runDef_eq, start3, finR, sSeq, sSet, sExpr, sRet, sRetN, sIf, sPar2, sAsg, sSetIx, sNil, RS.andThen_nx, RS.andThen_rt, RS.andThen_exn, R.toS_ok, R.toS_exn, kv, kc, k1, k2, kA0, kA1, kF, kM, kIf, kTr, kTb, tAnd3, tOr3, tNot3, kAndV, kOrV, kNotV, kChain, R.bind_ok, R.bind_exn, gN, gT, gs0, gs1, List.map_cons, List.map_nil, List.length_cons, List.length_nil, List.replicate, List.cons_append, List.nil_append, List.getElem?_cons_zero, List.getElem?_cons_succ, List.set_cons_zero, List.set_cons_succ, Nat.reduceAdd, Nat.reduceSub, if_true, if_false, Bool.false_eq_true, Bool.true_eq_false, reduceIte, Bool.not_true, Bool.not_false, Option.bind_some, decide_true, decide_false, frzF, tupF, listZ, addD, subD, mulD, fdivD, modD, cmpD, ltD, leD, gtD, geD, negD, absF, maxF, minF, intF, truD, strF, hl, laidB]
  by_cases h1 : w % l = 0
  · simp only [h1, Int.cast_ofNat_Int, Nat.zero_add, Int.reduceEq, Int.reduceNe, Int.reduceLT, Int.reduceLE, Int.reduceGT, Int.reduceGE, Int.reduceAdd, Int.reduceSub, Int.reduceMul, Int.reduceNeg, Int.reduceMod, Int.reduceDiv, Nat.reduceLeDiff, slZ_tup, eqD_int, neD_int, eqD_bl, neD_bl, ixT0, ixT1, ixT2, ixF0, ixF1, ixF2, lenT, lenZ, addZ_frz, addZ_loc_frz, addL_loc_frz, beq_self_eq_true, runDef_eq, start3, finR, sSeq, sSet, sExpr, sRet, sRetN, sIf, sPar2, sAsg, sSetIx, sNil, RS.andThen_nx, RS.andThen_rt, RS.andThen_exn, R.toS_ok, R.toS_exn, kv, kc, k1, k2, kA0, kA1, kF, kM, kIf, kTr, kTb, tAnd3, tOr3, tNot3, kAndV, kOrV, kNotV, kChain, R.bind_ok, R.bind_exn, gN, gT, gs0, gs1, List.map_cons, List.map_nil, List.length_cons, List.length_nil, List.replicate, List.cons_append, List.nil_append, List.getElem?_cons_zero, List.getElem?_cons_succ, List.set_cons_zero, List.set_cons_succ, Nat.reduceAdd, Nat.reduceSub, if_true, if_false, Bool.false_eq_true, Bool.true_eq_false, reduceIte, Bool.not_true, Bool.not_false, Option.bind_some, decide_true, decide_false, Bool.true_or]
  · simp only [h1, Int.cast_ofNat_Int, Nat.zero_add, Int.reduceEq, Int.reduceNe, Int.reduceLT, Int.reduceLE, Int.reduceGT, Int.reduceGE, Int.reduceAdd, Int.reduceSub, Int.reduceMul, Int.reduceNeg, Int.reduceMod, Int.reduceDiv, Nat.reduceLeDiff, slZ_tup, eqD_int, neD_int, eqD_bl, neD_bl, ixT0, ixT1, ixT2, ixF0, ixF1, ixF2, lenT, lenZ, addZ_frz, addZ_loc_frz, addL_loc_frz, beq_self_eq_true, runDef_eq, start3, finR, sSeq, sSet, sExpr, sRet, sRetN, sIf, sPar2, sAsg, sSetIx, sNil, RS.andThen_nx, RS.andThen_rt, RS.andThen_exn, R.toS_ok, R.toS_exn, kv, kc, k1, k2, kA0, kA1, kF, kM, kIf, kTr, kTb, tAnd3, tOr3, tNot3, kAndV, kOrV, kNotV, kChain, R.bind_ok, R.bind_exn, gN, gT, gs0, gs1, List.map_cons, List.map_nil, List.length_cons, List.length_nil, List.replicate, List.cons_append, List.nil_append, List.getElem?_cons_zero, List.getElem?_cons_succ, List.set_cons_zero, List.set_cons_succ, Nat.reduceAdd, Nat.reduceSub, if_true, if_false, Bool.false_eq_true, Bool.true_eq_false, reduceIte, Bool.not_true, Bool.not_false, Option.bind_some, decide_true, decide_false, Bool.false_or]
theorem laid_ok {rs rh : L3.Run} {w h l : Int} (hs : Ans rs [sz w h l] (.bl true)) (hh : Ans rh [sz w h l] (.bl (laidB w h l))) : Ans (runDef 1 1 (b_can_be_laid rs rh)) [sz w h l] (.bl (laidB w h l)) := by
  intro st
  simp only [b_can_be_laid, Int.cast_ofNat_Int, Nat.zero_add, Int.reduceEq, Int.reduceNe, Int.reduceLT, Int.reduceLE, Int.reduceGT, Int.reduceGE, Int.reduceAdd, Int.reduceSub, Int.reduceMul, Int.reduceNeg, Int.reduceMod, Int.reduceDiv, Nat.reduceLeDiff, slZ_tup, eqD_int, neD_int, eqD_bl, neD_bl, ixT0, ixT1, ixT2, ixF0, ixF1, ixF2, lenT, lenZ, addZ_frz, addZ_loc_frz, addL_loc_frz, beq_self_eq_true, runDef_eq, start3, finR, sSeq, sSet, sExpr, sRet, sRetN, sIf, sPar2, sAsg, sSetIx, sNil, RS.andThen_nx, RS.andThen_rt, RS.andThen_exn, R.toS_ok, R.toS_exn, kv, kc, k1, k2, kA0, kA1, kF, kM, kIf, kTr, kTb, tAnd3, tOr3, tNot3, kAndV, kOrV, kNotV, kChain, R.bind_ok, R.bind_exn, gN, gT, gs0, gs1, List.map_cons, List.map_nil, List.length_cons, List.length_nil, List.replicate, List.cons_append, List.nil_append, List.getElem?_cons_zero, List.getElem?_cons_succ, List.set_cons_zero, List.set_cons_succ, Nat.reduceAdd, Nat.reduceSub, if_true, if_false, Bool.false_eq_true, Bool.true_eq_false, reduceIte, Bool.not_true, Bool.not_false, Option.bind_some, decide_true, decide_false, frzF, tupF, listZ, addD, subD, mulD, fdivD, modD, cmpD, ltD, leD, gtD, geD, negD, absF, maxF, minF, intF, truD, strF, hs st, hh st]
theorem one_ok {w h l : Int} : Ans (runDef 4 1 b_is_one_bar) [sz w h l] (.bl (oneB w h l)) := by
  intro st
  simp only [b_is_one_bar, Int.cast_ofNat_Int, Nat.zero_add, Int.reduceEq, Int.reduceNe, Int.reduceLT, Int.reduceLE, Int.reduceGT, Int.reduceGE, Int.reduceAdd, Int.reduceSub, Int.reduceMul, Int.reduceNeg, Int.reduceMod, Int.reduceDiv, Nat.reduceLeDiff, slZ_tup, eqD_int, neD_int, eqD_bl, neD_bl, ixT0, ixT1, ixT2, ixF0, ixF1, ixF2, lenT, lenZ, addZ_frz, addZ_loc_frz, addL_loc_frz, beq_self_eq_true, runDef_eq, start3, finR, sSeq, sSet, sExpr, sRet, sRetN, sIf, sPar2, sAsg, sSetIx, sNil, RS.andThen_nx, RS.andThen_rt, RS.andThen_exn, R.toS_ok, R.toS_exn, kv, kc, k1, k2, kA0, kA1, kF, kM, kIf, kTr, kTb, tAnd3, tOr3, tNot3, kAndV, kOrV, kNotV, kChain, R.bind_ok, R.bind_exn, gN, gT, gs0, gs1, List.map_cons, List.map_nil, List.length_cons, List.length_nil, List.replicate, List.cons_append, List.nil_append, List.getElem?_cons_zero, List.getElem?_cons_succ, List.set_cons_zero, List.set_cons_succ, Nat.reduceAdd, Nat.reduceSub, if_true, if_false, Bool.false_eq_true, Bool.true_eq_false, reduceIte, Bool.not_true, Bool.not_false, Option.bind_some, decide_true, decide_false, frzF, tupF, listZ, addD, subD, mulD, fdivD, modD, cmpD, ltD, leD, gtD, geD, negD, absF, maxF, minF, intF, truD, strF, inY_tt]
  congr 2
  unfold oneB
  rw [← Bool.decide_or, decide_eq_decide]
  omega
theorem narrow_ok {ro : L3.Run} {w h l : Int} (ho : Ans ro [sz w h l] (.bl (oneB w h l))) : Ans (runDef 4 1 (b_is_narrow ro)) [sz w h l] (.bl (narrowB w h l)) := by
  intro st
  have q : mulOk 2 l := mulOk_small (by decide)
  simp only [b_is_narrow, Int.cast_ofNat_Int, Nat.zero_add, Int.reduceEq, Int.reduceNe, Int.reduceLT, Int.reduceLE, Int.reduceGT, Int.reduceGE, Int.reduceAdd, Int.reduceSub, Int.reduceMul, Int.reduceNeg, Int.reduceMod, Int.reduceDiv, Nat.reduceLeDiff, slZ_tup, eqD_int, neD_int, eqD_bl, neD_bl, ixT0, ixT1, ixT2, ixF0, ixF1, ixF2, lenT, lenZ, addZ_frz, addZ_loc_frz, addL_loc_frz, beq_self_eq_true, runDef_eq, start3, finR, sSeq, sSet, sExpr, sRet, sRetN, sIf, sPar2, sAsg, sSetIx, sNil, RS.andThen_nx, RS.andThen_rt, RS.andThen_exn, R.toS_ok, R.toS_exn, kv, kc, k1, k2, kA0, kA1, kF, kM, kIf, kTr, kTb, tAnd3, tOr3, tNot3, kAndV, kOrV, kNotV, kChain, R.bind_ok, R.bind_exn, gN, gT, gs0, gs1, List.map_cons, List.map_nil, List.length_cons, List.length_nil, List.replicate, List.cons_append, List.nil_append, List.getElem?_cons_zero, List.getElem?_cons_succ, List.set_cons_zero, List.set_cons_succ, Nat.reduceAdd, Nat.reduceSub, if_true, if_false, Bool.false_eq_true, Bool.true_eq_false, reduceIte, Bool.not_true, Bool.not_false, Option.bind_some, decide_true, decide_false, frzF, tupF, listZ, addD, subD, mulD, fdivD, modD, cmpD, ltD, leD, gtD, geD, negD, absF, maxF, minF, intF, truD, strF, q, narrowB]
  by_cases h1 : (if h < w then h else w) ≤ 2 * l
  · simp only [h1, Int.cast_ofNat_Int, Nat.zero_add, Int.reduceEq, Int.reduceNe, Int.reduceLT, Int.reduceLE, Int.reduceGT, Int.reduceGE, Int.reduceAdd, Int.reduceSub, Int.reduceMul, Int.reduceNeg, Int.reduceMod, Int.reduceDiv, Nat.reduceLeDiff, slZ_tup, eqD_int, neD_int, eqD_bl, neD_bl, ixT0, ixT1, ixT2, ixF0, ixF1, ixF2, lenT, lenZ, addZ_frz, addZ_loc_frz, addL_loc_frz, beq_self_eq_true, runDef_eq, start3, finR, sSeq, sSet, sExpr, sRet, sRetN, sIf, sPar2, sAsg, sSetIx, sNil, RS.andThen_nx, RS.andThen_rt, RS.andThen_exn, R.toS_ok, R.toS_exn, kv, kc, k1, k2, kA0, kA1, kF, kM, kIf, kTr, kTb, tAnd3, tOr3, tNot3, kAndV, kOrV, kNotV, kChain, R.bind_ok, R.bind_exn, gN, gT, gs0, gs1, List.map_cons, List.map_nil, List.length_cons, List.length_nil, List.replicate, List.cons_append, List.nil_append, List.getElem?_cons_zero, List.getElem?_cons_succ, List.set_cons_zero, List.set_cons_succ, Nat.reduceAdd, Nat.reduceSub, if_true, if_false, Bool.false_eq_true, Bool.true_eq_false, reduceIte, Bool.not_true, Bool.not_false, Option.bind_some, decide_true, decide_false, frzF, tupF, listZ, addD, subD, mulD, fdivD, modD, cmpD, ltD, leD, gtD, geD, negD, absF, maxF, minF, intF, truD, strF, ho st, Bool.true_and]
  · simp only [h1, Int.cast_ofNat_Int, Nat.zero_add, Int.reduceEq, Int.reduceNe, Int.reduceLT, Int.reduceLE, Int.reduceGT, Int.reduceGE, Int.reduceAdd, Int.reduceSub, Int.reduceMul, Int.reduceNeg, Int.reduceMod, Int.reduceDiv, Nat.reduceLeDiff, slZ_tup, eqD_int, neD_int, eqD_bl, neD_bl, ixT0, ixT1, ixT2, ixF0, ixF1, ixF2, lenT, lenZ, addZ_frz, addZ_loc_frz, addL_loc_frz, beq_self_eq_true, runDef_eq, start3, finR, sSeq, sSet, sExpr, sRet, sRetN, sIf, sPar2, sAsg, sSetIx, sNil, RS.andThen_nx, RS.andThen_rt, RS.andThen_exn, R.toS_ok, R.toS_exn, kv, kc, k1, k2, kA0, kA1, kF, kM, kIf, kTr, kTb, tAnd3, tOr3, tNot3, kAndV, kOrV, kNotV, kChain, R.bind_ok, R.bind_exn, gN, gT, gs0, gs1, List.map_cons, List.map_nil, List.length_cons, List.length_nil, List.replicate, List.cons_append, List.nil_append, List.getElem?_cons_zero, List.getElem?_cons_succ, List.set_cons_zero, List.set_cons_succ, Nat.reduceAdd, Nat.reduceSub, if_true, if_false, Bool.false_eq_true, Bool.true_eq_false, reduceIte, Bool.not_true, Bool.not_false, Option.bind_some, decide_true, decide_false, frzF, tupF, listZ, addD, subD, mulD, fdivD, modD, cmpD, ltD, leD, gtD, geD, negD, absF, maxF, minF, intF, truD, strF, Bool.false_and]
theorem bond_ok {rl rn : L3.Run} {w h l : Int} (hl : Ans rl [sz w h l] (.bl (laidB w h l))) (hn : Ans rn [sz w h l] (.bl (narrowB w h l))) : Ans (runDef 1 1 (b_has_bond rl rn)) [sz w h l] (.bl (bondB w h l)) := by
  intro st
  simp only [b_has_bond, Int.cast_ofNat_Int, Nat.zero_add, Int.reduceEq, Int.reduceNe, Int.reduceLT, Int.reduceLE, Int.reduceGT, Int.reduceGE, Int.reduceAdd, Int.reduceSub, Int.reduceMul, Int.reduceNeg, Int.reduceMod, Int.reduceDiv, Nat.reduceLeDiff, slZ_tup, eqD_int, neD_int, eqD_bl, neD_bl, ixT0, ixT1, ixT2, ixF0, ixF1, ixF2, lenT, lenZ, addZ_frz, addZ_loc_frz, addL_loc_frz, beq_self_eq_true, runDef_eq, start3, finR, sSeq, sSet, sExpr, sRet, sRetN, sIf, sPar2, sAsg, sSetIx, sNil, RS.andThen_nx, RS.andThen_rt, RS.andThen_exn, R.toS_ok, R.toS_exn, kv, kc, k1, k2, kA0, kA1, kF, kM, kIf, kTr, kTb, tAnd3, tOr3, tNot3, kAndV, kOrV, kNotV, kChain, R.bind_ok, R.bind_exn, gN, gT, gs0, gs1, List.map_cons, List.map_nil, List.length_cons, List.length_nil, List.replicate, List.cons_append, List.nil_append, List.getElem?_cons_zero, List.getElem?_cons_succ, List.set_cons_zero, List.set_cons_succ, Nat.reduceAdd, Nat.reduceSub, if_true, if_false, Bool.false_eq_true, Bool.true_eq_false, reduceIte, Bool.not_true, Bool.not_false, Option.bind_some, decide_true, decide_false, frzF, tupF, listZ, addD, subD, mulD, fdivD, modD, cmpD, ltD, leD, gtD, geD, negD, absF, maxF, minF, intF, truD, strF, hl st, hn st, eqG_sz, bondB]
  cases laidB w h l
  · simp only [Int.cast_ofNat_Int, Nat.zero_add, Int.reduceEq, Int.reduceNe, Int.reduceLT, Int.reduceLE, Int.reduceGT, Int.reduceGE, Int.reduceAdd, Int.reduceSub, Int.reduceMul, Int.reduceNeg, Int.reduceMod, Int.reduceDiv, Nat.reduceLeDiff, slZ_tup, eqD_int, neD_int, eqD_bl, neD_bl, ixT0, ixT1, ixT2, ixF0, ixF1, ixF2, lenT, lenZ, addZ_frz, addZ_loc_frz, addL_loc_frz, beq_self_eq_true, runDef_eq, start3, finR, sSeq, sSet, sExpr, sRet, sRetN, sIf, sPar2, sAsg, sSetIx, sNil, RS.andThen_nx, RS.andThen_rt, RS.andThen_exn, R.toS_ok, R.toS_exn, kv, kc, k1, k2, kA0, kA1, kF, kM, kIf, kTr, kTb, tAnd3, tOr3, tNot3, kAndV, kOrV, kNotV, kChain, R.bind_ok, R.bind_exn, gN, gT, gs0, gs1, List.map_cons, List.map_nil, List.length_cons, List.length_nil, List.replicate, List.cons_append, List.nil_append, List.getElem?_cons_zero, List.getElem?_cons_succ, List.set_cons_zero, List.set_cons_succ, Nat.reduceAdd, Nat.reduceSub, if_true, if_false, Bool.false_eq_true, Bool.true_eq_false, reduceIte, Bool.not_true, Bool.not_false, Option.bind_some, decide_true, decide_false, frzF, tupF, listZ, addD, subD, mulD, fdivD, modD, cmpD, ltD, leD, gtD, geD, negD, absF, maxF, minF, intF, truD, strF, Bool.false_and]
  · cases narrowB w h l
    · simp only [Int.cast_ofNat_Int, Nat.zero_add, Int.reduceEq, Int.reduceNe, Int.reduceLT, Int.reduceLE, Int.reduceGT, Int.reduceGE, Int.reduceAdd, Int.reduceSub, Int.reduceMul, Int.reduceNeg, Int.reduceMod, Int.reduceDiv, Nat.reduceLeDiff, slZ_tup, eqD_int, neD_int, eqD_bl, neD_bl, ixT0, ixT1, ixT2, ixF0, ixF1, ixF2, lenT, lenZ, addZ_frz, addZ_loc_frz, addL_loc_frz, beq_self_eq_true, runDef_eq, start3, finR, sSeq, sSet, sExpr, sRet, sRetN, sIf, sPar2, sAsg, sSetIx, sNil, RS.andThen_nx, RS.andThen_rt, RS.andThen_exn, R.toS_ok, R.toS_exn, kv, kc, k1, k2, kA0, kA1, kF, kM, kIf, kTr, kTb, tAnd3, tOr3, tNot3, kAndV, kOrV, kNotV, kChain, R.bind_ok, R.bind_exn, gN, gT, gs0, gs1, List.map_cons, List.map_nil, List.length_cons, List.length_nil, List.replicate, List.cons_append, List.nil_append, List.getElem?_cons_zero, List.getElem?_cons_succ, List.set_cons_zero, List.set_cons_succ, Nat.reduceAdd, Nat.reduceSub, if_true, if_false, Bool.false_eq_true, Bool.true_eq_false, reduceIte, Bool.not_true, Bool.not_false, Option.bind_some, decide_true, decide_false, frzF, tupF, listZ, addD, subD, mulD, fdivD, modD, cmpD, ltD, leD, gtD, geD, negD, absF, maxF, minF, intF, truD, strF, Bool.true_and]
    · simp only [Int.cast_ofNat_Int, Nat.zero_add, Int.reduceEq, Int.reduceNe, Int.reduceLT, Int.reduceLE, Int.reduceGT, Int.reduceGE, Int.reduceAdd, Int.reduceSub, Int.reduceMul, Int.reduceNeg, Int.reduceMod, Int.reduceDiv, Nat.reduceLeDiff, slZ_tup, eqD_int, neD_int, eqD_bl, neD_bl, ixT0, ixT1, ixT2, ixF0, ixF1, ixF2, lenT, lenZ, addZ_frz, addZ_loc_frz, addL_loc_frz, beq_self_eq_true, runDef_eq, start3, finR, sSeq, sSet, sExpr, sRet, sRetN, sIf, sPar2, sAsg, sSetIx, sNil, RS.andThen_nx, RS.andThen_rt, RS.andThen_exn, R.toS_ok, R.toS_exn, kv, kc, k1, k2, kA0, kA1, kF, kM, kIf, kTr, kTb, tAnd3, tOr3, tNot3, kAndV, kOrV, kNotV, kChain, R.bind_ok, R.bind_exn, gN, gT, gs0, gs1, List.map_cons, List.map_nil, List.length_cons, List.length_nil, List.replicate, List.cons_append, List.nil_append, List.getElem?_cons_zero, List.getElem?_cons_succ, List.set_cons_zero, List.set_cons_succ, Nat.reduceAdd, Nat.reduceSub, if_true, if_false, Bool.false_eq_true, Bool.true_eq_false, reduceIte, Bool.not_true, Bool.not_false, Option.bind_some, decide_true, decide_false, frzF, tupF, listZ, addD, subD, mulD, fdivD, modD, cmpD, ltD, leD, gtD, geD, negD, absF, maxF, minF, intF, truD, strF, Bool.true_and, Bool.false_and]
theorem needAl_ok {s o l : Int} (h1 : 1 ≤ s) (h2 : s ≤ 1000000000000000000000000000000) (l1 : 2 ≤ l) (l2 : l ≤ 1000000000000000000000000000000) : Ans (runDef 5 3 b_need_along) [.int s, .int o, .int l] (.int (needAl s o l)) := by
  intro st
  have h0 : 0 < l := by omega
  have dl : divOk l := divOk_pos h0 l2
  obtain ⟨v, hv⟩ : ∃ v : Int, v = (s - 1) / l := ⟨_, rfl⟩
  have v1 : 0 ≤ v ∧ v ≤ s - 1 := by rw [hv]; exact ⟨Int.ediv_nonneg (by omega) (by omega), Int.ediv_le_self _ (by omega)⟩
  have r1 : 0 ≤ o % l ∧ o % l < l := ⟨Int.emod_nonneg _ (by omega), Int.emod_lt_of_pos _ h0⟩
  have q1 : mulOk v l := mulOk_big (by omega) (by omega)
  have q2 : mulOk (s - 1 - v) (o % l) := mulOk_big (by omega) (by omega)
  have q3 : mulOk (s - 1 - v) l := mulOk_big (by omega) (by omega)
  simp only [b_need_along, Int.cast_ofNat_Int, Nat.zero_add, Int.reduceEq, Int.reduceNe, Int.reduceLT, Int.reduceLE, Int.reduceGT, Int.reduceGE, Int.reduceAdd, Int.reduceSub, Int.reduceMul, Int.reduceNeg, Int.reduceMod, Int.reduceDiv, Nat.reduceLeDiff, slZ_tup, eqD_int, neD_int, eqD_bl, neD_bl, ixT0, ixT1, ixT2, ixF0, ixF1, ixF2, lenT, lenZ, addZ_frz, addZ_loc_frz, addL_loc_frz, beq_self_eq_true, runDef_eq, start3, finR, sSeq, sSet, sExpr, sRet, sRetN, sIf, sPar2, sAsg, sSetIx, sNil, RS.andThen_nx, RS.andThen_rt, RS.andThen_exn, R.toS_ok, R.toS_exn, kv, kc, k1, k2, kA0, kA1, kF, kM, kIf, kTr, kTb, tAnd3, tOr3, tNot3, kAndV, kOrV, kNotV, kChain, R.bind_ok, R.bind_exn, gN, gT, gs0, gs1, List.map_cons, List.map_nil, List.length_cons, List.length_nil, List.replicate, List.cons_append, List.nil_append, List.getElem?_cons_zero, List.getElem?_cons_succ, List.set_cons_zero, List.set_cons_succ, Nat.reduceAdd, Nat.reduceSub, if_true, if_false, Bool.false_eq_true, Bool.true_eq_false, reduceIte, Bool.not_true, Bool.not_false, Option.bind_some, decide_true, decide_false, frzF, tupF, listZ, addD, subD, mulD, fdivD, modD, cmpD, ltD, leD, gtD, geD, negD, absF, maxF, minF, intF, truD, strF, dl, ← hv, q1, h0, needAl]
  by_cases hz : o % l = 0
  · have e : (o % l != 0) = false := by simp [hz]
    simp only [Int.cast_ofNat_Int, Nat.zero_add, Int.reduceEq, Int.reduceNe, Int.reduceLT, Int.reduceLE, Int.reduceGT, Int.reduceGE, Int.reduceAdd, Int.reduceSub, Int.reduceMul, Int.reduceNeg, Int.reduceMod, Int.reduceDiv, Nat.reduceLeDiff, slZ_tup, eqD_int, neD_int, eqD_bl, neD_bl, ixT0, ixT1, ixT2, ixF0, ixF1, ixF2, lenT, lenZ, addZ_frz, addZ_loc_frz, addL_loc_frz, beq_self_eq_true, runDef_eq, start3, finR, sSeq, sSet, sExpr, sRet, sRetN, sIf, sPar2, sAsg, sSetIx, sNil, RS.andThen_nx, RS.andThen_rt, RS.andThen_exn, R.toS_ok, R.toS_exn, kv, kc, k1, k2, kA0, kA1, kF, kM, kIf, kTr, kTb, tAnd3, tOr3, tNot3, kAndV, kOrV, kNotV, kChain, R.bind_ok, R.bind_exn, gN, gT, gs0, gs1, List.map_cons, List.map_nil, List.length_cons, List.length_nil, List.replicate, List.cons_append, List.nil_append, List.getElem?_cons_zero, List.getElem?_cons_succ, List.set_cons_zero, List.set_cons_succ, Nat.reduceAdd, Nat.reduceSub, if_true, if_false, Bool.false_eq_true, Bool.true_eq_false, reduceIte, Bool.not_true, Bool.not_false, Option.bind_some, decide_true, decide_false, frzF, tupF, listZ, addD, subD, mulD, fdivD, modD, cmpD, ltD, leD, gtD, geD, negD, absF, maxF, minF, intF, truD, strF, e, hz, q3]
    rw [bne_self_eq_false]
    simp only [Int.cast_ofNat_Int, Nat.zero_add, Int.reduceEq, Int.reduceNe, Int.reduceLT, Int.reduceLE, Int.reduceGT, Int.reduceGE, Int.reduceAdd, Int.reduceSub, Int.reduceMul, Int.reduceNeg, Int.reduceMod, Int.reduceDiv, Nat.reduceLeDiff, slZ_tup, eqD_int, neD_int, eqD_bl, neD_bl, ixT0, ixT1, ixT2, ixF0, ixF1, ixF2, lenT, lenZ, addZ_frz, addZ_loc_frz, addL_loc_frz, beq_self_eq_true, runDef_eq, start3, finR, sSeq, sSet, sExpr, sRet, sRetN, sIf, sPar2, sAsg, sSetIx, sNil, RS.andThen_nx, RS.andThen_rt, RS.andThen_exn, R.toS_ok, R.toS_exn, kv, kc, k1, k2, kA0, kA1, kF, kM, kIf, kTr, kTb, tAnd3, tOr3, tNot3, kAndV, kOrV, kNotV, kChain, R.bind_ok, R.bind_exn, gN, gT, gs0, gs1, List.map_cons, List.map_nil, List.length_cons, List.length_nil, List.replicate, List.cons_append, List.nil_append, List.getElem?_cons_zero, List.getElem?_cons_succ, List.set_cons_zero, List.set_cons_succ, Nat.reduceAdd, Nat.reduceSub, if_true, if_false, Bool.false_eq_true, Bool.true_eq_false, reduceIte, Bool.not_true, Bool.not_false, Option.bind_some, decide_true, decide_false, frzF, tupF, listZ, addD, subD, mulD, fdivD, modD, cmpD, ltD, leD, gtD, geD, negD, absF, maxF, minF, intF, truD, strF, q3]
  · have e : (o % l != 0) = true := by simpa using hz
    simp only [Int.cast_ofNat_Int, Nat.zero_add, Int.reduceEq, Int.reduceNe, Int.reduceLT, Int.reduceLE, Int.reduceGT, Int.reduceGE, Int.reduceAdd, Int.reduceSub, Int.reduceMul, Int.reduceNeg, Int.reduceMod, Int.reduceDiv, Nat.reduceLeDiff, slZ_tup, eqD_int, neD_int, eqD_bl, neD_bl, ixT0, ixT1, ixT2, ixF0, ixF1, ixF2, lenT, lenZ, addZ_frz, addZ_loc_frz, addL_loc_frz, beq_self_eq_true, runDef_eq, start3, finR, sSeq, sSet, sExpr, sRet, sRetN, sIf, sPar2, sAsg, sSetIx, sNil, RS.andThen_nx, RS.andThen_rt, RS.andThen_exn, R.toS_ok, R.toS_exn, kv, kc, k1, k2, kA0, kA1, kF, kM, kIf, kTr, kTb, tAnd3, tOr3, tNot3, kAndV, kOrV, kNotV, kChain, R.bind_ok, R.bind_exn, gN, gT, gs0, gs1, List.map_cons, List.map_nil, List.length_cons, List.length_nil, List.replicate, List.cons_append, List.nil_append, List.getElem?_cons_zero, List.getElem?_cons_succ, List.set_cons_zero, List.set_cons_succ, Nat.reduceAdd, Nat.reduceSub, if_true, if_false, Bool.false_eq_true, Bool.true_eq_false, reduceIte, Bool.not_true, Bool.not_false, Option.bind_some, decide_true, decide_false, frzF, tupF, listZ, addD, subD, mulD, fdivD, modD, cmpD, ltD, leD, gtD, geD, negD, absF, maxF, minF, intF, truD, strF, e, hz, q2]
theorem needT_ok {rl rn : L3.Run} {w h l : Int} (z : Sz w h l) (hl : Ans rl [sz w h l] (.bl (laidB w h l))) (hlaid : laidB w h l = true) (h1 : Ans rn [.int w, .int h, .int l] (.int (needAl w h l))) (h2 : Ans rn [.int h, .int w, .int l] (.int (needAl h w l))) :
    Ans (runDef 4 1 (b_total_need rl rn)) [sz w h l] (.int (needT w h l)) := by
  intro st
  simp only [b_total_need, Int.cast_ofNat_Int, Nat.zero_add, Int.reduceEq, Int.reduceNe, Int.reduceLT, Int.reduceLE, Int.reduceGT, Int.reduceGE, Int.reduceAdd, Int.reduceSub, Int.reduceMul, Int.reduceNeg, Int.reduceMod, Int.reduceDiv, Nat.reduceLeDiff, slZ_tup, eqD_int, neD_int, eqD_bl, neD_bl, ixT0, ixT1, ixT2, ixF0, ixF1, ixF2, lenT, lenZ, addZ_frz, addZ_loc_frz, addL_loc_frz, beq_self_eq_true, runDef_eq, start3, finR, sSeq, sSet, sExpr, sRet, sRetN, sIf, sPar2, sAsg, sSetIx, sNil, RS.andThen_nx, RS.andThen_rt, RS.andThen_exn, R.toS_ok, R.toS_exn, kv, kc, k1, k2, kA0, kA1, kF, kM, kIf, kTr, kTb, tAnd3, tOr3, tNot3, kAndV, kOrV, kNotV, kChain, R.bind_ok, R.bind_exn, gN, gT, gs0, gs1, List.map_cons, List.map_nil, List.length_cons, List.length_nil, List.replicate, List.cons_append, List.nil_append, List.getElem?_cons_zero, List.getElem?_cons_succ, List.set_cons_zero, List.set_cons_succ, Nat.reduceAdd, Nat.reduceSub, if_true, if_false, Bool.false_eq_true, Bool.true_eq_false, reduceIte, Bool.not_true, Bool.not_false, Option.bind_some, decide_true, decide_false, frzF, tupF, listZ, addD, subD, mulD, fdivD, modD, cmpD, ltD, leD, gtD, geD, negD, absF, maxF, minF, intF, truD, strF, hl st, hlaid, h1 st, h2 st, needT]
theorem crossT_ok {rl : L3.Run} {w h l : Int} (z : Sz w h l) (hl : Ans rl [sz w h l] (.bl (laidB w h l))) (hlaid : laidB w h l = true) : Ans (runDef 4 1 (b_total_crossings rl)) [sz w h l] (.int (crossT w h l)) := by
  intro st
  have h0 : 0 < l := by have := z.l1; omega
  have dl : divOk l := divOk_pos h0 z.l2
  have b : 0 ≤ w * h ∧ w * h ≤ 1000000000000000000000000000000 * 1000000000000000000000000000000 := ⟨Int.mul_nonneg (by have := z.w1; omega) (by have := z.h1; omega), Int.mul_le_mul z.w2 z.h2 (by have := z.h1; omega) (by omega)⟩
  have v1 : 0 ≤ w * h / l ∧ w * h / l ≤ w * h := ⟨Int.ediv_nonneg b.1 (by omega), Int.ediv_le_self _ b.1⟩
  have q1 : mulOk w h := mulOk_big (by have := z.w1; have := z.w2; omega) (by have := z.h1; have := z.h2; omega)
  have q2 : mulOk (l - 1) (w * h / l) := mulOk_big (by have := z.l1; have := z.l2; omega) (by omega)
  simp only [b_total_crossings, Int.cast_ofNat_Int, Nat.zero_add, Int.reduceEq, Int.reduceNe, Int.reduceLT, Int.reduceLE, Int.reduceGT, Int.reduceGE, Int.reduceAdd, Int.reduceSub, Int.reduceMul, Int.reduceNeg, Int.reduceMod, Int.reduceDiv, Nat.reduceLeDiff, slZ_tup, eqD_int, neD_int, eqD_bl, neD_bl, ixT0, ixT1, ixT2, ixF0, ixF1, ixF2, lenT, lenZ, addZ_frz, addZ_loc_frz, addL_loc_frz, beq_self_eq_true, runDef_eq, start3, finR, sSeq, sSet, sExpr, sRet, sRetN, sIf, sPar2, sAsg, sSetIx, sNil, RS.andThen_nx, RS.andThen_rt, RS.andThen_exn, R.toS_ok, R.toS_exn, kv, kc, k1, k2, kA0, kA1, kF, kM, kIf, kTr, kTb, tAnd3, tOr3, tNot3, kAndV, kOrV, kNotV, kChain, R.bind_ok, R.bind_exn, gN, gT, gs0, gs1, List.map_cons, List.map_nil, List.length_cons, List.length_nil, List.replicate, List.cons_append, List.nil_append, List.getElem?_cons_zero, List.getElem?_cons_succ, List.set_cons_zero, List.set_cons_succ, Nat.reduceAdd, Nat.reduceSub, if_true, if_false, Bool.false_eq_true, Bool.true_eq_false, reduceIte, Bool.not_true, Bool.not_false, Option.bind_some, decide_true, decide_false, frzF, tupF, listZ, addD, subD, mulD, fdivD, modD, cmpD, ltD, leD, gtD, geD, negD, absF, maxF, minF, intF, truD, strF, hl st, hlaid, q1, dl, q2, crossT]
end Pg

namespace L3
open PySem L2
theorem sh1 {x : Str} (h : SeqAt.shaped (.str x) = true) : SeqAt.shaped (.tuple [.str x]) = true := by
  have b := SeqAt.canLay_of_shaped h
  simp only [PyData.canLay0] at b
  simp [SeqAt.shaped, PyData.canLay0, PyData.canLayAll0, PyData.depth, PyData.depthAll, b]
theorem eqD_t1 {x y : Str} {st : Sto} (hx : SeqAt.shaped (.str x) = true) (hy : SeqAt.shaped (.str y) = true) : eqD (.tup [.str x]) (.tup [.str y]) st = .ok (.bl (decide (x = y))) st := by
  have p : ∀ x : Str, pd st 40 (.tup [.str x]) = some (.tuple [.str x]) := fun _ => rfl
  simp only [eqD, p]
  rw [if_pos ⟨sh1 hx, sh1 hy⟩]
  simp only [PyData.eqv, PyData.eqvAll, Bool.and_true]
  congr 2
theorem shN : SeqAt.shaped (.str "narrow") = true := by decide +kernel
theorem shF : SeqAt.shaped (.str "few") = true := by decide +kernel
theorem shW : SeqAt.shaped (.str "weights") = true := by decide +kernel
end L3
namespace Pg
open PySem L2 L3
/-- the told reason against a bond of what cannot be laid -/
theorem reason_unlaid {rb rn rh : L3.Run} {w h l : Int} (z : Sz w h l) (hb : Ans rb [sz w h l] (.bl (bondB w h l))) (hn : Ans rn [sz w h l] (.bl (narrowB w h l))) (hh : Ans rh [sz w h l] (.bl (laidB w h l))) (hlaid : laidB w h l = false) :
    ∃ (x : Str) (ds : List D), (x = "narrow" ∨ x = "weights") ∧ Ans (runDef 5 1 (b_reason rb rn rh)) [sz w h l] (.tup (.str x :: ds)) := by
  have h0 : 0 < l := by have := z.l1; omega
  have e : bondB w h l = false := by unfold bondB; rw [hlaid, Bool.false_and]
  cases hnb : narrowB w h l with
  | true => exact ⟨"narrow", [], .inl rfl, fun st => by simp only [b_reason, Int.cast_ofNat_Int, Nat.zero_add, Int.reduceEq, Int.reduceNe, Int.reduceLT, Int.reduceLE, Int.reduceGT, Int.reduceGE, Int.reduceAdd, Int.reduceSub, Int.reduceMul, Int.reduceNeg, Int.reduceMod, Int.reduceDiv, Nat.reduceLeDiff, slZ_tup, eqD_int, neD_int, eqD_bl, neD_bl, ixT0, ixT1, ixT2, ixF0, ixF1, ixF2, lenT, lenZ, addZ_frz, addZ_loc_frz, addL_loc_frz, beq_self_eq_true, runDef_eq, start3, finR, sSeq, sSet, sExpr, sRet, sRetN, sIf, sPar2, sAsg, sSetIx, sNil, RS.andThen_nx, RS.andThen_rt, RS.andThen_exn, R.toS_ok, R.toS_exn, kv, kc, k1, k2, kA0, kA1, kF, kM, kIf, kTr, kTb, tAnd3, tOr3, tNot3, kAndV, kOrV, kNotV, kChain, R.bind_ok, R.bind_exn, gN, gT, gs0, gs1, List.map_cons, List.map_nil, List.length_cons, List.length_nil, List.replicate, List.cons_append, List.nil_append, List.getElem?_cons_zero, List.getElem?_cons_succ, List.set_cons_zero, List.set_cons_succ, Nat.reduceAdd, Nat.reduceSub, if_true, if_false, Bool.false_eq_true, Bool.true_eq_false, reduceIte, Bool.not_true, Bool.not_false, Option.bind_some, decide_true, decide_false, frzF, tupF, listZ, addD, subD, mulD, fdivD, modD, cmpD, ltD, leD, gtD, geD, negD, absF, maxF, minF, intF, truD, strF, hb st, e, hn st, hnb]⟩
  | false => exact ⟨"weights", _, .inr rfl, fun st => by simp only [b_reason, Int.cast_ofNat_Int, Nat.zero_add, Int.reduceEq, Int.reduceNe, Int.reduceLT, Int.reduceLE, Int.reduceGT, Int.reduceGE, Int.reduceAdd, Int.reduceSub, Int.reduceMul, Int.reduceNeg, Int.reduceMod, Int.reduceDiv, Nat.reduceLeDiff, slZ_tup, eqD_int, neD_int, eqD_bl, neD_bl, ixT0, ixT1, ixT2, ixF0, ixF1, ixF2, lenT, lenZ, addZ_frz, addZ_loc_frz, addL_loc_frz, beq_self_eq_true, runDef_eq, start3, finR, sSeq, sSet, sExpr, sRet, sRetN, sIf, sPar2, sAsg, sSetIx, sNil, RS.andThen_nx, RS.andThen_rt, RS.andThen_exn, R.toS_ok, R.toS_exn, kv, kc, k1, k2, kA0, kA1, kF, kM, kIf, kTr, kTb, tAnd3, tOr3, tNot3, kAndV, kOrV, kNotV, kChain, R.bind_ok, R.bind_exn, gN, gT, gs0, gs1, List.map_cons, List.map_nil, List.length_cons, List.length_nil, List.replicate, List.cons_append, List.nil_append, List.getElem?_cons_zero, List.getElem?_cons_succ, List.set_cons_zero, List.set_cons_succ, Nat.reduceAdd, Nat.reduceSub, if_true, if_false, Bool.false_eq_true, Bool.true_eq_false, reduceIte, Bool.not_true, Bool.not_false, Option.bind_some, decide_true, decide_false, frzF, tupF, listZ, addD, subD, mulD, fdivD, modD, cmpD, ltD, leD, gtD, geD, negD, absF, maxF, minF, intF, truD, strF, hb st, e, hn st, hnb, hh st, hlaid, h0]; rfl⟩
/-- few, for what cannot be laid -/
theorem few_unlaid {rh rt rc : L3.Run} {w h l : Int} (hh : Ans rh [sz w h l] (.bl (laidB w h l))) (hlaid : laidB w h l = false) : Ans (runDef 1 1 (b_is_few rh rt rc)) [sz w h l] (.bl false) := fun st => by
  simp only [b_is_few, Int.cast_ofNat_Int, Nat.zero_add, Int.reduceEq, Int.reduceNe, Int.reduceLT, Int.reduceLE, Int.reduceGT, Int.reduceGE, Int.reduceAdd, Int.reduceSub, Int.reduceMul, Int.reduceNeg, Int.reduceMod, Int.reduceDiv, Nat.reduceLeDiff, slZ_tup, eqD_int, neD_int, eqD_bl, neD_bl, ixT0, ixT1, ixT2, ixF0, ixF1, ixF2, lenT, lenZ, addZ_frz, addZ_loc_frz, addL_loc_frz, beq_self_eq_true, runDef_eq, start3, finR, sSeq, sSet, sExpr, sRet, sRetN, sIf, sPar2, sAsg, sSetIx, sNil, RS.andThen_nx, RS.andThen_rt, RS.andThen_exn, R.toS_ok, R.toS_exn, kv, kc, k1, k2, kA0, kA1, kF, kM, kIf, kTr, kTb, tAnd3, tOr3, tNot3, kAndV, kOrV, kNotV, kChain, R.bind_ok, R.bind_exn, gN, gT, gs0, gs1, List.map_cons, List.map_nil, List.length_cons, List.length_nil, List.replicate, List.cons_append, List.nil_append, List.getElem?_cons_zero, List.getElem?_cons_succ, List.set_cons_zero, List.set_cons_succ, Nat.reduceAdd, Nat.reduceSub, if_true, if_false, Bool.false_eq_true, Bool.true_eq_false, reduceIte, Bool.not_true, Bool.not_false, Option.bind_some, decide_true, decide_false, frzF, tupF, listZ, addD, subD, mulD, fdivD, modD, cmpD, ltD, leD, gtD, geD, negD, absF, maxF, minF, intF, truD, strF, hh st, hlaid]
theorem isReason_few {rs rn rf rw' : L3.Run} {w h l : Int} {b : Bool} (hs : Ans rs [sz w h l] (.bl true)) (hf : Ans rf [sz w h l] (.bl b)) : Ans (runDef 2 2 (b_is_reason rs rn rf rw')) [sz w h l, .tup [.str "few"]] (.bl b) := fun st => by
  have it : isF "tuple" (.tup [.str "few"]) st = .ok (.bl true) st := isF_of rfl kb_tuple_tuple
  have e1 : decide (("few" : Str) = "narrow") = false := by decide +kernel
  simp only [b_is_reason, Int.cast_ofNat_Int, Nat.zero_add, Int.reduceEq, Int.reduceNe, Int.reduceLT, Int.reduceLE, Int.reduceGT, Int.reduceGE, Int.reduceAdd, Int.reduceSub, Int.reduceMul, Int.reduceNeg, Int.reduceMod, Int.reduceDiv, Nat.reduceLeDiff, slZ_tup, eqD_int, neD_int, eqD_bl, neD_bl, ixT0, ixT1, ixT2, ixF0, ixF1, ixF2, lenT, lenZ, addZ_frz, addZ_loc_frz, addL_loc_frz, beq_self_eq_true, runDef_eq, start3, finR, sSeq, sSet, sExpr, sRet, sRetN, sIf, sPar2, sAsg, sSetIx, sNil, RS.andThen_nx, RS.andThen_rt, RS.andThen_exn, R.toS_ok, R.toS_exn, kv, kc, k1, k2, kA0, kA1, kF, kM, kIf, kTr, kTb, tAnd3, tOr3, tNot3, kAndV, kOrV, kNotV, kChain, R.bind_ok, R.bind_exn, gN, gT, gs0, gs1, List.map_cons, List.map_nil, List.length_cons, List.length_nil, List.replicate, List.cons_append, List.nil_append, List.getElem?_cons_zero, List.getElem?_cons_succ, List.set_cons_zero, List.set_cons_succ, Nat.reduceAdd, Nat.reduceSub, if_true, if_false, Bool.false_eq_true, Bool.true_eq_false, reduceIte, Bool.not_true, Bool.not_false, Option.bind_some, decide_true, decide_false, frzF, tupF, listZ, addD, subD, mulD, fdivD, modD, cmpD, ltD, leD, gtD, geD, negD, absF, maxF, minF, intF, truD, strF, hs st, it, eqD_t1 shF shN, eqD_t1 shF shF, e1, hf st]
theorem flat_ok {w h l : Int} (w2 : w ≤ 1000000000000000000000000000000) (l1 : 2 ≤ l) (l2 : l ≤ 1000000000000000000000000000000) : Ans (runDef 5 3 b_fewest_in_flat) [.int w, .int h, .int l] (.int (flatF w h l)) := fun st => by
  have h0 : 0 < l := by omega
  have dl : divOk l := divOk_pos h0 l2
  simp only [b_fewest_in_flat, Int.cast_ofNat_Int, Nat.zero_add, Int.reduceEq, Int.reduceNe, Int.reduceLT, Int.reduceLE, Int.reduceGT, Int.reduceGE, Int.reduceAdd, Int.reduceSub, Int.reduceMul, Int.reduceNeg, Int.reduceMod, Int.reduceDiv, Nat.reduceLeDiff, slZ_tup, eqD_int, neD_int, eqD_bl, neD_bl, ixT0, ixT1, ixT2, ixF0, ixF1, ixF2, lenT, lenZ, addZ_frz, addZ_loc_frz, addL_loc_frz, beq_self_eq_true, runDef_eq, start3, finR, sSeq, sSet, sExpr, sRet, sRetN, sIf, sPar2, sAsg, sSetIx, sNil, RS.andThen_nx, RS.andThen_rt, RS.andThen_exn, R.toS_ok, R.toS_exn, kv, kc, k1, k2, kA0, kA1, kF, kM, kIf, kTr, kTb, tAnd3, tOr3, tNot3, kAndV, kOrV, kNotV, kChain, R.bind_ok, R.bind_exn, gN, gT, gs0, gs1, List.map_cons, List.map_nil, List.length_cons, List.length_nil, List.replicate, List.cons_append, List.nil_append, List.getElem?_cons_zero, List.getElem?_cons_succ, List.set_cons_zero, List.set_cons_succ, Nat.reduceAdd, Nat.reduceSub, if_true, if_false, Bool.false_eq_true, Bool.true_eq_false, reduceIte, Bool.not_true, Bool.not_false, Option.bind_some, decide_true, decide_false, frzF, tupF, listZ, addD, subD, mulD, fdivD, modD, cmpD, ltD, leD, gtD, geD, negD, absF, maxF, minF, intF, truD, strF, dl, h0, flatF]
  by_cases h1 : h < l
  · simp only [h1, Int.cast_ofNat_Int, Nat.zero_add, Int.reduceEq, Int.reduceNe, Int.reduceLT, Int.reduceLE, Int.reduceGT, Int.reduceGE, Int.reduceAdd, Int.reduceSub, Int.reduceMul, Int.reduceNeg, Int.reduceMod, Int.reduceDiv, Nat.reduceLeDiff, slZ_tup, eqD_int, neD_int, eqD_bl, neD_bl, ixT0, ixT1, ixT2, ixF0, ixF1, ixF2, lenT, lenZ, addZ_frz, addZ_loc_frz, addL_loc_frz, beq_self_eq_true, runDef_eq, start3, finR, sSeq, sSet, sExpr, sRet, sRetN, sIf, sPar2, sAsg, sSetIx, sNil, RS.andThen_nx, RS.andThen_rt, RS.andThen_exn, R.toS_ok, R.toS_exn, kv, kc, k1, k2, kA0, kA1, kF, kM, kIf, kTr, kTb, tAnd3, tOr3, tNot3, kAndV, kOrV, kNotV, kChain, R.bind_ok, R.bind_exn, gN, gT, gs0, gs1, List.map_cons, List.map_nil, List.length_cons, List.length_nil, List.replicate, List.cons_append, List.nil_append, List.getElem?_cons_zero, List.getElem?_cons_succ, List.set_cons_zero, List.set_cons_succ, Nat.reduceAdd, Nat.reduceSub, if_true, if_false, Bool.false_eq_true, Bool.true_eq_false, reduceIte, Bool.not_true, Bool.not_false, Option.bind_some, decide_true, decide_false, frzF, tupF, listZ, addD, subD, mulD, fdivD, modD, cmpD, ltD, leD, gtD, geD, negD, absF, maxF, minF, intF, truD, strF]
  · by_cases h2 : 0 < w % l
    · simp only [h1, h2, Int.cast_ofNat_Int, Nat.zero_add, Int.reduceEq, Int.reduceNe, Int.reduceLT, Int.reduceLE, Int.reduceGT, Int.reduceGE, Int.reduceAdd, Int.reduceSub, Int.reduceMul, Int.reduceNeg, Int.reduceMod, Int.reduceDiv, Nat.reduceLeDiff, slZ_tup, eqD_int, neD_int, eqD_bl, neD_bl, ixT0, ixT1, ixT2, ixF0, ixF1, ixF2, lenT, lenZ, addZ_frz, addZ_loc_frz, addL_loc_frz, beq_self_eq_true, runDef_eq, start3, finR, sSeq, sSet, sExpr, sRet, sRetN, sIf, sPar2, sAsg, sSetIx, sNil, RS.andThen_nx, RS.andThen_rt, RS.andThen_exn, R.toS_ok, R.toS_exn, kv, kc, k1, k2, kA0, kA1, kF, kM, kIf, kTr, kTb, tAnd3, tOr3, tNot3, kAndV, kOrV, kNotV, kChain, R.bind_ok, R.bind_exn, gN, gT, gs0, gs1, List.map_cons, List.map_nil, List.length_cons, List.length_nil, List.replicate, List.cons_append, List.nil_append, List.getElem?_cons_zero, List.getElem?_cons_succ, List.set_cons_zero, List.set_cons_succ, Nat.reduceAdd, Nat.reduceSub, if_true, if_false, Bool.false_eq_true, Bool.true_eq_false, reduceIte, Bool.not_true, Bool.not_false, Option.bind_some, decide_true, decide_false, frzF, tupF, listZ, addD, subD, mulD, fdivD, modD, cmpD, ltD, leD, gtD, geD, negD, absF, maxF, minF, intF, truD, strF]
    · simp only [h1, h2, Int.cast_ofNat_Int, Nat.zero_add, Int.reduceEq, Int.reduceNe, Int.reduceLT, Int.reduceLE, Int.reduceGT, Int.reduceGE, Int.reduceAdd, Int.reduceSub, Int.reduceMul, Int.reduceNeg, Int.reduceMod, Int.reduceDiv, Nat.reduceLeDiff, slZ_tup, eqD_int, neD_int, eqD_bl, neD_bl, ixT0, ixT1, ixT2, ixF0, ixF1, ixF2, lenT, lenZ, addZ_frz, addZ_loc_frz, addL_loc_frz, beq_self_eq_true, runDef_eq, start3, finR, sSeq, sSet, sExpr, sRet, sRetN, sIf, sPar2, sAsg, sSetIx, sNil, RS.andThen_nx, RS.andThen_rt, RS.andThen_exn, R.toS_ok, R.toS_exn, kv, kc, k1, k2, kA0, kA1, kF, kM, kIf, kTr, kTb, tAnd3, tOr3, tNot3, kAndV, kOrV, kNotV, kChain, R.bind_ok, R.bind_exn, gN, gT, gs0, gs1, List.map_cons, List.map_nil, List.length_cons, List.length_nil, List.replicate, List.cons_append, List.nil_append, List.getElem?_cons_zero, List.getElem?_cons_succ, List.set_cons_zero, List.set_cons_succ, Nat.reduceAdd, Nat.reduceSub, if_true, if_false, Bool.false_eq_true, Bool.true_eq_false, reduceIte, Bool.not_true, Bool.not_false, Option.bind_some, decide_true, decide_false, frzF, tupF, listZ, addD, subD, mulD, fdivD, modD, cmpD, ltD, leD, gtD, geD, negD, absF, maxF, minF, intF, truD, strF]
theorem minI2 {a b : Int} : minI a [b] = if b < a then b else a := rfl
theorem maxI2 {a b : Int} : maxI a [b] = if a < b then b else a := rfl
theorem fewest_ok {rl rb rf : L3.Run} {w h l : Int} (z : Sz w h l) (hl : Ans rl [sz w h l] (.bl (laidB w h l))) (hlaid : laidB w h l = true) (hb : Ans rb [sz w h l] (.bl (bondB w h l)))
    (hf : Ans rf [.int (if w < h then h else w), .int (if h < w then h else w), .int l] (.int (flatF (if w < h then h else w) (if h < w then h else w) l))) : Ans (runDef 6 1 (b_fewest_seams rl rb rf)) [sz w h l] (.int (fewF w h l)) := fun st => by
  have h0 : 0 < l := by have := z.l1; omega
  have dl : divOk l := divOk_pos h0 z.l2
  have cut : cutD [D.int w, .int h, .int l] none (some 2) = [.int w, .int h] := rfl
  have mn : mmI false minF [.tup [.int w, .int h]] st = .ok (.int (if h < w then h else w)) st := rfl
  have mx : mmI true maxF [.tup [.int w, .int h]] st = .ok (.int (if w < h then h else w)) st := rfl
  have q : mulOk 2 l := mulOk_small (by decide)
  have hf := hf st
  unfold fewF
  generalize (if h < w then h else w) = a at mn hf ⊢
  generalize (if w < h then h else w) = b at mx hf ⊢
  simp only [b_fewest_seams, Int.cast_ofNat_Int, Nat.zero_add, Int.reduceEq, Int.reduceNe, Int.reduceLT, Int.reduceLE, Int.reduceGT, Int.reduceGE, Int.reduceAdd, Int.reduceSub, Int.reduceMul, Int.reduceNeg, Int.reduceMod, Int.reduceDiv, Nat.reduceLeDiff, slZ_tup, eqD_int, neD_int, eqD_bl, neD_bl, ixT0, ixT1, ixT2, ixF0, ixF1, ixF2, lenT, lenZ, addZ_frz, addZ_loc_frz, addL_loc_frz, beq_self_eq_true, runDef_eq, start3, finR, sSeq, sSet, sExpr, sRet, sRetN, sIf, sPar2, sAsg, sSetIx, sNil, RS.andThen_nx, RS.andThen_rt, RS.andThen_exn, R.toS_ok, R.toS_exn, kv, kc, k1, k2, kA0, kA1, kF, kM, kIf, kTr, kTb, tAnd3, tOr3, tNot3, kAndV, kOrV, kNotV, kChain, R.bind_ok, R.bind_exn, gN, gT, gs0, gs1, List.map_cons, List.map_nil, List.length_cons, List.length_nil, List.replicate, List.cons_append, List.nil_append, List.getElem?_cons_zero, List.getElem?_cons_succ, List.set_cons_zero, List.set_cons_succ, Nat.reduceAdd, Nat.reduceSub, if_true, if_false, Bool.false_eq_true, Bool.true_eq_false, reduceIte, Bool.not_true, Bool.not_false, Option.bind_some, decide_true, decide_false, frzF, tupF, listZ, addD, subD, mulD, fdivD, modD, cmpD, ltD, leD, gtD, geD, negD, absF, maxF, minF, intF, truD, strF, hl st, hlaid, hb st]
  cases bondB w h l with
  | true => simp only [Int.cast_ofNat_Int, Nat.zero_add, Int.reduceEq, Int.reduceNe, Int.reduceLT, Int.reduceLE, Int.reduceGT, Int.reduceGE, Int.reduceAdd, Int.reduceSub, Int.reduceMul, Int.reduceNeg, Int.reduceMod, Int.reduceDiv, Nat.reduceLeDiff, slZ_tup, eqD_int, neD_int, eqD_bl, neD_bl, ixT0, ixT1, ixT2, ixF0, ixF1, ixF2, lenT, lenZ, addZ_frz, addZ_loc_frz, addL_loc_frz, beq_self_eq_true, runDef_eq, start3, finR, sSeq, sSet, sExpr, sRet, sRetN, sIf, sPar2, sAsg, sSetIx, sNil, RS.andThen_nx, RS.andThen_rt, RS.andThen_exn, R.toS_ok, R.toS_exn, kv, kc, k1, k2, kA0, kA1, kF, kM, kIf, kTr, kTb, tAnd3, tOr3, tNot3, kAndV, kOrV, kNotV, kChain, R.bind_ok, R.bind_exn, gN, gT, gs0, gs1, List.map_cons, List.map_nil, List.length_cons, List.length_nil, List.replicate, List.cons_append, List.nil_append, List.getElem?_cons_zero, List.getElem?_cons_succ, List.set_cons_zero, List.set_cons_succ, Nat.reduceAdd, Nat.reduceSub, if_true, if_false, Bool.false_eq_true, Bool.true_eq_false, reduceIte, Bool.not_true, Bool.not_false, Option.bind_some, decide_true, decide_false, frzF, tupF, listZ, addD, subD, mulD, fdivD, modD, cmpD, ltD, leD, gtD, geD, negD, absF, maxF, minF, intF, truD, strF]
  | false =>
    simp only [Int.cast_ofNat_Int, Nat.zero_add, Int.reduceEq, Int.reduceNe, Int.reduceLT, Int.reduceLE, Int.reduceGT, Int.reduceGE, Int.reduceAdd, Int.reduceSub, Int.reduceMul, Int.reduceNeg, Int.reduceMod, Int.reduceDiv, Nat.reduceLeDiff, slZ_tup, eqD_int, neD_int, eqD_bl, neD_bl, ixT0, ixT1, ixT2, ixF0, ixF1, ixF2, lenT, lenZ, addZ_frz, addZ_loc_frz, addL_loc_frz, beq_self_eq_true, runDef_eq, start3, finR, sSeq, sSet, sExpr, sRet, sRetN, sIf, sPar2, sAsg, sSetIx, sNil, RS.andThen_nx, RS.andThen_rt, RS.andThen_exn, R.toS_ok, R.toS_exn, kv, kc, k1, k2, kA0, kA1, kF, kM, kIf, kTr, kTb, tAnd3, tOr3, tNot3, kAndV, kOrV, kNotV, kChain, R.bind_ok, R.bind_exn, gN, gT, gs0, gs1, List.map_cons, List.map_nil, List.length_cons, List.length_nil, List.replicate, List.cons_append, List.nil_append, List.getElem?_cons_zero, List.getElem?_cons_succ, List.set_cons_zero, List.set_cons_succ, Nat.reduceAdd, Nat.reduceSub, if_true, if_false, Bool.false_eq_true, Bool.true_eq_false, reduceIte, Bool.not_true, Bool.not_false, Option.bind_some, decide_true, decide_false, frzF, tupF, listZ, addD, subD, mulD, fdivD, modD, cmpD, ltD, leD, gtD, geD, negD, absF, maxF, minF, intF, truD, strF, kSz, kO0, kO1, cut, mn, mx]
    by_cases h1 : a ≤ l
    · simp only [h1, Int.cast_ofNat_Int, Nat.zero_add, Int.reduceEq, Int.reduceNe, Int.reduceLT, Int.reduceLE, Int.reduceGT, Int.reduceGE, Int.reduceAdd, Int.reduceSub, Int.reduceMul, Int.reduceNeg, Int.reduceMod, Int.reduceDiv, Nat.reduceLeDiff, slZ_tup, eqD_int, neD_int, eqD_bl, neD_bl, ixT0, ixT1, ixT2, ixF0, ixF1, ixF2, lenT, lenZ, addZ_frz, addZ_loc_frz, addL_loc_frz, beq_self_eq_true, runDef_eq, start3, finR, sSeq, sSet, sExpr, sRet, sRetN, sIf, sPar2, sAsg, sSetIx, sNil, RS.andThen_nx, RS.andThen_rt, RS.andThen_exn, R.toS_ok, R.toS_exn, kv, kc, k1, k2, kA0, kA1, kF, kM, kIf, kTr, kTb, tAnd3, tOr3, tNot3, kAndV, kOrV, kNotV, kChain, R.bind_ok, R.bind_exn, gN, gT, gs0, gs1, List.map_cons, List.map_nil, List.length_cons, List.length_nil, List.replicate, List.cons_append, List.nil_append, List.getElem?_cons_zero, List.getElem?_cons_succ, List.set_cons_zero, List.set_cons_succ, Nat.reduceAdd, Nat.reduceSub, if_true, if_false, Bool.false_eq_true, Bool.true_eq_false, reduceIte, Bool.not_true, Bool.not_false, Option.bind_some, decide_true, decide_false, frzF, tupF, listZ, addD, subD, mulD, fdivD, modD, cmpD, ltD, leD, gtD, geD, negD, absF, maxF, minF, intF, truD, strF, hf]
    · simp only [h1, Int.cast_ofNat_Int, Nat.zero_add, Int.reduceEq, Int.reduceNe, Int.reduceLT, Int.reduceLE, Int.reduceGT, Int.reduceGE, Int.reduceAdd, Int.reduceSub, Int.reduceMul, Int.reduceNeg, Int.reduceMod, Int.reduceDiv, Nat.reduceLeDiff, slZ_tup, eqD_int, neD_int, eqD_bl, neD_bl, ixT0, ixT1, ixT2, ixF0, ixF1, ixF2, lenT, lenZ, addZ_frz, addZ_loc_frz, addL_loc_frz, beq_self_eq_true, runDef_eq, start3, finR, sSeq, sSet, sExpr, sRet, sRetN, sIf, sPar2, sAsg, sSetIx, sNil, RS.andThen_nx, RS.andThen_rt, RS.andThen_exn, R.toS_ok, R.toS_exn, kv, kc, k1, k2, kA0, kA1, kF, kM, kIf, kTr, kTb, tAnd3, tOr3, tNot3, kAndV, kOrV, kNotV, kChain, R.bind_ok, R.bind_exn, gN, gT, gs0, gs1, List.map_cons, List.map_nil, List.length_cons, List.length_nil, List.replicate, List.cons_append, List.nil_append, List.getElem?_cons_zero, List.getElem?_cons_succ, List.set_cons_zero, List.set_cons_succ, Nat.reduceAdd, Nat.reduceSub, if_true, if_false, Bool.false_eq_true, Bool.true_eq_false, reduceIte, Bool.not_true, Bool.not_false, Option.bind_some, decide_true, decide_false, frzF, tupF, listZ, addD, subD, mulD, fdivD, modD, cmpD, ltD, leD, gtD, geD, negD, absF, maxF, minF, intF, truD, strF, dl, h0, q]
      by_cases h2 : a = 2 * l
      · by_cases h3 : b % l = 0
        · by_cases h4 : b / l = 2
          · simp only [h2, h3, h4, Int.cast_ofNat_Int, Nat.zero_add, Int.reduceEq, Int.reduceNe, Int.reduceLT, Int.reduceLE, Int.reduceGT, Int.reduceGE, Int.reduceAdd, Int.reduceSub, Int.reduceMul, Int.reduceNeg, Int.reduceMod, Int.reduceDiv, Nat.reduceLeDiff, slZ_tup, eqD_int, neD_int, eqD_bl, neD_bl, ixT0, ixT1, ixT2, ixF0, ixF1, ixF2, lenT, lenZ, addZ_frz, addZ_loc_frz, addL_loc_frz, beq_self_eq_true, runDef_eq, start3, finR, sSeq, sSet, sExpr, sRet, sRetN, sIf, sPar2, sAsg, sSetIx, sNil, RS.andThen_nx, RS.andThen_rt, RS.andThen_exn, R.toS_ok, R.toS_exn, kv, kc, k1, k2, kA0, kA1, kF, kM, kIf, kTr, kTb, tAnd3, tOr3, tNot3, kAndV, kOrV, kNotV, kChain, R.bind_ok, R.bind_exn, gN, gT, gs0, gs1, List.map_cons, List.map_nil, List.length_cons, List.length_nil, List.replicate, List.cons_append, List.nil_append, List.getElem?_cons_zero, List.getElem?_cons_succ, List.set_cons_zero, List.set_cons_succ, Nat.reduceAdd, Nat.reduceSub, if_true, if_false, Bool.false_eq_true, Bool.true_eq_false, reduceIte, Bool.not_true, Bool.not_false, Option.bind_some, decide_true, decide_false, frzF, tupF, listZ, addD, subD, mulD, fdivD, modD, cmpD, ltD, leD, gtD, geD, negD, absF, maxF, minF, intF, truD, strF, q, true_or, and_true]
          · by_cases h5 : l = 2
            · subst h5
              simp only [h2, h3, h4, Int.cast_ofNat_Int, Nat.zero_add, Int.reduceEq, Int.reduceNe, Int.reduceLT, Int.reduceLE, Int.reduceGT, Int.reduceGE, Int.reduceAdd, Int.reduceSub, Int.reduceMul, Int.reduceNeg, Int.reduceMod, Int.reduceDiv, Nat.reduceLeDiff, slZ_tup, eqD_int, neD_int, eqD_bl, neD_bl, ixT0, ixT1, ixT2, ixF0, ixF1, ixF2, lenT, lenZ, addZ_frz, addZ_loc_frz, addL_loc_frz, beq_self_eq_true, runDef_eq, start3, finR, sSeq, sSet, sExpr, sRet, sRetN, sIf, sPar2, sAsg, sSetIx, sNil, RS.andThen_nx, RS.andThen_rt, RS.andThen_exn, R.toS_ok, R.toS_exn, kv, kc, k1, k2, kA0, kA1, kF, kM, kIf, kTr, kTb, tAnd3, tOr3, tNot3, kAndV, kOrV, kNotV, kChain, R.bind_ok, R.bind_exn, gN, gT, gs0, gs1, List.map_cons, List.map_nil, List.length_cons, List.length_nil, List.replicate, List.cons_append, List.nil_append, List.getElem?_cons_zero, List.getElem?_cons_succ, List.set_cons_zero, List.set_cons_succ, Nat.reduceAdd, Nat.reduceSub, if_true, if_false, Bool.false_eq_true, Bool.true_eq_false, reduceIte, Bool.not_true, Bool.not_false, Option.bind_some, decide_true, decide_false, frzF, tupF, listZ, addD, subD, mulD, fdivD, modD, cmpD, ltD, leD, gtD, geD, negD, absF, maxF, minF, intF, truD, strF, q, or_true, and_true]
            · simp only [h2, h3, h4, h5, Int.cast_ofNat_Int, Nat.zero_add, Int.reduceEq, Int.reduceNe, Int.reduceLT, Int.reduceLE, Int.reduceGT, Int.reduceGE, Int.reduceAdd, Int.reduceSub, Int.reduceMul, Int.reduceNeg, Int.reduceMod, Int.reduceDiv, Nat.reduceLeDiff, slZ_tup, eqD_int, neD_int, eqD_bl, neD_bl, ixT0, ixT1, ixT2, ixF0, ixF1, ixF2, lenT, lenZ, addZ_frz, addZ_loc_frz, addL_loc_frz, beq_self_eq_true, runDef_eq, start3, finR, sSeq, sSet, sExpr, sRet, sRetN, sIf, sPar2, sAsg, sSetIx, sNil, RS.andThen_nx, RS.andThen_rt, RS.andThen_exn, R.toS_ok, R.toS_exn, kv, kc, k1, k2, kA0, kA1, kF, kM, kIf, kTr, kTb, tAnd3, tOr3, tNot3, kAndV, kOrV, kNotV, kChain, R.bind_ok, R.bind_exn, gN, gT, gs0, gs1, List.map_cons, List.map_nil, List.length_cons, List.length_nil, List.replicate, List.cons_append, List.nil_append, List.getElem?_cons_zero, List.getElem?_cons_succ, List.set_cons_zero, List.set_cons_succ, Nat.reduceAdd, Nat.reduceSub, if_true, if_false, Bool.false_eq_true, Bool.true_eq_false, reduceIte, Bool.not_true, Bool.not_false, Option.bind_some, decide_true, decide_false, frzF, tupF, listZ, addD, subD, mulD, fdivD, modD, cmpD, ltD, leD, gtD, geD, negD, absF, maxF, minF, intF, truD, strF, q, or_false, and_false, or_self]
        · simp only [h2, h3, Int.cast_ofNat_Int, Nat.zero_add, Int.reduceEq, Int.reduceNe, Int.reduceLT, Int.reduceLE, Int.reduceGT, Int.reduceGE, Int.reduceAdd, Int.reduceSub, Int.reduceMul, Int.reduceNeg, Int.reduceMod, Int.reduceDiv, Nat.reduceLeDiff, slZ_tup, eqD_int, neD_int, eqD_bl, neD_bl, ixT0, ixT1, ixT2, ixF0, ixF1, ixF2, lenT, lenZ, addZ_frz, addZ_loc_frz, addL_loc_frz, beq_self_eq_true, runDef_eq, start3, finR, sSeq, sSet, sExpr, sRet, sRetN, sIf, sPar2, sAsg, sSetIx, sNil, RS.andThen_nx, RS.andThen_rt, RS.andThen_exn, R.toS_ok, R.toS_exn, kv, kc, k1, k2, kA0, kA1, kF, kM, kIf, kTr, kTb, tAnd3, tOr3, tNot3, kAndV, kOrV, kNotV, kChain, R.bind_ok, R.bind_exn, gN, gT, gs0, gs1, List.map_cons, List.map_nil, List.length_cons, List.length_nil, List.replicate, List.cons_append, List.nil_append, List.getElem?_cons_zero, List.getElem?_cons_succ, List.set_cons_zero, List.set_cons_succ, Nat.reduceAdd, Nat.reduceSub, if_true, if_false, Bool.false_eq_true, Bool.true_eq_false, reduceIte, Bool.not_true, Bool.not_false, Option.bind_some, decide_true, decide_false, frzF, tupF, listZ, addD, subD, mulD, fdivD, modD, cmpD, ltD, leD, gtD, geD, negD, absF, maxF, minF, intF, truD, strF, q, false_and, and_false]
      · simp only [h2, Int.cast_ofNat_Int, Nat.zero_add, Int.reduceEq, Int.reduceNe, Int.reduceLT, Int.reduceLE, Int.reduceGT, Int.reduceGE, Int.reduceAdd, Int.reduceSub, Int.reduceMul, Int.reduceNeg, Int.reduceMod, Int.reduceDiv, Nat.reduceLeDiff, slZ_tup, eqD_int, neD_int, eqD_bl, neD_bl, ixT0, ixT1, ixT2, ixF0, ixF1, ixF2, lenT, lenZ, addZ_frz, addZ_loc_frz, addL_loc_frz, beq_self_eq_true, runDef_eq, start3, finR, sSeq, sSet, sExpr, sRet, sRetN, sIf, sPar2, sAsg, sSetIx, sNil, RS.andThen_nx, RS.andThen_rt, RS.andThen_exn, R.toS_ok, R.toS_exn, kv, kc, k1, k2, kA0, kA1, kF, kM, kIf, kTr, kTb, tAnd3, tOr3, tNot3, kAndV, kOrV, kNotV, kChain, R.bind_ok, R.bind_exn, gN, gT, gs0, gs1, List.map_cons, List.map_nil, List.length_cons, List.length_nil, List.replicate, List.cons_append, List.nil_append, List.getElem?_cons_zero, List.getElem?_cons_succ, List.set_cons_zero, List.set_cons_succ, Nat.reduceAdd, Nat.reduceSub, if_true, if_false, Bool.false_eq_true, Bool.true_eq_false, reduceIte, Bool.not_true, Bool.not_false, Option.bind_some, decide_true, decide_false, frzF, tupF, listZ, addD, subD, mulD, fdivD, modD, cmpD, ltD, leD, gtD, geD, negD, absF, maxF, minF, intF, truD, strF, false_and]
end Pg

/-! What is true of needs, crossings, bonds, the fewest seams: numbers alone. -/
namespace L3
open PySem L2
theorem laidB_comm (w h l : Int) : laidB w h l = laidB h w l := by unfold laidB; exact Bool.or_comm _ _
theorem oneB_comm (w h l : Int) : oneB w h l = oneB h w l := by unfold oneB; rw [decide_eq_decide]; omega
theorem minC (w h : Int) : (if h < w then h else w) = if w < h then w else h := by split <;> split <;> omega
theorem maxC (w h : Int) : (if w < h then h else w) = if h < w then w else h := by split <;> split <;> omega
theorem narrowB_comm (w h l : Int) : narrowB w h l = narrowB h w l := by unfold narrowB; rw [oneB_comm w h, minC]
theorem bondB_comm (w h l : Int) : bondB w h l = bondB h w l := by
  unfold bondB
  rw [laidB_comm w h, narrowB_comm w h]
  congr 3
  rw [decide_eq_decide]; omega
theorem fewF_comm (w h l : Int) : fewF w h l = fewF h w l := by
  unfold fewF
  rw [bondB_comm w h, minC w h, maxC w h]
theorem needT_comm (w h l : Int) : needT w h l = needT h w l := by unfold needT; rw [Int.add_comm]
theorem crossT_comm (w h l : Int) : crossT w h l = crossT h w l := by unfold crossT; rw [Int.mul_comm w h]
theorem bond_laid {w h l : Int} (b : bondB w h l = true) : laidB w h l = true := by
  unfold bondB at b; rw [Bool.and_eq_true] at b; exact b.1
theorem bond_wide {w h l : Int} (b : bondB w h l = true) (o : oneB w h l = false) : (w % l = 0 ∨ h % l = 0) ∧ 2 * l < w ∧ 2 * l < h ∧ ¬(w = 6 ∧ h = 6 ∧ l = 2) := by
  unfold bondB narrowB laidB at b
  simp only [o, Bool.not_false, Bool.and_true, Bool.and_eq_true, Bool.or_eq_true, decide_eq_true_eq, Bool.not_eq_true', decide_eq_false_iff_not] at b
  obtain ⟨b1, b2, b3⟩ := b
  refine ⟨b1, ?_, ?_, b3⟩
  · split at b2 <;> omega
  · split at b2 <;> omega
theorem bond_of {w h l : Int} (b1 : w % l = 0 ∨ h % l = 0) (b2 : 2 * l < w) (b3 : 2 * l < h) (b4 : ¬(w = 6 ∧ h = 6 ∧ l = 2)) : bondB w h l = true := by
  have n : (if h < w then h else w) ≤ 2 * l ↔ False := by split <;> exact iff_false_intro (by omega)
  unfold bondB narrowB laidB
  simp [n, b1, b4]
theorem one_cases {w h l : Int} (o : oneB w h l = true) : (w = 1 ∧ h = l) ∨ (w = l ∧ h = 1) := of_decide_eq_true o
theorem one_bond {w h l : Int} (hl : 2 ≤ l) (o : oneB w h l = true) : bondB w h l = true := by
  have n : narrowB w h l = false := by unfold narrowB; rw [o]; simp
  have m : laidB w h l = true := by
    unfold laidB
    rcases one_cases o with ⟨_, rfl⟩ | ⟨rfl, _⟩ <;> simp
  have c : ¬(w = 6 ∧ h = 6 ∧ l = 2) := by rcases one_cases o with z | z <;> omega
  unfold bondB
  rw [n, m]
  simp [c]
theorem wider_bond {w h l k : Int} (hl : 2 ≤ l) (hk : 1 ≤ k) (b : bondB w h l = true) (o : oneB w h l = false) : bondB (w + l * k) h l = true := by
  obtain ⟨b1, b2, b3, b4⟩ := bond_wide b o
  have p : 0 < l * k := Int.mul_pos (by omega) (by omega)
  refine bond_of ?_ (by omega) b3 (fun z => ?_)
  · rw [Int.add_mul_emod_self_left]; exact b1
  · obtain ⟨z1, z2, z3⟩ := z
    subst z3
    omega
theorem not_bond_one {w h l : Int} (hl : 2 ≤ l) (b : bondB w h l = false) : oneB w h l = false := by
  cases o : oneB w h l with
  | false => rfl
  | true => rw [one_bond hl o] at b; cases b
theorem flat_pos {a b l : Int} (hl : 2 ≤ l) (ha : 1 ≤ a) (hab : a ≤ b) (hal : a ≤ l) (laid : b % l = 0 ∨ a % l = 0) (o : ¬(a = 1 ∧ b = l)) : 1 ≤ flatF b a l := by
  have q : 0 ≤ b / l := Int.ediv_nonneg (by omega) (by omega)
  have r := Int.emod_nonneg b (show l ≠ 0 by omega)
  have dm := Int.mul_ediv_add_emod b l
  unfold flatF
  by_cases h1 : a < l
  · rw [if_pos h1]
    have hb : b % l = 0 := by
      rcases laid with z | z
      · exact z
      · rw [Int.emod_eq_of_lt (by omega) h1] at z; omega
    have q1 : 1 ≤ b / l := by
      by_cases z : b / l = 0
      · rw [z, hb] at dm; omega
      · omega
    by_cases a1 : a = 1
    · by_cases q2 : b / l = 1
      · rw [q2, hb] at dm
        exact absurd ⟨a1, by omega⟩ o
      · omega
    · omega
  · rw [if_neg h1]
    have q1 : 1 ≤ b / l := (Int.le_ediv_iff_mul_le (by omega)).mpr (by omega)
    split <;> omega
theorem few_pos {w h l : Int} (hl : 2 ≤ l) (hw : 1 ≤ w) (hh : 1 ≤ h) (laid : laidB w h l = true) (b : bondB w h l = false) : 1 ≤ fewF w h l := by
  have o := not_bond_one hl b
  have la : w % l = 0 ∨ h % l = 0 := by unfold laidB at laid; simpa using laid
  have o' : ¬((w = 1 ∧ h = l) ∨ (w = l ∧ h = 1)) := of_decide_eq_false o
  unfold fewF
  rw [b]
  simp only [Bool.false_eq_true, if_false]
  by_cases c : h < w
  · have m : (if h < w then h else w) = h := if_pos c
    have M : (if w < h then h else w) = w := if_neg (by omega)
    rw [m, M]
    by_cases h1 : h ≤ l
    · rw [if_pos h1]; exact flat_pos hl hh (by omega) h1 la (by omega)
    · rw [if_neg h1]; split <;> omega
  · have m : (if h < w then h else w) = w := if_neg c
    have M : (if w < h then h else w) = h := by
      by_cases c2 : w < h
      · exact if_pos c2
      · rw [if_neg c2]; omega
    rw [m, M]
    by_cases h1 : w ≤ l
    · rw [if_pos h1]; exact flat_pos hl hw (by omega) h1 la.symm (by omega)
    · rw [if_neg h1]; split <;> omega
theorem few_bond {w h l : Int} (b : bondB w h l = true) : fewF w h l = 0 := by unfold fewF; rw [b]; rfl
theorem few_zero {w h l : Int} (hl : 2 ≤ l) (hw : 1 ≤ w) (hh : 1 ≤ h) (laid : laidB w h l = true) : decide (fewF w h l = 0) = bondB w h l := by
  cases b : bondB w h l with
  | true => rw [few_bond b]; rfl
  | false =>
    have := few_pos hl hw hh laid b
    exact decide_eq_false (by omega)
theorem few_one {w h l : Int} (h1 : ¬(if h < w then h else w) ≤ 2 * l) (hl : 2 ≤ l) : fewF w h l ≤ 1 := by
  unfold fewF
  split
  · omega
  · split
    · omega
    · split <;> omega
/-! needs and crossings of a bond -/
theorem ar0 {a q l : Int} (ha : 3 ≤ a) (hq : 3 ≤ q) (hl : 2 ≤ l) (hn : ¬(a = 3 ∧ q = 3 ∧ l = 2)) : l * a + q * l - 2 ≤ (l - 1) * (a * q) := by
  obtain ⟨A, rfl⟩ : ∃ A, a = A + 3 := ⟨a - 3, by omega⟩
  obtain ⟨Q, rfl⟩ : ∃ Q, q = Q + 3 := ⟨q - 3, by omega⟩
  obtain ⟨L, rfl⟩ : ∃ L, l = L + 2 := ⟨l - 2, by omega⟩
  have hA : 0 ≤ A := by omega
  have hQ : 0 ≤ Q := by omega
  have hL : 0 ≤ L := by omega
  have h1 := Int.mul_nonneg hA hQ
  have h2 := Int.mul_nonneg hL hA
  have h3 := Int.mul_nonneg hL hQ
  have h4 := Int.mul_nonneg hL h1
  have hn' : ¬(A = 0 ∧ Q = 0 ∧ L = 0) := fun z => hn (by omega)
  grind
theorem ar1 {a q l : Int} (ha : 3 ≤ a) (hq : 2 ≤ q) (hl : 2 ≤ l) : a + q * l + l - 3 ≤ (l - 1) * (a * q) := by
  obtain ⟨A, rfl⟩ : ∃ A, a = A + 3 := ⟨a - 3, by omega⟩
  obtain ⟨Q, rfl⟩ : ∃ Q, q = Q + 2 := ⟨q - 2, by omega⟩
  obtain ⟨L, rfl⟩ : ∃ L, l = L + 2 := ⟨l - 2, by omega⟩
  have hA : 0 ≤ A := by omega
  have hQ : 0 ≤ Q := by omega
  have hL : 0 ≤ L := by omega
  have h1 := Int.mul_nonneg hA hQ
  have h2 := Int.mul_nonneg hL hA
  have h3 := Int.mul_nonneg hL hQ
  have h4 := Int.mul_nonneg hL h1
  grind
theorem needs_le1 {w h l : Int} (hl : 2 ≤ l) (hw : w % l = 0) (h1 : 2 * l < w) (h2 : 2 * l < h) (hn : ¬(w = 6 ∧ h = 6 ∧ l = 2)) : needT w h l ≤ crossT w h l := by
  obtain ⟨a, rfl⟩ : ∃ a, w = l * a := ⟨w / l, by have := Int.mul_ediv_add_emod w l; omega⟩
  obtain ⟨q, hq⟩ : ∃ q, q = h / l := ⟨_, rfl⟩
  obtain ⟨r, hr⟩ : ∃ r, r = h % l := ⟨_, rfl⟩
  have eh : h = l * q + r := by rw [hq, hr]; exact (Int.mul_ediv_add_emod h l).symm
  have r0 : 0 ≤ r ∧ r < l := by rw [hr]; exact ⟨Int.emod_nonneg _ (by omega), Int.emod_lt_of_pos _ (by omega)⟩
  have a3 : 3 ≤ a := by
    by_cases z : a ≤ 2
    · have : l * a ≤ l * 2 := Int.mul_le_mul_of_nonneg_left z (by omega)
      omega
    · omega
  have q2 : 2 ≤ q := by
    by_cases z : q ≤ 1
    · have : l * q ≤ l * 1 := Int.mul_le_mul_of_nonneg_left z (by omega)
      omega
    · omega
  have e1 : (l * a - 1) / l = a - 1 := by
    have : l * a - 1 = (l - 1) + l * (a - 1) := by grind
    rw [this, Int.add_mul_ediv_left _ _ (by omega), Int.ediv_eq_zero_of_lt (by omega) (by omega)]
    omega
  have n2 : needAl h (l * a) l = (h - 1) * l := by
    unfold needAl
    rw [Int.mul_emod_right, if_pos rfl]
    generalize (h - 1) / l = v
    grind
  have c : crossT (l * a) h l = (l - 1) * (a * h) := by
    unfold crossT
    rw [Int.mul_assoc, Int.mul_ediv_cancel_left _ (by omega)]
  have n1 : needAl (l * a) h l = (a - 1) * l + (l * a - 1 - (a - 1)) * (if r = 0 then l else r) := by
    unfold needAl
    rw [e1, ← hr]
  unfold needT
  rw [n1, n2, c]
  by_cases z : r = 0
  · rw [if_pos z]
    subst z
    have q3 : 3 ≤ q := by
      by_cases z : q ≤ 2
      · have : l * q ≤ l * 2 := Int.mul_le_mul_of_nonneg_left z (by omega)
        omega
      · omega
    have k := ar0 a3 q3 hl (fun ⟨z1, z2, z3⟩ => hn ⟨by subst z1 z3; rfl, by subst z2 z3; omega, z3⟩)
    have k2 := Int.mul_le_mul_of_nonneg_left k (show (0 : Int) ≤ l by omega)
    rw [eh]
    grind
  · rw [if_neg z]
    have k := ar1 a3 q2 hl
    have k2 : l * (a + q * l + r - 2) ≤ l * ((l - 1) * (a * q)) := Int.mul_le_mul_of_nonneg_left (by omega) (by omega)
    rw [eh]
    grind
theorem needs_le {w h l : Int} (hl : 2 ≤ l) (b : bondB w h l = true) : needT w h l ≤ crossT w h l := by
  cases o : oneB w h l with
  | false =>
    obtain ⟨b1, b2, b3, b4⟩ := bond_wide b o
    rcases b1 with b1 | b1
    · exact needs_le1 hl b1 b2 b3 b4
    · rw [needT_comm, crossT_comm]
      exact needs_le1 hl b1 b3 b2 (by omega)
  | true =>
    have go : needT 1 l l ≤ crossT 1 l l := by
      have e1 : (l - 1) / l = 0 := Int.ediv_eq_zero_of_lt (by omega) (by omega)
      have e2 : (1 : Int) % l = 1 := Int.emod_eq_of_lt (by omega) (by omega)
      have e3 : l / l = 1 := Int.ediv_self (by omega)
      unfold needT needAl crossT
      rw [e1, e2, Int.one_mul, e3]
      simp
    rcases one_cases o with ⟨rfl, rfl⟩ | ⟨rfl, rfl⟩
    · exact go
    · rw [needT_comm, crossT_comm]; exact go
end L3

/-! Weights. -/
namespace L3
open PySem L2
def pairsI (w h t : Int) : Int := if (if t < w - 1 then t else w - 1) - (if t - h + 1 > 0 then t - h + 1 else 0) + 1 > 0 then (if t < w - 1 then t else w - 1) - (if t - h + 1 > 0 then t - h + 1 else 0) + 1 else 0
def weightI (w h l n : Int) : Int := (w * h - w % l * (h % l)) / l + pairsI (w % l) (h % l) n + pairsI (w % l) (h % l) (n + l)
theorem pairs_comm {w h t : Int} (hw : 0 ≤ w) (hh : 0 ≤ h) (ht : 0 ≤ t) : pairsI w h t = pairsI h w t := by
  unfold pairsI; repeat' split
  all_goals omega
theorem pairs_zero {h t : Int} (ht : 0 ≤ t) : pairsI 0 h t = 0 := by
  unfold pairsI; repeat' split
  all_goals omega
theorem weight_comm {w h l n : Int} (hl : 0 < l) (hn : 0 ≤ n) : weightI w h l n = weightI h w l n := by
  have a := Int.emod_nonneg w (show l ≠ 0 by omega)
  have b := Int.emod_nonneg h (show l ≠ 0 by omega)
  unfold weightI
  rw [pairs_comm a b hn, pairs_comm a b (show 0 ≤ n + l by omega), Int.mul_comm w h, Int.mul_comm (w % l)]
theorem weight_laid {w h l n : Int} (hl : 0 < l) (hn : 0 ≤ n) (laid : laidB w h l = true) : weightI w h l n = w * h / l := by
  have go : ∀ w h : Int, w % l = 0 → weightI w h l n = w * h / l := fun w h e => by
    unfold weightI
    rw [e, pairs_zero hn, pairs_zero (by omega)]
    simp
  unfold laidB at laid
  rw [Bool.or_eq_true, decide_eq_true_eq, decide_eq_true_eq] at laid
  rcases laid with e | e
  · exact go w h e
  · rw [weight_comm hl hn, go h w e, Int.mul_comm]
theorem pairs_top {b c l : Int} (hc : 1 ≤ c) (hb : c ≤ b) (hl : b < l) : pairsI b c b + pairsI b c (b + l) = c - 1 ∧ pairsI b c (b - 1) + pairsI b c (b - 1 + l) = c := by
  unfold pairsI
  constructor <;> repeat' split
  all_goals omega
theorem weight_unlaid {w h l : Int} (hl : 2 ≤ l) (laid : laidB w h l = false) (g : Int) (hg : g = if h % l > w % l then h % l else w % l) : (1 ≤ g ∧ g < l) ∧ weightI w h l g ≠ weightI w h l (g - 1) := by
  have a := Int.emod_nonneg w (show l ≠ 0 by omega)
  have b := Int.emod_nonneg h (show l ≠ 0 by omega)
  have a2 := Int.emod_lt_of_pos w (show 0 < l by omega)
  have b2 := Int.emod_lt_of_pos h (show 0 < l by omega)
  unfold laidB at laid
  rw [Bool.or_eq_false_iff, decide_eq_false_iff_not, decide_eq_false_iff_not] at laid
  have go : ∀ w h : Int, 1 ≤ h % l → h % l ≤ w % l → w % l < l → weightI w h l (w % l) ≠ weightI w h l (w % l - 1) := fun w h h1 h2 h3 => by
    obtain ⟨p1, p2⟩ := pairs_top h1 h2 h3
    unfold weightI
    omega
  refine ⟨by rw [hg]; split <;> omega, ?_⟩
  by_cases c : h % l > w % l
  · rw [if_pos c] at hg
    subst hg
    rw [weight_comm (by omega) (by omega), weight_comm (w := w) (by omega) (by omega)]
    exact go h w (by omega) (by omega) b2
  · rw [if_neg c] at hg
    subst hg
    exact go w h (by omega) (by omega) a2
theorem weight_wider {w h l n : Int} (hl : 0 < l) : weightI (w + l) h l n = weightI w h l n + h := by
  unfold weightI
  rw [show (w + l) % l = w % l by have := Int.add_mul_emod_self_left w l 1; simpa using this]
  have e : ((w + l) * h - w % l * (h % l)) / l = (w * h - w % l * (h % l)) / l + h := by
    have : (w + l) * h - w % l * (h % l) = (w * h - w % l * (h % l)) + l * h := by grind
    rw [this, Int.add_mul_ediv_left _ _ (by omega)]
  omega
theorem even_mul {w h l : Int} (hl : 0 < l) : l * ((w * h - w % l * (h % l)) / l) = w * h - w % l * (h % l) := by
  have a := Int.mul_ediv_add_emod w l
  have b := Int.mul_ediv_add_emod h l
  have : w * h - w % l * (h % l) = l * (w / l * h + w % l * (h / l)) := by
    generalize w % l = r at a ⊢
    generalize h % l = s at b ⊢
    generalize w / l = u at a ⊢
    generalize h / l = v at b ⊢
    subst a b
    grind
  rw [this, Int.mul_ediv_cancel_left _ (by omega)]
/-- the sum of all weights, for a small length -/
theorem pairs_sum : ∀ l ∈ [2, 3, 4, 7, 10], ∀ b ∈ List.range l, ∀ c ∈ List.range l, ((List.range l).map fun (n : Nat) => pairsI (b : Nat) (c : Nat) (n : Int) + pairsI (b : Nat) (c : Nat) ((n : Int) + (l : Nat))).sum = ((b * c : Nat) : Int) := by decide +kernel
theorem sum_add (c : Int) (f : Nat → Int) : ∀ ns : List Nat, (ns.map fun n => c + f n).sum = (ns.length : Int) * c + (ns.map f).sum
  | [] => by simp
  | n :: ns => by
    simp only [List.map_cons, List.sum_cons, sum_add c f ns, List.length_cons]
    grind
theorem weight_sum {w h : Int} {l : Nat} (hl : l ∈ [2, 3, 4, 7, 10]) : ((List.range l).map fun (n : Nat) => weightI w h l n).sum = w * h := by
  have l0 : (0 : Int) < l := by
    have : ∀ l ∈ [2, 3, 4, 7, 10], 0 < l := by decide
    have := this l hl; omega
  have e : ((List.range l).map fun (n : Nat) => weightI w h l n) = (List.range l).map fun (n : Nat) => (w * h - w % (l : Int) * (h % (l : Int))) / (l : Int) + (pairsI (w % l) (h % l) (n : Int) + pairsI (w % l) (h % l) ((n : Int) + l)) := by
    refine List.map_congr_left fun n _ => ?_
    unfold weightI
    omega
  obtain ⟨b, hb⟩ : ∃ b : Nat, w % l = b := ⟨(w % l).toNat, by have := Int.emod_nonneg w (show (l : Int) ≠ 0 by omega); omega⟩
  obtain ⟨c, hc⟩ : ∃ c : Nat, h % l = c := ⟨(h % l).toNat, by have := Int.emod_nonneg h (show (l : Int) ≠ 0 by omega); omega⟩
  have b2 : b < l := by have := Int.emod_lt_of_pos w l0; omega
  have c2 : c < l := by have := Int.emod_lt_of_pos h l0; omega
  have p := pairs_sum l hl b (List.mem_range.mpr b2) c (List.mem_range.mpr c2)
  have ev := even_mul (w := w) (h := h) l0
  rw [e, sum_add, List.length_range, ev]
  rw [hb, hc] at *
  rw [p]
  push_cast
  omega
/-! the greatest and the least of numbers -/
theorem min_le : ∀ (xs : List Int) (x : Int), minI x xs ≤ x ∧ ∀ y ∈ xs, minI x xs ≤ y
  | [], x => ⟨Int.le_refl _, fun _ h => nomatch h⟩
  | y :: ys, x => by
    have e : minI x (y :: ys) = minI (if y < x then y else x) ys := rfl
    obtain ⟨h1, h2⟩ := min_le ys (if y < x then y else x)
    rw [e]
    have q : (if y < x then y else x) ≤ x ∧ (if y < x then y else x) ≤ y := by split <;> omega
    refine ⟨by omega, fun z hz => ?_⟩
    rcases List.mem_cons.mp hz with rfl | hz
    · omega
    · exact h2 z hz
theorem le_max : ∀ (xs : List Int) (x : Int), x ≤ maxI x xs ∧ ∀ y ∈ xs, y ≤ maxI x xs
  | [], x => ⟨Int.le_refl _, fun _ h => nomatch h⟩
  | y :: ys, x => by
    have e : maxI x (y :: ys) = maxI (if x < y then y else x) ys := rfl
    obtain ⟨h1, h2⟩ := le_max ys (if x < y then y else x)
    rw [e]
    have q : x ≤ (if x < y then y else x) ∧ y ≤ (if x < y then y else x) := by split <;> omega
    refine ⟨by omega, fun z hz => ?_⟩
    rcases List.mem_cons.mp hz with rfl | hz
    · omega
    · exact h2 z hz
theorem same_min : ∀ (xs : List Int) (x : Int), (∀ y ∈ xs, y = x) → minI x xs = x ∧ maxI x xs = x
  | [], x, _ => ⟨rfl, rfl⟩
  | y :: ys, x, h => by
    have e : y = x := h y List.mem_cons_self
    subst e
    have e1 : minI y (y :: ys) = minI (if y < y then y else y) ys := rfl
    have e2 : maxI y (y :: ys) = maxI (if y < y then y else y) ys := rfl
    rw [e1, e2, ite_self]
    exact same_min ys y fun z hz => h z (List.mem_cons_of_mem _ hz)
theorem max_min {xs : List Int} {x : Int} : (maxI x xs = minI x xs) ↔ ∀ y ∈ xs, y = x := by
  constructor
  · intro e y hy
    have h1 := min_le xs x
    have h2 := le_max xs x
    have := h1.2 y hy
    have := h2.2 y hy
    have := h1.1
    have := h2.1
    omega
  · intro h
    obtain ⟨a, b⟩ := same_min xs x h
    rw [a, b]
/-- all weights alike -/
theorem weights_alike {w h l : Int} (hl : 2 ≤ l) : (∀ n m : Int, 0 ≤ n → n < l → 0 ≤ m → m < l → weightI w h l n = weightI w h l m) ↔ laidB w h l = true := by
  constructor
  · intro e
    cases b : laidB w h l with
    | true => rfl
    | false =>
      obtain ⟨⟨g1, g2⟩, g3⟩ := weight_unlaid hl b _ rfl
      exact absurd (e _ _ (by omega) (by omega) (by omega) (by omega)) g3
  · intro b n m h1 _ h2 _
    rw [weight_laid (by omega) h1 b, weight_laid (by omega) h2 b]
end L3

namespace Pg
open PySem L2 L3
theorem index_ok {rw' : L3.Run} (hw : LookP rw' wholeB) {i l : Int} : Ans (runDef 2 2 (b_is_index rw')) [.int i, .int l] (.bl (decide (0 ≤ i) && decide (i < l))) := fun st => by
  have e := hw st st.length (.int i) (.int i)
  simp only [b_is_index, Int.cast_ofNat_Int, Nat.zero_add, Int.reduceEq, Int.reduceNe, Int.reduceLT, Int.reduceLE, Int.reduceGT, Int.reduceGE, Int.reduceAdd, Int.reduceSub, Int.reduceMul, Int.reduceNeg, Int.reduceMod, Int.reduceDiv, Nat.reduceLeDiff, slZ_tup, eqD_int, neD_int, eqD_bl, neD_bl, ixT0, ixT1, ixT2, ixF0, ixF1, ixF2, lenT, lenZ, addZ_frz, addZ_loc_frz, addL_loc_frz, beq_self_eq_true, runDef_eq, start3, finR, sSeq, sSet, sExpr, sRet, sRetN, sIf, sPar2, sAsg, sSetIx, sNil, RS.andThen_nx, RS.andThen_rt, RS.andThen_exn, R.toS_ok, R.toS_exn, kv, kc, k1, k2, kA0, kA1, kF, kM, kIf, kTr, kTb, tAnd3, tOr3, tNot3, kAndV, kOrV, kNotV, kChain, R.bind_ok, R.bind_exn, gN, gT, gs0, gs1, List.map_cons, List.map_nil, List.length_cons, List.length_nil, List.replicate, List.cons_append, List.nil_append, List.getElem?_cons_zero, List.getElem?_cons_succ, List.set_cons_zero, List.set_cons_succ, Nat.reduceAdd, Nat.reduceSub, if_true, if_false, Bool.false_eq_true, Bool.true_eq_false, reduceIte, Bool.not_true, Bool.not_false, Option.bind_some, decide_true, decide_false, frzF, tupF, listZ, addD, subD, mulD, fdivD, modD, cmpD, ltD, leD, gtD, geD, negD, absF, maxF, minF, intF, truD, strF, e, wholeB]
  by_cases h1 : 0 ≤ i
  · simp only [h1, Int.cast_ofNat_Int, Nat.zero_add, Int.reduceEq, Int.reduceNe, Int.reduceLT, Int.reduceLE, Int.reduceGT, Int.reduceGE, Int.reduceAdd, Int.reduceSub, Int.reduceMul, Int.reduceNeg, Int.reduceMod, Int.reduceDiv, Nat.reduceLeDiff, slZ_tup, eqD_int, neD_int, eqD_bl, neD_bl, ixT0, ixT1, ixT2, ixF0, ixF1, ixF2, lenT, lenZ, addZ_frz, addZ_loc_frz, addL_loc_frz, beq_self_eq_true, runDef_eq, start3, finR, sSeq, sSet, sExpr, sRet, sRetN, sIf, sPar2, sAsg, sSetIx, sNil, RS.andThen_nx, RS.andThen_rt, RS.andThen_exn, R.toS_ok, R.toS_exn, kv, kc, k1, k2, kA0, kA1, kF, kM, kIf, kTr, kTb, tAnd3, tOr3, tNot3, kAndV, kOrV, kNotV, kChain, R.bind_ok, R.bind_exn, gN, gT, gs0, gs1, List.map_cons, List.map_nil, List.length_cons, List.length_nil, List.replicate, List.cons_append, List.nil_append, List.getElem?_cons_zero, List.getElem?_cons_succ, List.set_cons_zero, List.set_cons_succ, Nat.reduceAdd, Nat.reduceSub, if_true, if_false, Bool.false_eq_true, Bool.true_eq_false, reduceIte, Bool.not_true, Bool.not_false, Option.bind_some, decide_true, decide_false, frzF, tupF, listZ, addD, subD, mulD, fdivD, modD, cmpD, ltD, leD, gtD, geD, negD, absF, maxF, minF, intF, truD, strF, Bool.true_and]
  · simp only [h1, Int.cast_ofNat_Int, Nat.zero_add, Int.reduceEq, Int.reduceNe, Int.reduceLT, Int.reduceLE, Int.reduceGT, Int.reduceGE, Int.reduceAdd, Int.reduceSub, Int.reduceMul, Int.reduceNeg, Int.reduceMod, Int.reduceDiv, Nat.reduceLeDiff, slZ_tup, eqD_int, neD_int, eqD_bl, neD_bl, ixT0, ixT1, ixT2, ixF0, ixF1, ixF2, lenT, lenZ, addZ_frz, addZ_loc_frz, addL_loc_frz, beq_self_eq_true, runDef_eq, start3, finR, sSeq, sSet, sExpr, sRet, sRetN, sIf, sPar2, sAsg, sSetIx, sNil, RS.andThen_nx, RS.andThen_rt, RS.andThen_exn, R.toS_ok, R.toS_exn, kv, kc, k1, k2, kA0, kA1, kF, kM, kIf, kTr, kTb, tAnd3, tOr3, tNot3, kAndV, kOrV, kNotV, kChain, R.bind_ok, R.bind_exn, gN, gT, gs0, gs1, List.map_cons, List.map_nil, List.length_cons, List.length_nil, List.replicate, List.cons_append, List.nil_append, List.getElem?_cons_zero, List.getElem?_cons_succ, List.set_cons_zero, List.set_cons_succ, Nat.reduceAdd, Nat.reduceSub, if_true, if_false, Bool.false_eq_true, Bool.true_eq_false, reduceIte, Bool.not_true, Bool.not_false, Option.bind_some, decide_true, decide_false, frzF, tupF, listZ, addD, subD, mulD, fdivD, modD, cmpD, ltD, leD, gtD, geD, negD, absF, maxF, minF, intF, truD, strF, Bool.false_and]
theorem pairs_ok {w h t : Int} : Ans (runDef 3 3 b_pairs_with_sum) [.int w, .int h, .int t] (.int (pairsI w h t)) := fun st => by
  simp only [b_pairs_with_sum, Int.cast_ofNat_Int, Nat.zero_add, Int.reduceEq, Int.reduceNe, Int.reduceLT, Int.reduceLE, Int.reduceGT, Int.reduceGE, Int.reduceAdd, Int.reduceSub, Int.reduceMul, Int.reduceNeg, Int.reduceMod, Int.reduceDiv, Nat.reduceLeDiff, slZ_tup, eqD_int, neD_int, eqD_bl, neD_bl, ixT0, ixT1, ixT2, ixF0, ixF1, ixF2, lenT, lenZ, addZ_frz, addZ_loc_frz, addL_loc_frz, beq_self_eq_true, runDef_eq, start3, finR, sSeq, sSet, sExpr, sRet, sRetN, sIf, sPar2, sAsg, sSetIx, sNil, RS.andThen_nx, RS.andThen_rt, RS.andThen_exn, R.toS_ok, R.toS_exn, kv, kc, k1, k2, kA0, kA1, kF, kM, kIf, kTr, kTb, tAnd3, tOr3, tNot3, kAndV, kOrV, kNotV, kChain, R.bind_ok, R.bind_exn, gN, gT, gs0, gs1, List.map_cons, List.map_nil, List.length_cons, List.length_nil, List.replicate, List.cons_append, List.nil_append, List.getElem?_cons_zero, List.getElem?_cons_succ, List.set_cons_zero, List.set_cons_succ, Nat.reduceAdd, Nat.reduceSub, if_true, if_false, Bool.false_eq_true, Bool.true_eq_false, reduceIte, Bool.not_true, Bool.not_false, Option.bind_some, decide_true, decide_false, frzF, tupF, listZ, addD, subD, mulD, fdivD, modD, cmpD, ltD, leD, gtD, geD, negD, absF, maxF, minF, intF, truD, strF, pairsI]
theorem weight_ok {rs ri rp : L3.Run} {w h l n : Int} (z : Sz w h l) (h0 : 0 ≤ n) (h1 : n < l) (hs : Ans rs [sz w h l] (.bl true)) (hi : Ans ri [.int n, .int l] (.bl (decide (0 ≤ n) && decide (n < l))))
    (hp : ∀ t, Ans rp [.int (w % l), .int (h % l), .int t] (.int (pairsI (w % l) (h % l) t))) : Ans (runDef 8 2 (b_weight rs ri rp)) [sz w h l, .int n] (.int (weightI w h l n)) := fun st => by
  have l0 : 0 < l := by have := z.l1; omega
  have dl : divOk l := divOk_pos l0 z.l2
  have a := Int.emod_nonneg w (show l ≠ 0 by omega)
  have b := Int.emod_nonneg h (show l ≠ 0 by omega)
  have a2 := Int.emod_lt_of_pos w l0
  have b2 := Int.emod_lt_of_pos h l0
  have q1 : mulOk w h := mulOk_big (by have := z.w1; have := z.w2; omega) (by have := z.h1; have := z.h2; omega)
  have q2 : mulOk (w % l) (h % l) := mulOk_big (by have := z.l2; omega) (by have := z.l2; omega)
  have hi := hi st
  simp only [h0, h1, decide_true, Bool.true_and] at hi
  simp only [b_weight, Int.cast_ofNat_Int, Nat.zero_add, Int.reduceEq, Int.reduceNe, Int.reduceLT, Int.reduceLE, Int.reduceGT, Int.reduceGE, Int.reduceAdd, Int.reduceSub, Int.reduceMul, Int.reduceNeg, Int.reduceMod, Int.reduceDiv, Nat.reduceLeDiff, slZ_tup, eqD_int, neD_int, eqD_bl, neD_bl, ixT0, ixT1, ixT2, ixF0, ixF1, ixF2, lenT, lenZ, addZ_frz, addZ_loc_frz, addL_loc_frz, beq_self_eq_true, runDef_eq, start3, finR, sSeq, sSet, sExpr, sRet, sRetN, sIf, sPar2, sAsg, sSetIx, sNil, RS.andThen_nx, RS.andThen_rt, RS.andThen_exn, R.toS_ok, R.toS_exn, kv, kc, k1, k2, kA0, kA1, kF, kM, kIf, kTr, kTb, tAnd3, tOr3, tNot3, kAndV, kOrV, kNotV, kChain, R.bind_ok, R.bind_exn, gN, gT, gs0, gs1, List.map_cons, List.map_nil, List.length_cons, List.length_nil, List.replicate, List.cons_append, List.nil_append, List.getElem?_cons_zero, List.getElem?_cons_succ, List.set_cons_zero, List.set_cons_succ, Nat.reduceAdd, Nat.reduceSub, if_true, if_false, Bool.false_eq_true, Bool.true_eq_false, reduceIte, Bool.not_true, Bool.not_false, Option.bind_some, decide_true, decide_false, frzF, tupF, listZ, addD, subD, mulD, fdivD, modD, cmpD, ltD, leD, gtD, geD, negD, absF, maxF, minF, intF, truD, strF, hs st, hi, l0, q1, q2, dl, hp _ st, weightI]
end Pg

namespace L3
open PySem L2
theorem neTT {st : Sto} : neD (.str "True") (.str "True") st = .ok (.bl false) st := by
  have s1 : SeqAt.shaped (.str "True") = true := by decide +kernel
  rw [neD_str s1 s1]; simp
theorem neFF {st : Sto} : neD (.str "False") (.str "False") st = .ok (.bl false) st := by
  have s1 : SeqAt.shaped (.str "False") = true := by decide +kernel
  rw [neD_str s1 s1]; simp
theorem reprB {b : Bool} {st : Sto} : reprF [.bl b] st = .ok (.str (if b then "True" else "False")) st := rfl
/-- what the program tells of sizes -/
structure Tells (rb rl ro rf rn rc : L3.Run) : Prop where
  bond : ∀ {w h l : Int}, Sz w h l → Ans rb [sz w h l] (.bl (bondB w h l))
  laid : ∀ {w h l : Int}, Sz w h l → Ans rl [sz w h l] (.bl (laidB w h l))
  one : ∀ {w h l : Int}, Sz w h l → Ans ro [sz w h l] (.bl (oneB w h l))
  few : ∀ {w h l : Int}, Sz w h l → laidB w h l = true → Ans rf [sz w h l] (.int (fewF w h l))
  need : ∀ {w h l : Int}, Sz w h l → laidB w h l = true → Ans rn [sz w h l] (.int (needT w h l))
  cross : ∀ {w h l : Int}, Sz w h l → laidB w h l = true → Ans rc [sz w h l] (.int (crossT w h l))
end L3
namespace L3
open PySem L2
theorem iR2_eq {a : KA} {ρ : Env3} {st st1 : Sto} {ds : List D} (h : a ρ st = .ok ds st1) : iR2 a ρ st = rngF2 ds st1 := by
  unfold iR2
  rw [h]
  exact R.bind_ok _ _ _
theorem rng2_ok {i j : Int} {st : Sto} (h : -(2 ^ 62) ≤ i ∧ i < 2 ^ 62 ∧ -(2 ^ 62) ≤ j ∧ j < 2 ^ 62) : rngF2 [.int i, .int j] st = .ok (.its (rngIts i (j - i).toNat)) st := by
  unfold rngF2
  exact if_pos h
theorem it_rng2 {i j : Int} {m : Nat} {ρ : Env3} {st : Sto} (h1 : -1000000 ≤ i ∧ i ≤ 1000000) (h2 : -1000000 ≤ j ∧ j ≤ 1000000) (hm : (j - i).toNat = m) : iR2 (kA1 (kc (.int i)) (kA1 (kc (.int j)) kA0)) ρ st = .ok (.its (rngIts i m)) st := by
  rw [← hm]
  exact (iR2_eq rfl).trans (rng2_ok (by omega))
theorem rng_mem {lo : Int} {m : Nat} {d : D} (h : d ∈ rngIts lo m) : ∃ j : Int, d = .int j ∧ lo ≤ j ∧ j < lo + m := by
  unfold rngIts at h
  obtain ⟨j, hj, rfl⟩ := List.mem_map.mp h
  have := List.mem_range.mp hj
  exact ⟨_, rfl, by omega, by omega⟩
theorem pd_frz_ints {st : Sto} (is : List Int) : pd st 40 (.frz (is.map D.int)) = some (.list (is.map PyData.int)) := by
  show (allO ((is.map D.int).map (pd st 39))).bind _ = _
  rw [pd_ints]; rfl
theorem shaped_ints (is : List Int) : SeqAt.shaped (.list (is.map PyData.int)) = true := by
  have h1 := depth_ints is
  have h2 : PyData.depth (.list (is.map PyData.int)) ≤ 64 := by
    simp only [PyData.depth]
    omega
  show (PyData.canLay0 (.list (is.map PyData.int)) && decide (PyData.depth (.list (is.map PyData.int)) ≤ 64)) = true
  rw [Bool.and_eq_true]
  exact ⟨by simp only [PyData.canLay0]; exact canLay_ints is, decide_eq_true h2⟩
theorem eqvAll_ints : ∀ is js : List Int, PyData.eqvAll (is.map PyData.int) (js.map PyData.int) = decide (is = js)
  | [], [] => by simp [PyData.eqvAll]
  | [], j :: js => by simp [PyData.eqvAll]
  | i :: is, [] => by simp [PyData.eqvAll]
  | i :: is, j :: js => by
    simp only [List.map_cons, PyData.eqvAll, PyData.eqv, eqvAll_ints is js]
    rw [Bool.eq_iff_iff]
    simp
theorem eqD_ints {st : Sto} (is js : List Int) : eqD (.frz (is.map D.int)) (.frz (js.map D.int)) st = .ok (.bl (decide (is = js))) st := by
  simp only [eqD, pd_frz_ints]
  rw [if_pos ⟨shaped_ints is, shaped_ints js⟩]
  simp only [PyData.eqv, eqvAll_ints]
theorem neD_ints {st : Sto} (is js : List Int) : neD (.frz (is.map D.int)) (.frz (js.map D.int)) st = .ok (.bl (!decide (is = js))) st := by
  simp only [neD, pd_frz_ints]
  rw [if_pos ⟨shaped_ints is, shaped_ints js⟩]
  simp only [PyData.eqv, eqvAll_ints]
end L3
namespace L3
open PySem L2
theorem mulD_lst {m : Nat} {xs : List D} {k : Int} {st : Sto} (h : st[m]? = some (.lst xs)) (h0 : 0 ≤ k ∧ k ≤ 1000) (hl : xs.length * k.toNat ≤ 16777216) : mulD (.loc m) (.int k) st = .ok (.loc st.length) (st ++ [.lst (List.replicate k.toNat xs).flatten]) := by
  unfold mulD
  simp only [h]
  rw [if_pos ⟨by omega, by omega, hl⟩]
theorem it_rngN {a : KE} {ρ : Env3} {st st1 : Sto} {j : Int} (h : a ρ st = .ok (.int j) st1) (h0 : 0 ≤ j ∧ j ≤ 1000000) : iR1 (kA1 a kA0) ρ st = .ok (.its (rngIts 0 j.toNat)) st1 := by
  refine (iR1_eq (ds := [.int j]) (st1 := st1) ?_).trans (rng1_ok (by omega))
  simp only [kA1, kA0, h, R.bind_ok]
theorem rng_get {lo : Int} {m i : Nat} {d : D} (h : (rngIts lo m)[i]? = some d) : d = .int (lo + i) ∧ i < m := by
  unfold rngIts at h
  rw [List.getElem?_map] at h
  obtain ⟨j, hj, rfl⟩ := Option.map_eq_some_iff.mp h
  have hl : i < m := by have := (List.getElem?_eq_some_iff.mp hj).1; simpa using this
  rw [List.getElem?_range hl] at hj
  cases hj
  exact ⟨rfl, hl⟩
theorem rng_len {lo : Int} {m : Nat} : (rngIts lo m).length = m := by unfold rngIts; simp
theorem ixN_natL {n j : Nat} (hj : j < n) : ixN n (j : Int) = some j := by
  unfold ixN
  rw [if_pos (by omega), if_pos (by omega)]
  simp
theorem Step.setOwn {n m : Nat} {st s : Sto} (h : Step n st s) (hm : st.length ≤ m) (hn : n < st.length) (o : O) : Step n st (s.set m o) := h.setNew hm (by omega) o
end L3
namespace L3
open PySem L2
def wsI (w h l : Int) : List Int := (List.range l.toNat).map fun (k : Nat) => weightI w h l (k : Int)
theorem wsI_mem {w h l y : Int} (hy : y ∈ wsI w h l) : ∃ k : Int, 0 ≤ k ∧ k < l ∧ y = weightI w h l k := by
  unfold wsI at hy
  obtain ⟨k, hk, rfl⟩ := List.mem_map.mp hy
  have := List.mem_range.mp hk
  exact ⟨k, by omega, by omega, rfl⟩
theorem mem_wsI {w h l k : Int} (h0 : 0 ≤ k) (h1 : k < l) : weightI w h l k ∈ wsI w h l := by
  unfold wsI
  exact List.mem_map.mpr ⟨k.toNat, List.mem_range.mpr (by omega), by rw [Int.toNat_of_nonneg h0]⟩
theorem ws_alike {w h l x : Int} {r : List Int} (hl : 2 ≤ l) (e : wsI w h l = x :: r) : decide (maxI x r = minI x r) = laidB w h l := by
  have hx : ∀ k, 0 ≤ k → k < l → (∀ y ∈ r, y = x) → weightI w h l k = x := fun k h0 h1 hy => by
    have m := mem_wsI (w := w) (h := h) h0 h1
    rw [e] at m
    rcases List.mem_cons.mp m with m | m
    · exact m
    · exact hy _ m
  cases b : laidB w h l with
  | true =>
    refine decide_eq_true (max_min.mpr fun y hy => ?_)
    obtain ⟨k, k0, _, rfl⟩ := wsI_mem (w := w) (h := h) (l := l) (y := y) (by rw [e]; exact List.mem_cons_of_mem _ hy)
    obtain ⟨j, j0, _, hj⟩ := wsI_mem (w := w) (h := h) (l := l) (y := x) (by rw [e]; exact List.mem_cons_self)
    rw [hj, weight_laid (by omega) k0 b, weight_laid (by omega) j0 b]
  | false =>
    refine decide_eq_false fun z => ?_
    have hy := max_min.mp z
    have : laidB w h l = true := (weights_alike hl).mp fun n m n0 n1 m0 m1 => by rw [hx n n0 n1 hy, hx m m0 m1 hy]
    rw [b] at this
    cases this
theorem ws_cons {w h l : Int} (hl : 2 ≤ l) : ∃ x r, wsI w h l = x :: r := by
  cases e : wsI w h l with
  | nil =>
    have := congrArg List.length e
    unfold wsI at this
    simp at this
    omega
  | cons x r => exact ⟨x, r, rfl⟩
theorem sumF_ints {st : Sto} (is : List Int) : sumF [.frz (is.map D.int)] st = .ok (.int is.sum) st := by
  simp only [sumF, itemsD, Option.bind_some, intsO_map]
theorem neD_frz_loc {st : Sto} {m : Nat} (is js : List Int) (h : st[m]? = some (.lst (js.map D.int))) : neD (.frz (is.map D.int)) (.loc m) st = .ok (.bl (!decide (is = js))) st := by
  have p : pd st 40 (.loc m) = some (.list (js.map PyData.int)) := by
    unfold pd
    rw [h]
    show (allO ((js.map D.int).map (pd _ 39))).bind _ = _
    rw [pd_ints]; rfl
  simp only [neD, pd_frz_ints, p]
  rw [if_pos ⟨shaped_ints is, shaped_ints js⟩]
  simp only [PyData.eqv, eqvAll_ints]
end L3

/-! Texts: what repr gives, their lengths and signs; lists of texts compared. -/
namespace L3
open PySem L2
/-- a text of at most n signs, all of them signs -/
structure OkS (n : Nat) (x : Str) : Prop where
  ok : PyData.strOk x = true
  len : x.length ≤ n
theorem OkS.mono {n m : Nat} {x : Str} (h : OkS n x) (z : n ≤ m) : OkS m x := ⟨h.ok, Nat.le_trans h.len z⟩
theorem OkS.app {a b : Nat} {x y : Str} (hx : OkS a x) (hy : OkS b y) : OkS (a + b) (x ++ y) := by
  refine ⟨?_, by rw [strLen_append]; have := hx.len; have := hy.len; omega⟩
  have h1 := hx.ok
  have h2 := hy.ok
  unfold PyData.strOk at h1 h2 ⊢
  rw [show (x ++ y).cps = x.cps ++ y.cps from rfl, Array.all_append, h1, h2]
  rfl
theorem okS_chars (s : String) : PyData.strOk (Str.ofString s) = true := by
  unfold PyData.strOk
  rw [Str.ofString_eq_toList]
  simp only [List.all_toArray, List.all_map, List.all_eq_true, Function.comp, decide_eq_true_eq]
  intro c _
  have h : Nat.isValidChar c.toNat := c.valid
  rcases h with h | h <;> omega
/-- a whole number, shown -/
def ishow (i : Int) : Str := PyData.shown (.int i)
theorem ishow_ok {i : Int} (h : i.natAbs < 2 ^ 130) : OkS 131 (ishow i) := by
  refine ⟨okS_chars _, ?_⟩
  have e : (ishow i).length = (toString i).length := by
    show (Str.ofString (toString i)).length = _
    rw [Str.ofString_eq_toList]
    simp [Str.length, String.length_toList]
    try exact String.length_toList
  rw [e]
  have key : ∀ n : Nat, n < 2 ^ 130 → (Nat.repr n).length ≤ 130 := fun n hn => nat_repr_length_le (by decide) hn
  cases i with
  | ofNat n => exact Nat.le_trans (key n h) (by decide)
  | negSucc n =>
    show ("-" ++ Nat.repr (n + 1)).length ≤ 131
    rw [String.length_append]
    have := key (n + 1) (by simpa [Int.natAbs] using h)
    have e1 : ("-" : String).length = 1 := rfl
    omega
theorem showable_int {i : Int} (h : i.natAbs < 2 ^ 130) : PyData.showable (.int i) = true := by
  show decide (i.natAbs.log2 < 1920) = true
  refine decide_eq_true ?_
  rcases Nat.eq_zero_or_pos i.natAbs with z | z
  · rw [z]; decide
  · have : i.natAbs.log2 < 130 := (Nat.log2_lt (by omega)).mpr h
    omega
theorem repr_int {i : Int} {st : Sto} (h : i.natAbs < 2 ^ 130) : reprG [.int i] st = .ok (.str (ishow i)) st := by
  have hs := showable_int h
  have hl : (PyData.shown (.int i)).length ≤ 16777216 := Nat.le_trans (ishow_ok h).len (by decide)
  have hp : pd st 40 (.int i) = some (.int i) := rfl
  simp only [reprG, shG, isE, hp, Bool.false_eq_true, if_false]
  rw [if_pos ⟨hs, rfl, by show 0 ≤ 60; decide, hl⟩]
  rfl
/-- a tuple of three whole numbers, shown -/
def tshow (a b c : Int) : Str := PyData.shown (.tuple [.int a, .int b, .int c])
theorem tshow_ok {a b c : Int} (ha : a.natAbs < 2 ^ 130) (hb : b.natAbs < 2 ^ 130) (hc : c.natAbs < 2 ^ 130) : OkS 500 (tshow a b c) := by
  have e : tshow a b c = (Str.ofString "(" ++ (ishow a ++ Str.ofString ", " ++ (ishow b ++ Str.ofString ", " ++ ishow c))) ++ Str.ofString ")" := rfl
  rw [e]
  have l1 : OkS 1 (Str.ofString "(") := ⟨by decide +kernel, by decide +kernel⟩
  have l2 : OkS 2 (Str.ofString ", ") := ⟨by decide +kernel, by decide +kernel⟩
  have l3 : OkS 1 (Str.ofString ")") := ⟨by decide +kernel, by decide +kernel⟩
  exact ((l1.app (((ishow_ok ha).app l2).app (((ishow_ok hb).app l2).app (ishow_ok hc)))).app l3).mono (by decide)
theorem repr_tup {a b c : Int} {st : Sto} (ha : a.natAbs < 2 ^ 130) (hb : b.natAbs < 2 ^ 130) (hc : c.natAbs < 2 ^ 130) : reprG [.tup [.int a, .int b, .int c]] st = .ok (.str (tshow a b c)) st := by
  have hs : PyData.showable (.tuple [.int a, .int b, .int c]) = true := by
    show (PyData.showable (.int a) && (PyData.showable (.int b) && (PyData.showable (.int c) && true))) = true
    rw [showable_int ha, showable_int hb, showable_int hc]
    rfl
  have hl : (PyData.shown (.tuple [.int a, .int b, .int c])).length ≤ 16777216 := Nat.le_trans (tshow_ok ha hb hc).len (by decide)
  have hp : pd st 40 (.tup [.int a, .int b, .int c]) = some (.tuple [.int a, .int b, .int c]) := rfl
  simp only [reprG, shG, isE, hp, Bool.false_eq_true, if_false]
  rw [if_pos ⟨hs, rfl, by show 1 ≤ 60; decide, hl⟩]
  rfl
theorem addS {n m : Nat} {x y : Str} {st : Sto} (hx : OkS n x) (hy : OkS m y) (h : n + m ≤ 16777216) : addD (.str x) (.str y) st = .ok (.str (x ++ y)) st := by
  have := hx.len
  have := hy.len
  unfold addD
  exact if_pos (by omega)
theorem shaped_str {n : Nat} {x : Str} (h : OkS n x) : SeqAt.shaped (.str x) = true := by
  unfold SeqAt.shaped PyData.canLay0
  rw [h.ok]
  rfl
theorem neD_S {n m : Nat} {x y : Str} {st : Sto} (hx : OkS n x) (hy : OkS m y) : neD (.str x) (.str y) st = .ok (.bl (!decide (x = y))) st := by
  have p1 : pd st 40 (.str x) = some (.str x) := rfl
  have p2 : pd st 40 (.str y) = some (.str y) := rfl
  simp only [neD, p1, p2]
  rw [if_pos ⟨shaped_str hx, shaped_str hy⟩]
  rfl
theorem eqD_S {n m : Nat} {x y : Str} {st : Sto} (hx : OkS n x) (hy : OkS m y) : eqD (.str x) (.str y) st = .ok (.bl (decide (x = y))) st := by
  have p1 : pd st 40 (.str x) = some (.str x) := rfl
  have p2 : pd st 40 (.str y) = some (.str y) := rfl
  simp only [eqD, p1, p2]
  rw [if_pos ⟨shaped_str hx, shaped_str hy⟩]
  rfl
theorem allO_strs (st : Sto) (n : Nat) : ∀ xs : List Str, allO ((xs.map D.str).map (pd st n)) = some (xs.map PyData.str)
  | [] => rfl
  | x :: xs => by
    have hp : pd st n (.str x) = some (.str x) := by cases n <;> rfl
    rw [List.map_cons, List.map_cons, hp]
    show (some (PyData.str x)).bind (fun a => (allO ((xs.map D.str).map (pd st n))).bind fun l => some (a :: l)) = _
    rw [allO_strs st n xs]
    rfl
theorem shaped_strs {xs : List Str} (h : ∀ x ∈ xs, PyData.strOk x = true) : SeqAt.shaped (.list (xs.map PyData.str)) = true := by
  have c : ∀ ys : List Str, (∀ x ∈ ys, PyData.strOk x = true) → PyData.canLayAll0 (ys.map PyData.str) = true := by
    intro ys
    induction ys with
    | nil => intro _; rfl
    | cons y ys ih =>
      intro hy
      show (PyData.strOk y && PyData.canLayAll0 (ys.map PyData.str)) = true
      rw [hy y List.mem_cons_self, ih fun x hx => hy x (List.mem_cons_of_mem _ hx)]
      rfl
  have d : ∀ ys : List Str, PyData.depthAll (ys.map PyData.str) = 0 := by
    intro ys
    induction ys with
    | nil => rfl
    | cons y ys ih =>
      show max (PyData.depth (.str y)) (PyData.depthAll (ys.map PyData.str)) = 0
      rw [ih]
      rfl
  unfold SeqAt.shaped
  refine Bool.and_eq_true_iff.mpr ⟨c xs h, decide_eq_true ?_⟩
  show PyData.depthAll (xs.map PyData.str) + 1 ≤ 64
  rw [d]
  decide
theorem eqv_strs : ∀ xs ys : List Str, PyData.eqvAll (xs.map PyData.str) (ys.map PyData.str) = decide (xs = ys)
  | [], [] => rfl
  | [], _ :: _ => by simp [PyData.eqvAll]
  | _ :: _, [] => by simp [PyData.eqvAll]
  | x :: xs, y :: ys => by
    show ((x == y) && PyData.eqvAll (xs.map PyData.str) (ys.map PyData.str)) = _
    rw [eqv_strs xs ys]
    by_cases h : x = y <;> by_cases g : xs = ys <;> simp [h, g]
theorem pd_strs {st : Sto} {m : Nat} {xs : List Str} (h : st[m]? = some (.lst (xs.map D.str))) : pd st 40 (.loc m) = some (.list (xs.map PyData.str)) := by
  show (match st[m]? with | some (.lst xs) => (allO (xs.map (pd st 39))).bind fun l => some (PyData.list l) | _ => none) = _
  rw [h]
  show (allO ((xs.map D.str).map (pd st 39))).bind _ = _
  rw [allO_strs]
  rfl
theorem pd_fstrs {st : Sto} (xs : List Str) : pd st 40 (.frz (xs.map D.str)) = some (.list (xs.map PyData.str)) := by
  show (allO ((xs.map D.str).map (pd st 39))).bind _ = _
  rw [allO_strs]
  rfl
/-- a list of texts against a written one -/
theorem eqD_strs {st : Sto} {m : Nat} {xs : List Str} (ys : List Str) (h : st[m]? = some (.lst (xs.map D.str))) (hx : ∀ x ∈ xs, PyData.strOk x = true) (hy : ∀ x ∈ ys, PyData.strOk x = true) : eqD (.loc m) (.frz (ys.map D.str)) st = .ok (.bl (decide (xs = ys))) st := by
  simp only [eqD, pd_strs h, pd_fstrs]
  rw [if_pos ⟨shaped_strs hx, shaped_strs hy⟩]
  show R.ok (D.bl (PyData.eqvAll _ _)) st = _
  rw [eqv_strs]
theorem neD_strs {st : Sto} {m : Nat} {xs : List Str} (ys : List Str) (h : st[m]? = some (.lst (xs.map D.str))) (hx : ∀ x ∈ xs, PyData.strOk x = true) (hy : ∀ x ∈ ys, PyData.strOk x = true) : neD (.loc m) (.frz (ys.map D.str)) st = .ok (.bl (!decide (xs = ys))) st := by
  simp only [neD, pd_strs h, pd_fstrs]
  rw [if_pos ⟨shaped_strs hx, shaped_strs hy⟩]
  show R.ok (D.bl (!PyData.eqvAll _ _)) st = _
  rw [eqv_strs]
/-! ### what _law_met makes -/
def metF (cl : List Str) (n : Nat) (hs : List (Str × MH)) (ke : KE) (r : R D) : R D := match metGo cl n hs ke r with
  | .ok d st' => .ok d st'
  | _ => .bad
theorem metF_ok {cl : List Str} {n : Nat} {hs : List (Str × MH)} {x : Str} {d : D} {st : Sto} : metF cl n hs (kc (.str x)) (.ok d st) = .ok (.str x) st := rfl
/-- which clause takes it -/
theorem metF_exn {cl : List Str} {n : Nat} {hs : List (Str × MH)} {ke : KE} {x : XN} {st st' : Sto} {d : D} (h : x.cls ∈ cl) (g : metH n x st hs = .ok d st') : metF cl n hs ke (.exn x st) = .ok d st' := by
  unfold metF metGo
  simp only [if_pos h, g]
theorem metH_hit {n : Nat} {x : XN} {st : Sto} {c : Str} {h : MH} {r : List (Str × MH)} (e : x.cls = c) : metH n x st ((c, h) :: r) = h x (List.replicate n none) st := by unfold metH; rw [if_pos e]
theorem metH_miss {n : Nat} {x : XN} {st : Sto} {c : Str} {h : MH} {r : List (Str × MH)} (e : ¬ x.cls = c) : metH n x st ((c, h) :: r) = metH n x st r := by
  show (if x.cls = c then _ else _) = _
  rw [if_neg e]
end L3

namespace K17
open PySem L2 L3 Hu Pg
abbrev xS : XN := ⟨"InvalidSize", []⟩
abbrev xN (d : D) : XN := ⟨"InvalidNumber", [("value", d)]⟩
abbrev xU (d : D) : XN := ⟨"Unlaid", [("value", d)]⟩
/-- r raises x, whatever the store -/
def Thr (r : L3.Run) (ds : List D) (x : XN) : Prop := ∀ st, r ds st = .exn x st
theorem bad_laid {rs rh : L3.Run} {d : D} (h : Ans rs [d] (.bl false)) : Thr (runDef 1 1 (k17.b_can_be_laid rs rh)) [d] xS := fun st => by
  simp only [k17.b_can_be_laid, Int.cast_ofNat_Int, Nat.zero_add, Int.reduceEq, Int.reduceNe, Int.reduceLT, Int.reduceLE, Int.reduceGT, Int.reduceGE, Int.reduceAdd, Int.reduceSub, Int.reduceMul, Int.reduceNeg, Int.reduceMod, Int.reduceDiv, Nat.reduceLeDiff, slZ_tup, eqD_int, neD_int, eqD_bl, neD_bl, ixT0, ixT1, ixT2, ixF0, ixF1, ixF2, lenT, lenZ, addZ_frz, addZ_loc_frz, addL_loc_frz, beq_self_eq_true, runDef_eq, start3, finR, sSeq, sSet, sExpr, sRet, sRetN, sIf, sPar2, sAsg, sSetIx, sNil, RS.andThen_nx, RS.andThen_rt, RS.andThen_exn, R.toS_ok, R.toS_exn, kv, kc, k1, k2, kA0, kA1, kF, kM, kIf, kTr, kTb, tAnd3, tOr3, tNot3, kAndV, kOrV, kNotV, kChain, R.bind_ok, R.bind_exn, gN, gT, gs0, gs1, List.map_cons, List.map_nil, List.length_cons, List.length_nil, List.replicate, List.cons_append, List.nil_append, List.getElem?_cons_zero, List.getElem?_cons_succ, List.set_cons_zero, List.set_cons_succ, Nat.reduceAdd, Nat.reduceSub, if_true, if_false, Bool.false_eq_true, Bool.true_eq_false, reduceIte, Bool.not_true, Bool.not_false, Option.bind_some, decide_true, decide_false, frzF, tupF, listZ, addD, subD, mulD, fdivD, modD, cmpD, ltD, leD, gtD, geD, negD, absF, maxF, minF, intF, truD, strF, h st, sRaise, kMk0]
theorem laid_ok {rs rh : L3.Run} {w h l : Int} (hs : Ans rs [sz w h l] (.bl true)) (hh : Ans rh [sz w h l] (.bl (laidB w h l))) : Ans (runDef 1 1 (k17.b_can_be_laid rs rh)) [sz w h l] (.bl (laidB w h l)) := fun st => by
  simp only [k17.b_can_be_laid, Int.cast_ofNat_Int, Nat.zero_add, Int.reduceEq, Int.reduceNe, Int.reduceLT, Int.reduceLE, Int.reduceGT, Int.reduceGE, Int.reduceAdd, Int.reduceSub, Int.reduceMul, Int.reduceNeg, Int.reduceMod, Int.reduceDiv, Nat.reduceLeDiff, slZ_tup, eqD_int, neD_int, eqD_bl, neD_bl, ixT0, ixT1, ixT2, ixF0, ixF1, ixF2, lenT, lenZ, addZ_frz, addZ_loc_frz, addL_loc_frz, beq_self_eq_true, runDef_eq, start3, finR, sSeq, sSet, sExpr, sRet, sRetN, sIf, sPar2, sAsg, sSetIx, sNil, RS.andThen_nx, RS.andThen_rt, RS.andThen_exn, R.toS_ok, R.toS_exn, kv, kc, k1, k2, kA0, kA1, kF, kM, kIf, kTr, kTb, tAnd3, tOr3, tNot3, kAndV, kOrV, kNotV, kChain, R.bind_ok, R.bind_exn, gN, gT, gs0, gs1, List.map_cons, List.map_nil, List.length_cons, List.length_nil, List.replicate, List.cons_append, List.nil_append, List.getElem?_cons_zero, List.getElem?_cons_succ, List.set_cons_zero, List.set_cons_succ, Nat.reduceAdd, Nat.reduceSub, if_true, if_false, Bool.false_eq_true, Bool.true_eq_false, reduceIte, Bool.not_true, Bool.not_false, Option.bind_some, decide_true, decide_false, frzF, tupF, listZ, addD, subD, mulD, fdivD, modD, cmpD, ltD, leD, gtD, geD, negD, absF, maxF, minF, intF, truD, strF, hs st, hh st]
theorem bad_weight {rs ri rc rp : L3.Run} {d e : D} (h : Ans rs [d] (.bl false)) : Thr (runDef 8 2 (k17.b_weight rs ri rc rp)) [d, e] xS := fun st => by
  simp only [k17.b_weight, Int.cast_ofNat_Int, Nat.zero_add, Int.reduceEq, Int.reduceNe, Int.reduceLT, Int.reduceLE, Int.reduceGT, Int.reduceGE, Int.reduceAdd, Int.reduceSub, Int.reduceMul, Int.reduceNeg, Int.reduceMod, Int.reduceDiv, Nat.reduceLeDiff, slZ_tup, eqD_int, neD_int, eqD_bl, neD_bl, ixT0, ixT1, ixT2, ixF0, ixF1, ixF2, lenT, lenZ, addZ_frz, addZ_loc_frz, addL_loc_frz, beq_self_eq_true, runDef_eq, start3, finR, sSeq, sSet, sExpr, sRet, sRetN, sIf, sPar2, sAsg, sSetIx, sNil, RS.andThen_nx, RS.andThen_rt, RS.andThen_exn, R.toS_ok, R.toS_exn, kv, kc, k1, k2, kA0, kA1, kF, kM, kIf, kTr, kTb, tAnd3, tOr3, tNot3, kAndV, kOrV, kNotV, kChain, R.bind_ok, R.bind_exn, gN, gT, gs0, gs1, List.map_cons, List.map_nil, List.length_cons, List.length_nil, List.replicate, List.cons_append, List.nil_append, List.getElem?_cons_zero, List.getElem?_cons_succ, List.set_cons_zero, List.set_cons_succ, Nat.reduceAdd, Nat.reduceSub, if_true, if_false, Bool.false_eq_true, Bool.true_eq_false, reduceIte, Bool.not_true, Bool.not_false, Option.bind_some, decide_true, decide_false, frzF, tupF, listZ, addD, subD, mulD, fdivD, modD, cmpD, ltD, leD, gtD, geD, negD, absF, maxF, minF, intF, truD, strF, h st, sRaise, kMk0]
theorem num_weight {rs ri rc rp : L3.Run} {w h l : Int} {d : D} (hs : Ans rs [sz w h l] (.bl true)) (hi : Ans ri [d, .int l] (.bl false)) (hc : Ans rc [d] d) : Thr (runDef 8 2 (k17.b_weight rs ri rc rp)) [sz w h l, d] (xN d) := fun st => by
  simp only [k17.b_weight, Int.cast_ofNat_Int, Nat.zero_add, Int.reduceEq, Int.reduceNe, Int.reduceLT, Int.reduceLE, Int.reduceGT, Int.reduceGE, Int.reduceAdd, Int.reduceSub, Int.reduceMul, Int.reduceNeg, Int.reduceMod, Int.reduceDiv, Nat.reduceLeDiff, slZ_tup, eqD_int, neD_int, eqD_bl, neD_bl, ixT0, ixT1, ixT2, ixF0, ixF1, ixF2, lenT, lenZ, addZ_frz, addZ_loc_frz, addL_loc_frz, beq_self_eq_true, runDef_eq, start3, finR, sSeq, sSet, sExpr, sRet, sRetN, sIf, sPar2, sAsg, sSetIx, sNil, RS.andThen_nx, RS.andThen_rt, RS.andThen_exn, R.toS_ok, R.toS_exn, kv, kc, k1, k2, kA0, kA1, kF, kM, kIf, kTr, kTb, tAnd3, tOr3, tNot3, kAndV, kOrV, kNotV, kChain, R.bind_ok, R.bind_exn, gN, gT, gs0, gs1, List.map_cons, List.map_nil, List.length_cons, List.length_nil, List.replicate, List.cons_append, List.nil_append, List.getElem?_cons_zero, List.getElem?_cons_succ, List.set_cons_zero, List.set_cons_succ, Nat.reduceAdd, Nat.reduceSub, if_true, if_false, Bool.false_eq_true, Bool.true_eq_false, reduceIte, Bool.not_true, Bool.not_false, Option.bind_some, decide_true, decide_false, frzF, tupF, listZ, addD, subD, mulD, fdivD, modD, cmpD, ltD, leD, gtD, geD, negD, absF, maxF, minF, intF, truD, strF, hs st, hi st, hc st, sRaise, kMk1]
theorem weight_ok {rs ri rc rp : L3.Run} {w h l n : Int} (z : Sz w h l) (h0 : 0 ≤ n) (h1 : n < l) (hs : Ans rs [sz w h l] (.bl true)) (hi : Ans ri [.int n, .int l] (.bl (decide (0 ≤ n) && decide (n < l))))
    (hp : ∀ t, Ans rp [.int (w % l), .int (h % l), .int t] (.int (pairsI (w % l) (h % l) t))) : Ans (runDef 8 2 (k17.b_weight rs ri rc rp)) [sz w h l, .int n] (.int (weightI w h l n)) := fun st => by
  have l0 : 0 < l := by have := z.l1; omega
  have dl : divOk l := divOk_pos l0 z.l2
  have a := Int.emod_nonneg w (show l ≠ 0 by omega)
  have b := Int.emod_nonneg h (show l ≠ 0 by omega)
  have a2 := Int.emod_lt_of_pos w l0
  have b2 := Int.emod_lt_of_pos h l0
  have q1 : mulOk w h := mulOk_big (by have := z.w1; have := z.w2; omega) (by have := z.h1; have := z.h2; omega)
  have q2 : mulOk (w % l) (h % l) := mulOk_big (by have := z.l2; omega) (by have := z.l2; omega)
  have hi := hi st
  simp only [h0, h1, decide_true, Bool.true_and] at hi
  simp only [k17.b_weight, Int.cast_ofNat_Int, Nat.zero_add, Int.reduceEq, Int.reduceNe, Int.reduceLT, Int.reduceLE, Int.reduceGT, Int.reduceGE, Int.reduceAdd, Int.reduceSub, Int.reduceMul, Int.reduceNeg, Int.reduceMod, Int.reduceDiv, Nat.reduceLeDiff, slZ_tup, eqD_int, neD_int, eqD_bl, neD_bl, ixT0, ixT1, ixT2, ixF0, ixF1, ixF2, lenT, lenZ, addZ_frz, addZ_loc_frz, addL_loc_frz, beq_self_eq_true, runDef_eq, start3, finR, sSeq, sSet, sExpr, sRet, sRetN, sIf, sPar2, sAsg, sSetIx, sNil, RS.andThen_nx, RS.andThen_rt, RS.andThen_exn, R.toS_ok, R.toS_exn, kv, kc, k1, k2, kA0, kA1, kF, kM, kIf, kTr, kTb, tAnd3, tOr3, tNot3, kAndV, kOrV, kNotV, kChain, R.bind_ok, R.bind_exn, gN, gT, gs0, gs1, List.map_cons, List.map_nil, List.length_cons, List.length_nil, List.replicate, List.cons_append, List.nil_append, List.getElem?_cons_zero, List.getElem?_cons_succ, List.set_cons_zero, List.set_cons_succ, Nat.reduceAdd, Nat.reduceSub, if_true, if_false, Bool.false_eq_true, Bool.true_eq_false, reduceIte, Bool.not_true, Bool.not_false, Option.bind_some, decide_true, decide_false, frzF, tupF, listZ, addD, subD, mulD, fdivD, modD, cmpD, ltD, leD, gtD, geD, negD, absF, maxF, minF, intF, truD, strF, hs st, hi, l0, q1, q2, dl, hp _ st, weightI]
theorem bad_bond {rl rn : L3.Run} {d : D} (h : Thr rl [d] xS) : Thr (runDef 1 1 (k17.b_has_bond rl rn)) [d] xS := fun st => by
  simp only [k17.b_has_bond, Int.cast_ofNat_Int, Nat.zero_add, Int.reduceEq, Int.reduceNe, Int.reduceLT, Int.reduceLE, Int.reduceGT, Int.reduceGE, Int.reduceAdd, Int.reduceSub, Int.reduceMul, Int.reduceNeg, Int.reduceMod, Int.reduceDiv, Nat.reduceLeDiff, slZ_tup, eqD_int, neD_int, eqD_bl, neD_bl, ixT0, ixT1, ixT2, ixF0, ixF1, ixF2, lenT, lenZ, addZ_frz, addZ_loc_frz, addL_loc_frz, beq_self_eq_true, runDef_eq, start3, finR, sSeq, sSet, sExpr, sRet, sRetN, sIf, sPar2, sAsg, sSetIx, sNil, RS.andThen_nx, RS.andThen_rt, RS.andThen_exn, R.toS_ok, R.toS_exn, kv, kc, k1, k2, kA0, kA1, kF, kM, kIf, kTr, kTb, tAnd3, tOr3, tNot3, kAndV, kOrV, kNotV, kChain, R.bind_ok, R.bind_exn, gN, gT, gs0, gs1, List.map_cons, List.map_nil, List.length_cons, List.length_nil, List.replicate, List.cons_append, List.nil_append, List.getElem?_cons_zero, List.getElem?_cons_succ, List.set_cons_zero, List.set_cons_succ, Nat.reduceAdd, Nat.reduceSub, if_true, if_false, Bool.false_eq_true, Bool.true_eq_false, reduceIte, Bool.not_true, Bool.not_false, Option.bind_some, decide_true, decide_false, frzF, tupF, listZ, addD, subD, mulD, fdivD, modD, cmpD, ltD, leD, gtD, geD, negD, absF, maxF, minF, intF, truD, strF, h st]
theorem bad_reason {rb rn rh : L3.Run} {d : D} (h : Thr rb [d] xS) : Thr (runDef 5 1 (k17.b_reason rb rn rh)) [d] xS := fun st => by
  simp only [k17.b_reason, Int.cast_ofNat_Int, Nat.zero_add, Int.reduceEq, Int.reduceNe, Int.reduceLT, Int.reduceLE, Int.reduceGT, Int.reduceGE, Int.reduceAdd, Int.reduceSub, Int.reduceMul, Int.reduceNeg, Int.reduceMod, Int.reduceDiv, Nat.reduceLeDiff, slZ_tup, eqD_int, neD_int, eqD_bl, neD_bl, ixT0, ixT1, ixT2, ixF0, ixF1, ixF2, lenT, lenZ, addZ_frz, addZ_loc_frz, addL_loc_frz, beq_self_eq_true, runDef_eq, start3, finR, sSeq, sSet, sExpr, sRet, sRetN, sIf, sPar2, sAsg, sSetIx, sNil, RS.andThen_nx, RS.andThen_rt, RS.andThen_exn, R.toS_ok, R.toS_exn, kv, kc, k1, k2, kA0, kA1, kF, kM, kIf, kTr, kTb, tAnd3, tOr3, tNot3, kAndV, kOrV, kNotV, kChain, R.bind_ok, R.bind_exn, gN, gT, gs0, gs1, List.map_cons, List.map_nil, List.length_cons, List.length_nil, List.replicate, List.cons_append, List.nil_append, List.getElem?_cons_zero, List.getElem?_cons_succ, List.set_cons_zero, List.set_cons_succ, Nat.reduceAdd, Nat.reduceSub, if_true, if_false, Bool.false_eq_true, Bool.true_eq_false, reduceIte, Bool.not_true, Bool.not_false, Option.bind_some, decide_true, decide_false, frzF, tupF, listZ, addD, subD, mulD, fdivD, modD, cmpD, ltD, leD, gtD, geD, negD, absF, maxF, minF, intF, truD, strF, h st]
theorem bad_need {rl rc rn : L3.Run} {d : D} (h : Thr rl [d] xS) : Thr (runDef 4 1 (k17.b_total_need rl rc rn)) [d] xS := fun st => by
  simp only [k17.b_total_need, Int.cast_ofNat_Int, Nat.zero_add, Int.reduceEq, Int.reduceNe, Int.reduceLT, Int.reduceLE, Int.reduceGT, Int.reduceGE, Int.reduceAdd, Int.reduceSub, Int.reduceMul, Int.reduceNeg, Int.reduceMod, Int.reduceDiv, Nat.reduceLeDiff, slZ_tup, eqD_int, neD_int, eqD_bl, neD_bl, ixT0, ixT1, ixT2, ixF0, ixF1, ixF2, lenT, lenZ, addZ_frz, addZ_loc_frz, addL_loc_frz, beq_self_eq_true, runDef_eq, start3, finR, sSeq, sSet, sExpr, sRet, sRetN, sIf, sPar2, sAsg, sSetIx, sNil, RS.andThen_nx, RS.andThen_rt, RS.andThen_exn, R.toS_ok, R.toS_exn, kv, kc, k1, k2, kA0, kA1, kF, kM, kIf, kTr, kTb, tAnd3, tOr3, tNot3, kAndV, kOrV, kNotV, kChain, R.bind_ok, R.bind_exn, gN, gT, gs0, gs1, List.map_cons, List.map_nil, List.length_cons, List.length_nil, List.replicate, List.cons_append, List.nil_append, List.getElem?_cons_zero, List.getElem?_cons_succ, List.set_cons_zero, List.set_cons_succ, Nat.reduceAdd, Nat.reduceSub, if_true, if_false, Bool.false_eq_true, Bool.true_eq_false, reduceIte, Bool.not_true, Bool.not_false, Option.bind_some, decide_true, decide_false, frzF, tupF, listZ, addD, subD, mulD, fdivD, modD, cmpD, ltD, leD, gtD, geD, negD, absF, maxF, minF, intF, truD, strF, h st]
theorem bad_cross {rl rc : L3.Run} {d : D} (h : Thr rl [d] xS) : Thr (runDef 4 1 (k17.b_total_crossings rl rc)) [d] xS := fun st => by
  simp only [k17.b_total_crossings, Int.cast_ofNat_Int, Nat.zero_add, Int.reduceEq, Int.reduceNe, Int.reduceLT, Int.reduceLE, Int.reduceGT, Int.reduceGE, Int.reduceAdd, Int.reduceSub, Int.reduceMul, Int.reduceNeg, Int.reduceMod, Int.reduceDiv, Nat.reduceLeDiff, slZ_tup, eqD_int, neD_int, eqD_bl, neD_bl, ixT0, ixT1, ixT2, ixF0, ixF1, ixF2, lenT, lenZ, addZ_frz, addZ_loc_frz, addL_loc_frz, beq_self_eq_true, runDef_eq, start3, finR, sSeq, sSet, sExpr, sRet, sRetN, sIf, sPar2, sAsg, sSetIx, sNil, RS.andThen_nx, RS.andThen_rt, RS.andThen_exn, R.toS_ok, R.toS_exn, kv, kc, k1, k2, kA0, kA1, kF, kM, kIf, kTr, kTb, tAnd3, tOr3, tNot3, kAndV, kOrV, kNotV, kChain, R.bind_ok, R.bind_exn, gN, gT, gs0, gs1, List.map_cons, List.map_nil, List.length_cons, List.length_nil, List.replicate, List.cons_append, List.nil_append, List.getElem?_cons_zero, List.getElem?_cons_succ, List.set_cons_zero, List.set_cons_succ, Nat.reduceAdd, Nat.reduceSub, if_true, if_false, Bool.false_eq_true, Bool.true_eq_false, reduceIte, Bool.not_true, Bool.not_false, Option.bind_some, decide_true, decide_false, frzF, tupF, listZ, addD, subD, mulD, fdivD, modD, cmpD, ltD, leD, gtD, geD, negD, absF, maxF, minF, intF, truD, strF, h st]
theorem unl_need {rl rc rn : L3.Run} {w h l : Int} (hl : Ans rl [sz w h l] (.bl false)) (hc : Ans rc [sz w h l] (sz w h l)) : Thr (runDef 4 1 (k17.b_total_need rl rc rn)) [sz w h l] (xU (sz w h l)) := fun st => by
  simp only [k17.b_total_need, Int.cast_ofNat_Int, Nat.zero_add, Int.reduceEq, Int.reduceNe, Int.reduceLT, Int.reduceLE, Int.reduceGT, Int.reduceGE, Int.reduceAdd, Int.reduceSub, Int.reduceMul, Int.reduceNeg, Int.reduceMod, Int.reduceDiv, Nat.reduceLeDiff, slZ_tup, eqD_int, neD_int, eqD_bl, neD_bl, ixT0, ixT1, ixT2, ixF0, ixF1, ixF2, lenT, lenZ, addZ_frz, addZ_loc_frz, addL_loc_frz, beq_self_eq_true, runDef_eq, start3, finR, sSeq, sSet, sExpr, sRet, sRetN, sIf, sPar2, sAsg, sSetIx, sNil, RS.andThen_nx, RS.andThen_rt, RS.andThen_exn, R.toS_ok, R.toS_exn, kv, kc, k1, k2, kA0, kA1, kF, kM, kIf, kTr, kTb, tAnd3, tOr3, tNot3, kAndV, kOrV, kNotV, kChain, R.bind_ok, R.bind_exn, gN, gT, gs0, gs1, List.map_cons, List.map_nil, List.length_cons, List.length_nil, List.replicate, List.cons_append, List.nil_append, List.getElem?_cons_zero, List.getElem?_cons_succ, List.set_cons_zero, List.set_cons_succ, Nat.reduceAdd, Nat.reduceSub, if_true, if_false, Bool.false_eq_true, Bool.true_eq_false, reduceIte, Bool.not_true, Bool.not_false, Option.bind_some, decide_true, decide_false, frzF, tupF, listZ, addD, subD, mulD, fdivD, modD, cmpD, ltD, leD, gtD, geD, negD, absF, maxF, minF, intF, truD, strF, hl st, hc st, sRaise, kMk1]
theorem unl_cross {rl rc : L3.Run} {w h l : Int} (hl : Ans rl [sz w h l] (.bl false)) (hc : Ans rc [sz w h l] (sz w h l)) : Thr (runDef 4 1 (k17.b_total_crossings rl rc)) [sz w h l] (xU (sz w h l)) := fun st => by
  simp only [k17.b_total_crossings, Int.cast_ofNat_Int, Nat.zero_add, Int.reduceEq, Int.reduceNe, Int.reduceLT, Int.reduceLE, Int.reduceGT, Int.reduceGE, Int.reduceAdd, Int.reduceSub, Int.reduceMul, Int.reduceNeg, Int.reduceMod, Int.reduceDiv, Nat.reduceLeDiff, slZ_tup, eqD_int, neD_int, eqD_bl, neD_bl, ixT0, ixT1, ixT2, ixF0, ixF1, ixF2, lenT, lenZ, addZ_frz, addZ_loc_frz, addL_loc_frz, beq_self_eq_true, runDef_eq, start3, finR, sSeq, sSet, sExpr, sRet, sRetN, sIf, sPar2, sAsg, sSetIx, sNil, RS.andThen_nx, RS.andThen_rt, RS.andThen_exn, R.toS_ok, R.toS_exn, kv, kc, k1, k2, kA0, kA1, kF, kM, kIf, kTr, kTb, tAnd3, tOr3, tNot3, kAndV, kOrV, kNotV, kChain, R.bind_ok, R.bind_exn, gN, gT, gs0, gs1, List.map_cons, List.map_nil, List.length_cons, List.length_nil, List.replicate, List.cons_append, List.nil_append, List.getElem?_cons_zero, List.getElem?_cons_succ, List.set_cons_zero, List.set_cons_succ, Nat.reduceAdd, Nat.reduceSub, if_true, if_false, Bool.false_eq_true, Bool.true_eq_false, reduceIte, Bool.not_true, Bool.not_false, Option.bind_some, decide_true, decide_false, frzF, tupF, listZ, addD, subD, mulD, fdivD, modD, cmpD, ltD, leD, gtD, geD, negD, absF, maxF, minF, intF, truD, strF, hl st, hc st, sRaise, kMk1]
theorem need_ok {rl rc rn : L3.Run} {w h l : Int} (z : Sz w h l) (hl : Ans rl [sz w h l] (.bl true)) (h1 : Ans rn [.int w, .int h, .int l] (.int (needAl w h l))) (h2 : Ans rn [.int h, .int w, .int l] (.int (needAl h w l))) :
    Ans (runDef 4 1 (k17.b_total_need rl rc rn)) [sz w h l] (.int (needT w h l)) := fun st => by
  simp only [k17.b_total_need, Int.cast_ofNat_Int, Nat.zero_add, Int.reduceEq, Int.reduceNe, Int.reduceLT, Int.reduceLE, Int.reduceGT, Int.reduceGE, Int.reduceAdd, Int.reduceSub, Int.reduceMul, Int.reduceNeg, Int.reduceMod, Int.reduceDiv, Nat.reduceLeDiff, slZ_tup, eqD_int, neD_int, eqD_bl, neD_bl, ixT0, ixT1, ixT2, ixF0, ixF1, ixF2, lenT, lenZ, addZ_frz, addZ_loc_frz, addL_loc_frz, beq_self_eq_true, runDef_eq, start3, finR, sSeq, sSet, sExpr, sRet, sRetN, sIf, sPar2, sAsg, sSetIx, sNil, RS.andThen_nx, RS.andThen_rt, RS.andThen_exn, R.toS_ok, R.toS_exn, kv, kc, k1, k2, kA0, kA1, kF, kM, kIf, kTr, kTb, tAnd3, tOr3, tNot3, kAndV, kOrV, kNotV, kChain, R.bind_ok, R.bind_exn, gN, gT, gs0, gs1, List.map_cons, List.map_nil, List.length_cons, List.length_nil, List.replicate, List.cons_append, List.nil_append, List.getElem?_cons_zero, List.getElem?_cons_succ, List.set_cons_zero, List.set_cons_succ, Nat.reduceAdd, Nat.reduceSub, if_true, if_false, Bool.false_eq_true, Bool.true_eq_false, reduceIte, Bool.not_true, Bool.not_false, Option.bind_some, decide_true, decide_false, frzF, tupF, listZ, addD, subD, mulD, fdivD, modD, cmpD, ltD, leD, gtD, geD, negD, absF, maxF, minF, intF, truD, strF, hl st, h1 st, h2 st, needT]
theorem cross_ok {rl rc : L3.Run} {w h l : Int} (z : Sz w h l) (hl : Ans rl [sz w h l] (.bl true)) : Ans (runDef 4 1 (k17.b_total_crossings rl rc)) [sz w h l] (.int (crossT w h l)) := fun st => by
  have l0 : 0 < l := by have := z.l1; omega
  have dl : divOk l := divOk_pos l0 z.l2
  have q1 : mulOk w h := mulOk_big (by have := z.w1; have := z.w2; omega) (by have := z.h1; have := z.h2; omega)
  have q0 : w * h / l ≤ w * h := Int.ediv_le_self _ (by have := z.w1; have := z.h1; exact Int.mul_nonneg (by omega) (by omega))
  have q3 : 0 ≤ w * h / l := Int.ediv_nonneg (by have := z.w1; have := z.h1; exact Int.mul_nonneg (by omega) (by omega)) (by omega)
  have q4 : w * h ≤ 1000000000000000000000000000000 * 1000000000000000000000000000000 := by
    have := z.w1; have := z.h1; have := z.w2; have := z.h2
    exact Int.mul_le_mul (by omega) (by omega) (by omega) (by omega)
  have q2 : mulOk (l - 1) (w * h / l) := mulOk_big (by have := z.l1; have := z.l2; omega) (by omega)
  simp only [k17.b_total_crossings, Int.cast_ofNat_Int, Nat.zero_add, Int.reduceEq, Int.reduceNe, Int.reduceLT, Int.reduceLE, Int.reduceGT, Int.reduceGE, Int.reduceAdd, Int.reduceSub, Int.reduceMul, Int.reduceNeg, Int.reduceMod, Int.reduceDiv, Nat.reduceLeDiff, slZ_tup, eqD_int, neD_int, eqD_bl, neD_bl, ixT0, ixT1, ixT2, ixF0, ixF1, ixF2, lenT, lenZ, addZ_frz, addZ_loc_frz, addL_loc_frz, beq_self_eq_true, runDef_eq, start3, finR, sSeq, sSet, sExpr, sRet, sRetN, sIf, sPar2, sAsg, sSetIx, sNil, RS.andThen_nx, RS.andThen_rt, RS.andThen_exn, R.toS_ok, R.toS_exn, kv, kc, k1, k2, kA0, kA1, kF, kM, kIf, kTr, kTb, tAnd3, tOr3, tNot3, kAndV, kOrV, kNotV, kChain, R.bind_ok, R.bind_exn, gN, gT, gs0, gs1, List.map_cons, List.map_nil, List.length_cons, List.length_nil, List.replicate, List.cons_append, List.nil_append, List.getElem?_cons_zero, List.getElem?_cons_succ, List.set_cons_zero, List.set_cons_succ, Nat.reduceAdd, Nat.reduceSub, if_true, if_false, Bool.false_eq_true, Bool.true_eq_false, reduceIte, Bool.not_true, Bool.not_false, Option.bind_some, decide_true, decide_false, frzF, tupF, listZ, addD, subD, mulD, fdivD, modD, cmpD, ltD, leD, gtD, geD, negD, absF, maxF, minF, intF, truD, strF, hl st, q1, q2, dl, crossT]
theorem bad_isR {rs rn rf rd : L3.Run} {d e : D} (h : Ans rs [d] (.bl false)) : Thr (runDef 2 2 (k17.b_is_reason rs rn rf rd)) [d, e] xS := fun st => by
  simp only [k17.b_is_reason, Int.cast_ofNat_Int, Nat.zero_add, Int.reduceEq, Int.reduceNe, Int.reduceLT, Int.reduceLE, Int.reduceGT, Int.reduceGE, Int.reduceAdd, Int.reduceSub, Int.reduceMul, Int.reduceNeg, Int.reduceMod, Int.reduceDiv, Nat.reduceLeDiff, slZ_tup, eqD_int, neD_int, eqD_bl, neD_bl, ixT0, ixT1, ixT2, ixF0, ixF1, ixF2, lenT, lenZ, addZ_frz, addZ_loc_frz, addL_loc_frz, beq_self_eq_true, runDef_eq, start3, finR, sSeq, sSet, sExpr, sRet, sRetN, sIf, sPar2, sAsg, sSetIx, sNil, RS.andThen_nx, RS.andThen_rt, RS.andThen_exn, R.toS_ok, R.toS_exn, kv, kc, k1, k2, kA0, kA1, kF, kM, kIf, kTr, kTb, tAnd3, tOr3, tNot3, kAndV, kOrV, kNotV, kChain, R.bind_ok, R.bind_exn, gN, gT, gs0, gs1, List.map_cons, List.map_nil, List.length_cons, List.length_nil, List.replicate, List.cons_append, List.nil_append, List.getElem?_cons_zero, List.getElem?_cons_succ, List.set_cons_zero, List.set_cons_succ, Nat.reduceAdd, Nat.reduceSub, if_true, if_false, Bool.false_eq_true, Bool.true_eq_false, reduceIte, Bool.not_true, Bool.not_false, Option.bind_some, decide_true, decide_false, frzF, tupF, listZ, addD, subD, mulD, fdivD, modD, cmpD, ltD, leD, gtD, geD, negD, absF, maxF, minF, intF, truD, strF, h st, sRaise, kMk0]
/-! ### the drawn values -/
def NS : List D := [.non, .int 0, .tup [], .tup [.int 6, .int 5], .tup [.int 6, .int 5, .int 2, .int 0], .frz [.int 6, .int 5, .int 2], .tup [.int 0, .int 5, .int 2], .tup [.int 6, .int 0, .int 2], .tup [.int 6, .int 5, .int 1], .tup [.int 6, .int 5, .int 0], .tup [.int (-6), .int 5, .int 2], .str "652",
  .tup [.bl true, .int 5, .int 2], .tup [.int 6, .bl true, .int 2], .tup [.int 6, .int 5, .bl true], .tup [.int 1000000000000000000000000000001, .int 5, .int 2], .tup [.int 6, .int 1000000000000000000000000000001, .int 2], .fdk [.inl 6] [.int 5],
  .tup [.int 6, .int 5, .int 1000000000000000000000000000001], .tup [.str "6", .int 5, .int 2], .tup [.int 6, .non, .int 2], .tup [.tup [.int 6], .int 5, .int 2], .bl true, .tup [.int 6, .int 5, .frz [.int 2]]]
def NU : List D := [.non, .int (-1), .str "0", .bl true, .tup [.int 0], .frz [], .fdk [] [], .int 100000000000000000000000000000000000000, .bl false]
theorem all_mem {P : D → Prop} : ∀ {xs : List D}, (∀ i (h : i < xs.length), P xs[i]) → ∀ d ∈ xs, P d := fun h d hd => by
  obtain ⟨i, hi, e⟩ := List.mem_iff_getElem.mp hd
  exact e ▸ h i hi
theorem ns_bad : ∀ d ∈ NS, Ans (runDef 5 1 (k17.b_is_size (runDef 1 1 k17.b_is_whole))) [d] (.bl false) := by
  unfold NS
  intro d hd
  simp only [List.mem_cons, List.not_mem_nil, or_false] at hd
  rcases hd with rfl | rfl | rfl | rfl | rfl | rfl | rfl | rfl | rfl | rfl | rfl | rfl | rfl | rfl | rfl | rfl | rfl | rfl | rfl | rfl | rfl | rfl | rfl | rfl <;> exact fun st => rfl
theorem noSize_ok {ro : L3.Run} (ho : PickS ro) {st : Sto} {n : Nat} (hd : DieAt n st) : ∃ d st', runDef 2 1 (k17.b_law_no_size ro) [.loc n] st = .ok d st' ∧ d ∈ NS ∧ Step n st st' := by
  obtain ⟨d, st', hm, e, _, s⟩ := ho st n (.frz NS) NS hd rfl (fun m z => by cases z) (by unfold NS; simp) (by unfold NS; decide)
  refine ⟨d, st', ?_, hm, s⟩
  have p : powD (.int 10) (.int 30) st = .ok (.int 1000000000000000000000000000000) st := pow_ok ⟨by decide, by decide⟩
  have e' : ro [.loc n, .frz NS] st = .ok d st' := e
  unfold NS at e'
  simp only [k17.b_law_no_size, kE1, Int.cast_ofNat_Int, Nat.zero_add, Int.reduceEq, Int.reduceNe, Int.reduceLT, Int.reduceLE, Int.reduceGT, Int.reduceGE, Int.reduceAdd, Int.reduceSub, Int.reduceMul, Int.reduceNeg, Int.reduceMod, Int.reduceDiv, Nat.reduceLeDiff, slZ_tup, eqD_int, neD_int, eqD_bl, neD_bl, ixT0, ixT1, ixT2, ixF0, ixF1, ixF2, lenT, lenZ, addZ_frz, addZ_loc_frz, addL_loc_frz, beq_self_eq_true, runDef_eq, start3, finR, sSeq, sSet, sExpr, sRet, sRetN, sIf, sPar2, sAsg, sSetIx, sNil, RS.andThen_nx, RS.andThen_rt, RS.andThen_exn, R.toS_ok, R.toS_exn, kv, kc, k1, k2, kA0, kA1, kF, kM, kIf, kTr, kTb, tAnd3, tOr3, tNot3, kAndV, kOrV, kNotV, kChain, R.bind_ok, R.bind_exn, gN, gT, gs0, gs1, List.map_cons, List.map_nil, List.length_cons, List.length_nil, List.replicate, List.cons_append, List.nil_append, List.getElem?_cons_zero, List.getElem?_cons_succ, List.set_cons_zero, List.set_cons_succ, Nat.reduceAdd, Nat.reduceSub, if_true, if_false, Bool.false_eq_true, Bool.true_eq_false, reduceIte, Bool.not_true, Bool.not_false, Option.bind_some, decide_true, decide_false, frzF, tupF, listZ, addD, subD, mulD, fdivD, modD, cmpD, ltD, leD, gtD, geD, negD, absF, maxF, minF, intF, truD, strF, p, addZ_frz, e']
end K17

namespace K17
open PySem L2 L3 Hu Pg
abbrev lam1 (x : Str) : Str := x ++ ".<locals>." ++ "<lambda>"
/-- the table of ti stands -/
def Tb (ti : Nat) (P : Addr) (q : Str) (st : Sto) : Prop := st[ti]? = some (.tb P q)
theorem Tb.step {ti n : Nat} {P : Addr} {q : Str} {st st' : Sto} (h : Tb ti P q st) (s : Step n st st') (hn : ti ≠ n) : Tb ti P q st' := s.keep _ _ hn h
section
variable {ti : Nat} {P : Addr} {q : Str} {kb : KE} {ρ : Env3} {st st1 : Sto} {d : D} {x : Str}
abbrev met (ti : Nat) (P : Addr) (q : Str) (kb : KE) : KE := kMet ti P q k17.cl_ 2 k17.hs_law_met k17.ke_law_met kb
theorem met_eq (h : Tb ti P q st) : met ti P q kb ρ st = metF k17.cl_ 2 k17.hs_law_met k17.ke_law_met (kb ρ st) := by
  unfold met kMet
  rw [h]
  simp only [and_self, if_true]
  rfl
theorem met_fine (h : Tb ti P q st) (e : kb ρ st = .ok d st1) : met ti P q kb ρ st = .ok (.str "") st1 := by rw [met_eq h, e]; rfl
theorem met_S (h : Tb ti P q st) (e : kb ρ st = .exn xS st1) : met ti P q kb ρ st = .ok (.str "size") st1 := by
  rw [met_eq h, e]
  refine metF_exn (by decide +kernel) ?_
  unfold k17.hs_law_met
  exact metH_hit rfl
theorem addR {a : Str} {n : Nat} (ha : OkS 10 a) (hx : OkS 1000 x) (hr : reprG [d] st1 = .ok (.str x) st1) {f : Str} {c : Str} : (k2 addD (kc (.str a)) ((fun y => kF reprG (kA1 ((kXf f) y) kA0)) ⟨c, [(f, d)]⟩)) (List.replicate n none) st1 = .ok (.str (a ++ x)) st1 := by
  have l : ([(f, d)] : List (Str × D)).lookup f = some d := by simp
  simp only [k2, kc, kF, kA1, kA0, kXf, l, R.bind_ok, hr]
  exact addS ha hx (by decide)
theorem met_N (h : Tb ti P q st) (e : kb ρ st = .exn (xN d) st1) (hx : OkS 1000 x) (hr : reprG [d] st1 = .ok (.str x) st1) : met ti P q kb ρ st = .ok (.str ("number " ++ x)) st1 := by
  rw [met_eq h, e]
  refine metF_exn (show ("InvalidNumber" : Str) ∈ k17.cl_ by decide +kernel) ?_
  unfold k17.hs_law_met
  rw [metH_miss (show ¬ ("InvalidNumber" : Str) = "InvalidSize" by decide +kernel), metH_miss (show ¬ ("InvalidNumber" : Str) = "InvalidPlan" by decide +kernel), metH_miss (show ¬ ("InvalidNumber" : Str) = "InvalidLine" by decide +kernel), metH_miss (show ¬ ("InvalidNumber" : Str) = "InvalidOperation" by decide +kernel), metH_hit rfl]
  exact addR ⟨by decide +kernel, by decide +kernel⟩ hx hr
theorem met_U (h : Tb ti P q st) (e : kb ρ st = .exn (xU d) st1) (hx : OkS 1000 x) (hr : reprG [d] st1 = .ok (.str x) st1) : met ti P q kb ρ st = .ok (.str ("unlaid " ++ x)) st1 := by
  rw [met_eq h, e]
  refine metF_exn (show ("Unlaid" : Str) ∈ k17.cl_ by decide +kernel) ?_
  unfold k17.hs_law_met
  rw [metH_miss (show ¬ ("Unlaid" : Str) = "InvalidSize" by decide +kernel), metH_miss (show ¬ ("Unlaid" : Str) = "InvalidPlan" by decide +kernel), metH_miss (show ¬ ("Unlaid" : Str) = "InvalidLine" by decide +kernel), metH_miss (show ¬ ("Unlaid" : Str) = "InvalidOperation" by decide +kernel), metH_miss (show ¬ ("Unlaid" : Str) = "InvalidNumber" by decide +kernel), metH_hit rfl]
  exact addR ⟨by decide +kernel, by decide +kernel⟩ hx hr
end
/-! ### the drawn numbers -/
def nuT : D → Str
  | .non => PyData.shown .none
  | .bl b => PyData.shown (.bool b)
  | .int i => PyData.shown (.int i)
  | .str x => PyData.shown (.str x)
  | .tup _ => PyData.shown (.tuple [.int 0])
  | .frz _ => PyData.shown (.list [])
  | _ => PyData.shown (.dict [])
theorem nu_cases {P : D → Prop} (h : P .non ∧ P (.int (-1)) ∧ P (.str "0") ∧ P (.bl true) ∧ P (.tup [.int 0]) ∧ P (.frz []) ∧ P (.fdk [] []) ∧ P (.int 100000000000000000000000000000000000000) ∧ P (.bl false)) : ∀ d ∈ NU, P d := by
  unfold NU
  intro d hd
  simp only [List.mem_cons, List.not_mem_nil, or_false] at hd
  obtain ⟨h1, h2, h3, h4, h5, h6, h7, h8, h9⟩ := h
  rcases hd with rfl | rfl | rfl | rfl | rfl | rfl | rfl | rfl | rfl <;> assumption
theorem nu_repr : ∀ d ∈ NU, OkS 1000 (nuT d) ∧ ∀ st, reprG [d] st = .ok (.str (nuT d)) st := by
  have lit : ∀ (d : D) (p : PyData), isE d [] = false → (∀ st, isE d st = false) → (∀ st, pd st 40 d = some p) → p.showable = true → p.hasDict = false → p.depth ≤ 60 → OkS 1000 p.shown → nuT d = p.shown → OkS 1000 (nuT d) ∧ ∀ st, reprG [d] st = .ok (.str (nuT d)) st := by
    intro d p _ h0 h1 h2 h3 h4 h5 e
    rw [e]
    refine ⟨h5, fun st => ?_⟩
    simp only [reprG, shG, h0 st, h1 st, Bool.false_eq_true, if_false]
    rw [if_pos ⟨h2, h3, h4, Nat.le_trans h5.len (by decide)⟩]
  refine nu_cases ⟨?_, ?_, ?_, ?_, ?_, ?_, ?_, ?_, ?_⟩
  · exact lit _ .none rfl (fun _ => rfl) (fun _ => rfl) rfl rfl (by decide) ⟨by decide +kernel, by decide +kernel⟩ rfl
  · exact ⟨(ishow_ok (by decide)).mono (by decide), fun st => repr_int (by decide)⟩
  · exact lit _ (.str "0") rfl (fun _ => rfl) (fun _ => rfl) rfl rfl (by decide) ⟨by decide +kernel, by decide +kernel⟩ rfl
  · exact lit _ (.bool true) rfl (fun _ => rfl) (fun _ => rfl) rfl rfl (by decide) ⟨by decide +kernel, by decide +kernel⟩ rfl
  · exact lit _ (.tuple [.int 0]) rfl (fun _ => rfl) (fun _ => rfl) rfl rfl (by decide) ⟨by decide +kernel, by decide +kernel⟩ rfl
  · exact lit _ (.list []) rfl (fun _ => rfl) (fun _ => rfl) rfl rfl (by decide) ⟨by decide +kernel, by decide +kernel⟩ rfl
  · exact ⟨⟨by decide +kernel, by decide +kernel⟩, fun st => rfl⟩
  · exact ⟨(ishow_ok (by decide)).mono (by decide), fun st => repr_int (by decide)⟩
  · exact lit _ (.bool false) rfl (fun _ => rfl) (fun _ => rfl) rfl rfl (by decide) ⟨by decide +kernel, by decide +kernel⟩ rfl
theorem nu_index {w h l : Int} (z : Sz w h l) : ∀ d ∈ NU, Ans (runDef 2 2 (k17.b_is_index (runDef 1 1 k17.b_is_whole))) [d, .int l] (.bl false) := by
  have l2 := z.l2
  have l1 := z.l1
  have no : ∀ d : D, (∀ st, runDef 1 1 k17.b_is_whole [d] st = .ok (.bl false) st) → Ans (runDef 2 2 (k17.b_is_index (runDef 1 1 k17.b_is_whole))) [d, .int l] (.bl false) := fun d h => by
    generalize runDef 1 1 k17.b_is_whole = r at h
    intro st
    simp only [k17.b_is_index, Int.cast_ofNat_Int, Nat.zero_add, Int.reduceEq, Int.reduceNe, Int.reduceLT, Int.reduceLE, Int.reduceGT, Int.reduceGE, Int.reduceAdd, Int.reduceSub, Int.reduceMul, Int.reduceNeg, Int.reduceMod, Int.reduceDiv, Nat.reduceLeDiff, slZ_tup, eqD_int, neD_int, eqD_bl, neD_bl, ixT0, ixT1, ixT2, ixF0, ixF1, ixF2, lenT, lenZ, addZ_frz, addZ_loc_frz, addL_loc_frz, beq_self_eq_true, runDef_eq, start3, finR, sSeq, sSet, sExpr, sRet, sRetN, sIf, sPar2, sAsg, sSetIx, sNil, RS.andThen_nx, RS.andThen_rt, RS.andThen_exn, R.toS_ok, R.toS_exn, kv, kc, k1, k2, kA0, kA1, kF, kM, kIf, kTr, kTb, tAnd3, tOr3, tNot3, kAndV, kOrV, kNotV, kChain, R.bind_ok, R.bind_exn, gN, gT, gs0, gs1, List.map_cons, List.map_nil, List.length_cons, List.length_nil, List.replicate, List.cons_append, List.nil_append, List.getElem?_cons_zero, List.getElem?_cons_succ, List.set_cons_zero, List.set_cons_succ, Nat.reduceAdd, Nat.reduceSub, if_true, if_false, Bool.false_eq_true, Bool.true_eq_false, reduceIte, Bool.not_true, Bool.not_false, Option.bind_some, decide_true, decide_false, frzF, tupF, listZ, addD, subD, mulD, fdivD, modD, cmpD, ltD, leD, gtD, geD, negD, absF, maxF, minF, intF, truD, strF, h st]
  have num : ∀ i : Int, ¬ (0 ≤ i ∧ i < l) → Ans (runDef 2 2 (k17.b_is_index (runDef 1 1 k17.b_is_whole))) [.int i, .int l] (.bl false) := fun i h st => by
    have e := Pg.index_ok Pg.whole_ok (i := i) (l := l) st
    have e2 : (decide (0 ≤ i) && decide (i < l)) = false := by
      by_cases h1 : 0 ≤ i <;> by_cases h2 : i < l <;> simp_all
    rw [e2] at e
    exact e
  refine nu_cases ⟨no _ fun st => rfl, num _ (by omega), no _ fun st => rfl, no _ fun st => rfl, no _ fun st => rfl, no _ fun st => rfl, no _ fun st => rfl, num _ (by omega), no _ fun st => rfl⟩
theorem nu_copied {r : L3.Run} (hi : ∀ i, Ans r [.int i] (.int i)) : ∀ d ∈ NU, Ans (runDef 3 1 (k17.b_copied r)) [d] d := by
  refine nu_cases ⟨fun st => rfl, fun st => rfl, fun st => rfl, fun st => rfl, fun st => ?_, fun st => rfl, fun st => rfl, fun st => rfl, fun st => rfl⟩
  have e : kLz [1] (gN 1) (iT (kv 0)) kTrue (kF r (kA1 (kv 1) kA0)) [some (.tup [.int 0]), none, none] st = .ok (.frz ([.int 0].map id)) st :=
    lz_map id rfl (by decide) fun d hd => ⟨_, rfl, by
      have hd : d = .int 0 := by simpa using hd
      subst hd
      exact hi 0 st⟩
  have t1 : ∀ (xs : List D) (st : Sto), isF "list" (.tup xs) st = .ok (.bl false) st := fun _ _ => rfl
  have t2 : ∀ (xs : List D) (st : Sto), isF "tuple" (.tup xs) st = .ok (.bl true) st := fun _ _ => rfl
  simp only [k17.b_copied, Int.cast_ofNat_Int, Nat.zero_add, Int.reduceEq, Int.reduceNe, Int.reduceLT, Int.reduceLE, Int.reduceGT, Int.reduceGE, Int.reduceAdd, Int.reduceSub, Int.reduceMul, Int.reduceNeg, Int.reduceMod, Int.reduceDiv, Nat.reduceLeDiff, slZ_tup, eqD_int, neD_int, eqD_bl, neD_bl, ixT0, ixT1, ixT2, ixF0, ixF1, ixF2, lenT, lenZ, addZ_frz, addZ_loc_frz, addL_loc_frz, beq_self_eq_true, runDef_eq, start3, finR, sSeq, sSet, sExpr, sRet, sRetN, sIf, sPar2, sAsg, sSetIx, sNil, RS.andThen_nx, RS.andThen_rt, RS.andThen_exn, R.toS_ok, R.toS_exn, kv, kc, k1, k2, kA0, kA1, kF, kM, kIf, kTr, kTb, tAnd3, tOr3, tNot3, kAndV, kOrV, kNotV, kChain, R.bind_ok, R.bind_exn, gN, gT, gs0, gs1, List.map_cons, List.map_nil, List.length_cons, List.length_nil, List.replicate, List.cons_append, List.nil_append, List.getElem?_cons_zero, List.getElem?_cons_succ, List.set_cons_zero, List.set_cons_succ, Nat.reduceAdd, Nat.reduceSub, if_true, if_false, Bool.false_eq_true, Bool.true_eq_false, reduceIte, Bool.not_true, Bool.not_false, Option.bind_some, decide_true, decide_false, frzF, tupF, listZ, addD, subD, mulD, fdivD, modD, cmpD, ltD, leD, gtD, geD, negD, absF, maxF, minF, intF, truD, strF, sz, t1, t2, e, tupleF, id]
theorem sz_copied {r : L3.Run} (hi : ∀ i, Ans r [.int i] (.int i)) {w h l : Int} : Ans (runDef 3 1 (k17.b_copied r)) [sz w h l] (sz w h l) := fun st => by
  have e : kLz [1] (gN 1) (iT (kv 0)) kTrue (kF r (kA1 (kv 1) kA0)) [some (.tup [.int w, .int h, .int l]), none, none] st = .ok (.frz ([.int w, .int h, .int l].map id)) st :=
    lz_map id rfl (by simp) fun d hd => ⟨_, rfl, by
      obtain ⟨i, rfl⟩ : ∃ i, d = .int i := by
        simp only [List.mem_cons, List.not_mem_nil, or_false] at hd
        rcases hd with rfl | rfl | rfl <;> exact ⟨_, rfl⟩
      exact hi i st⟩
  have t1 : ∀ (xs : List D) (st : Sto), isF "list" (.tup xs) st = .ok (.bl false) st := fun _ _ => rfl
  have t2 : ∀ (xs : List D) (st : Sto), isF "tuple" (.tup xs) st = .ok (.bl true) st := fun _ _ => rfl
  simp only [k17.b_copied, Int.cast_ofNat_Int, Nat.zero_add, Int.reduceEq, Int.reduceNe, Int.reduceLT, Int.reduceLE, Int.reduceGT, Int.reduceGE, Int.reduceAdd, Int.reduceSub, Int.reduceMul, Int.reduceNeg, Int.reduceMod, Int.reduceDiv, Nat.reduceLeDiff, slZ_tup, eqD_int, neD_int, eqD_bl, neD_bl, ixT0, ixT1, ixT2, ixF0, ixF1, ixF2, lenT, lenZ, addZ_frz, addZ_loc_frz, addL_loc_frz, beq_self_eq_true, runDef_eq, start3, finR, sSeq, sSet, sExpr, sRet, sRetN, sIf, sPar2, sAsg, sSetIx, sNil, RS.andThen_nx, RS.andThen_rt, RS.andThen_exn, R.toS_ok, R.toS_exn, kv, kc, k1, k2, kA0, kA1, kF, kM, kIf, kTr, kTb, tAnd3, tOr3, tNot3, kAndV, kOrV, kNotV, kChain, R.bind_ok, R.bind_exn, gN, gT, gs0, gs1, List.map_cons, List.map_nil, List.length_cons, List.length_nil, List.replicate, List.cons_append, List.nil_append, List.getElem?_cons_zero, List.getElem?_cons_succ, List.set_cons_zero, List.set_cons_succ, Nat.reduceAdd, Nat.reduceSub, if_true, if_false, Bool.false_eq_true, Bool.true_eq_false, reduceIte, Bool.not_true, Bool.not_false, Option.bind_some, decide_true, decide_false, frzF, tupF, listZ, addD, subD, mulD, fdivD, modD, cmpD, ltD, leD, gtD, geD, negD, absF, maxF, minF, intF, truD, strF, sz, t1, t2, e, tupleF, id]
end K17

namespace K17
open PySem L2 L3 Hu Pg
theorem seq_nx {a b : KS} {ρ ρ1 : Env3} {st st1 : Sto} {r : RS} (h : a ρ st = .nx ρ1 st1) (h2 : b ρ1 st1 = r) : sSeq a b ρ st = r := by
  unfold sSeq
  rw [h]
  exact h2
/-- told.append(word) -/
theorem app_S {k m : Nat} {M : KE} {xs : List Str} {x : Str} {ρ : Env3} {st : Sto} (hk : ρ[k]? = some (some (.loc m))) (hm : st[m]? = some (.lst (xs.map D.str))) (hl : xs.length < 1000) (h : M ρ st = .ok (.str x) st) :
    sExpr (kM (tyD "list") appendM (kv k) (kA1 M kA0)) ρ st = .nx ρ (st.set m (.lst ((xs ++ [x]).map D.str))) := by
  have e : appendM (.loc m) [.str x] st = .ok .non (st.set m (.lst ((xs ++ [x]).map D.str))) := by
    rw [appendM_ok hm (by simp; omega)]
    simp
  simp only [sExpr, kM, kA1, kA0, kv_ok hk, R.bind_ok, tyD_lst hm, if_true, h, e, R.toS_ok]
/-- told = [word] -/
theorem new_S {k : Nat} {M : KE} {x : Str} {ρ : Env3} {st : Sto} (h : M ρ st = .ok (.str x) st) : sSet k (kF lstF (kA1 M kA0)) ρ st = .nx (ρ.set k (some (.loc st.length))) (st ++ [.lst ([x].map D.str)]) := by
  have e : lstF [.str x] st = .ok (.loc st.length) (st ++ [.lst ([x].map D.str)]) := rfl
  simp only [sSet, kF, kA1, kA0, h, R.bind_ok, e, R.toS_ok]
/-- for call in xs: if V != W: return False -/
theorem loop_fns {it : KI} {V W : KE} {xs : List D} {ρ0 : Env3} {st : Sto} (hi : it ρ0 st = .ok (.its xs) st) (hl : ρ0.length = 7)
    (h : ∀ x ∈ xs, ∀ ρ : Env3, ρ.length = 7 → ρ[3]? = some (some x) → (∀ i, i ≠ 3 → ρ[i]? = ρ0[i]?) → ∃ s, V ρ st = .ok (.str s) st ∧ W ρ st = .ok (.str s) st ∧ OkS 2000 s) :
    ∃ ρ', sFor (gN 3) it (sIf (kTb (k2 neD V W)) (sRet (kc (.bl false))) sNil) ρ0 st = .nx ρ' st ∧ ρ'.length = 7 ∧ ∀ i, i ≠ 3 → ρ'[i]? = ρ0[i]? := by
  obtain ⟨ρ', st', e, rfl, hl', hk⟩ := for_keep (g := gN 3) (body := sIf (kTb (k2 neD V W)) (sRet (kc (.bl false))) sNil) (fun ρ s => s = st ∧ ρ.length = 7 ∧ ∀ i, i ≠ 3 → ρ[i]? = ρ0[i]?) hi ⟨rfl, hl, fun _ _ => rfl⟩
    (fun x hx ρ s ⟨hs, hl1, hk⟩ => by
      subst hs
      have hk2 : ∀ i, i ≠ 3 → (ρ.set 3 (some x))[i]? = ρ0[i]? := fun i hi => by rw [List.getElem?_set_ne (Ne.symm hi)]; exact hk i hi
      obtain ⟨t, e1, e2, o⟩ := h x hx (ρ.set 3 (some x)) (by simpa using hl1) (List.getElem?_set_self (by omega)) hk2
      refine ⟨ρ.set 3 (some x), ρ.set 3 (some x), s, rfl, ?_, rfl, by simpa using hl1, hk2⟩
      have n : neD (.str t) (.str t) s = .ok (.bl false) s := by rw [neD_S o o]; simp
      simp only [sIf, kTb, k2, e1, e2, R.bind_ok, n, truD, R.toS_ok, Bool.false_eq_true, if_false, sNil])
  exact ⟨ρ', e, hl', hk⟩
theorem ns_isTup : ∀ d ∈ NS, (∃ xs, d = .tup xs) ∨ ∀ st, isF "tuple" d st = .ok (.bl false) st := by
  unfold NS
  intro d hd
  simp only [List.mem_cons, List.not_mem_nil, or_false] at hd
  rcases hd with rfl | rfl | rfl | rfl | rfl | rfl | rfl | rfl | rfl | rfl | rfl | rfl | rfl | rfl | rfl | rfl | rfl | rfl | rfl | rfl | rfl | rfl | rfl | rfl <;> first | exact .inl ⟨_, rfl⟩ | exact .inr fun st => rfl
theorem ns_eq : ∀ xs, D.tup xs ∈ NS → ∀ st, eqD (.tup xs) (.tup [.str "narrow"]) st = .ok (.bl false) st ∧ eqD (.tup xs) (.tup [.str "few"]) st = .ok (.bl false) st := by
  intro xs hd
  unfold NS at hd
  simp only [List.mem_cons, List.not_mem_nil, or_false, reduceCtorEq, false_or, D.tup.injEq] at hd
  rcases hd with rfl | rfl | rfl | rfl | rfl | rfl | rfl | rfl | rfl | rfl | rfl | rfl | rfl | rfl | rfl | rfl | rfl | rfl <;> intro st <;> first | exact ⟨rfl, rfl⟩ | exact ⟨by kernel_rfl, by kernel_rfl⟩
theorem ns_third : ∀ xs, D.tup xs ∈ NS → xs.length = 3 → ∃ x b c, xs = [x, b, c] ∧ ∀ st, eqD x (.str "weights") st = .ok (.bl false) st := by
  intro xs hd hl
  unfold NS at hd
  simp only [List.mem_cons, List.not_mem_nil, or_false, reduceCtorEq, false_or, D.tup.injEq] at hd
  rcases hd with rfl | rfl | rfl | rfl | rfl | rfl | rfl | rfl | rfl | rfl | rfl | rfl | rfl | rfl | rfl | rfl | rfl | rfl <;> first | exact absurd hl (by decide) | exact ⟨_, _, _, rfl, fun st => by kernel_rfl⟩
theorem ns_len : ∀ xs, D.tup xs ∈ NS → xs.length ≤ 16 := by
  intro xs hd
  unfold NS at hd
  simp only [List.mem_cons, List.not_mem_nil, or_false, reduceCtorEq, false_or, D.tup.injEq] at hd
  rcases hd with rfl | rfl | rfl | rfl | rfl | rfl | rfl | rfl | rfl | rfl | rfl | rfl | rfl | rfl | rfl | rfl | rfl | rfl <;> decide
theorem isR_no {rs rn rf rd : L3.Run} {w h l : Int} (hs : Ans rs [sz w h l] (.bl true)) : ∀ d ∈ NS, Ans (runDef 2 2 (k17.b_is_reason rs rn rf rd)) [sz w h l, d] (.bl false) := by
  intro d hd st
  have e := hs st
  rcases ns_isTup d hd with ⟨xs, rfl⟩ | hn
  · have t2 : isF "tuple" (.tup xs) st = .ok (.bl true) st := rfl
    obtain ⟨q1, q2⟩ := ns_eq xs hd st
    by_cases hl : xs.length = 3
    · obtain ⟨x, b, c, rfl, q3⟩ := ns_third xs hd hl
      have q3 := q3 st
      have i0 : ixD (.tup [x, b, c]) (.int 0) st = .ok x st := ixD_tup rfl
      simp only [k17.b_is_reason, Int.cast_ofNat_Int, Nat.zero_add, Int.reduceEq, Int.reduceNe, Int.reduceLT, Int.reduceLE, Int.reduceGT, Int.reduceGE, Int.reduceAdd, Int.reduceSub, Int.reduceMul, Int.reduceNeg, Int.reduceMod, Int.reduceDiv, Nat.reduceLeDiff, slZ_tup, eqD_int, neD_int, eqD_bl, neD_bl, ixT0, ixT1, ixT2, ixF0, ixF1, ixF2, lenT, lenZ, addZ_frz, addZ_loc_frz, addL_loc_frz, beq_self_eq_true, runDef_eq, start3, finR, sSeq, sSet, sExpr, sRet, sRetN, sIf, sPar2, sAsg, sSetIx, sNil, RS.andThen_nx, RS.andThen_rt, RS.andThen_exn, R.toS_ok, R.toS_exn, kv, kc, k1, k2, kA0, kA1, kF, kM, kIf, kTr, kTb, tAnd3, tOr3, tNot3, kAndV, kOrV, kNotV, kChain, R.bind_ok, R.bind_exn, gN, gT, gs0, gs1, List.map_cons, List.map_nil, List.length_cons, List.length_nil, List.replicate, List.cons_append, List.nil_append, List.getElem?_cons_zero, List.getElem?_cons_succ, List.set_cons_zero, List.set_cons_succ, Nat.reduceAdd, Nat.reduceSub, if_true, if_false, Bool.false_eq_true, Bool.true_eq_false, reduceIte, Bool.not_true, Bool.not_false, Option.bind_some, decide_true, decide_false, frzF, tupF, listZ, addD, subD, mulD, fdivD, modD, cmpD, ltD, leD, gtD, geD, negD, absF, maxF, minF, intF, truD, strF, e, t2, q1, q2, q3]
    · have hl2 : ¬ ((xs.length : Nat) : Int) = 3 := by omega
      simp only [k17.b_is_reason, Int.cast_ofNat_Int, Nat.zero_add, Int.reduceEq, Int.reduceNe, Int.reduceLT, Int.reduceLE, Int.reduceGT, Int.reduceGE, Int.reduceAdd, Int.reduceSub, Int.reduceMul, Int.reduceNeg, Int.reduceMod, Int.reduceDiv, Nat.reduceLeDiff, slZ_tup, eqD_int, neD_int, eqD_bl, neD_bl, ixT0, ixT1, ixT2, ixF0, ixF1, ixF2, lenT, lenZ, addZ_frz, addZ_loc_frz, addL_loc_frz, beq_self_eq_true, runDef_eq, start3, finR, sSeq, sSet, sExpr, sRet, sRetN, sIf, sPar2, sAsg, sSetIx, sNil, RS.andThen_nx, RS.andThen_rt, RS.andThen_exn, R.toS_ok, R.toS_exn, kv, kc, k1, k2, kA0, kA1, kF, kM, kIf, kTr, kTb, tAnd3, tOr3, tNot3, kAndV, kOrV, kNotV, kChain, R.bind_ok, R.bind_exn, gN, gT, gs0, gs1, List.map_cons, List.map_nil, List.length_cons, List.length_nil, List.replicate, List.cons_append, List.nil_append, List.getElem?_cons_zero, List.getElem?_cons_succ, List.set_cons_zero, List.set_cons_succ, Nat.reduceAdd, Nat.reduceSub, if_true, if_false, Bool.false_eq_true, Bool.true_eq_false, reduceIte, Bool.not_true, Bool.not_false, Option.bind_some, decide_true, decide_false, frzF, tupF, listZ, addD, subD, mulD, fdivD, modD, cmpD, ltD, leD, gtD, geD, negD, absF, maxF, minF, intF, truD, strF, e, t2, q1, q2, hl2, decide_false]
  · have hn := hn st
    simp only [k17.b_is_reason, Int.cast_ofNat_Int, Nat.zero_add, Int.reduceEq, Int.reduceNe, Int.reduceLT, Int.reduceLE, Int.reduceGT, Int.reduceGE, Int.reduceAdd, Int.reduceSub, Int.reduceMul, Int.reduceNeg, Int.reduceMod, Int.reduceDiv, Nat.reduceLeDiff, slZ_tup, eqD_int, neD_int, eqD_bl, neD_bl, ixT0, ixT1, ixT2, ixF0, ixF1, ixF2, lenT, lenZ, addZ_frz, addZ_loc_frz, addL_loc_frz, beq_self_eq_true, runDef_eq, start3, finR, sSeq, sSet, sExpr, sRet, sRetN, sIf, sPar2, sAsg, sSetIx, sNil, RS.andThen_nx, RS.andThen_rt, RS.andThen_exn, R.toS_ok, R.toS_exn, kv, kc, k1, k2, kA0, kA1, kF, kM, kIf, kTr, kTb, tAnd3, tOr3, tNot3, kAndV, kOrV, kNotV, kChain, R.bind_ok, R.bind_exn, gN, gT, gs0, gs1, List.map_cons, List.map_nil, List.length_cons, List.length_nil, List.replicate, List.cons_append, List.nil_append, List.getElem?_cons_zero, List.getElem?_cons_succ, List.set_cons_zero, List.set_cons_succ, Nat.reduceAdd, Nat.reduceSub, if_true, if_false, Bool.false_eq_true, Bool.true_eq_false, reduceIte, Bool.not_true, Bool.not_false, Option.bind_some, decide_true, decide_false, frzF, tupF, listZ, addD, subD, mulD, fdivD, modD, cmpD, ltD, leD, gtD, geD, negD, absF, maxF, minF, intF, truD, strF, e, hn]
theorem reason_some {rb rn rh : L3.Run} {w h l : Int} {b1 b2 b3 : Bool} (z : Sz w h l) (hb : Ans rb [sz w h l] (.bl b1)) (hn : Ans rn [sz w h l] (.bl b2)) (hh : Ans rh [sz w h l] (.bl b3)) : ∃ d, Ans (runDef 5 1 (k17.b_reason rb rn rh)) [sz w h l] d := by
  have l0 : 0 < l := by have := z.l1; omega
  have dl : divOk l := divOk_pos l0 z.l2
  cases b1
  · cases b2
    · cases b3
      · exact ⟨_, fun st => by simp only [k17.b_reason, Int.cast_ofNat_Int, Nat.zero_add, Int.reduceEq, Int.reduceNe, Int.reduceLT, Int.reduceLE, Int.reduceGT, Int.reduceGE, Int.reduceAdd, Int.reduceSub, Int.reduceMul, Int.reduceNeg, Int.reduceMod, Int.reduceDiv, Nat.reduceLeDiff, slZ_tup, eqD_int, neD_int, eqD_bl, neD_bl, ixT0, ixT1, ixT2, ixF0, ixF1, ixF2, lenT, lenZ, addZ_frz, addZ_loc_frz, addL_loc_frz, beq_self_eq_true, runDef_eq, start3, finR, sSeq, sSet, sExpr, sRet, sRetN, sIf, sPar2, sAsg, sSetIx, sNil, RS.andThen_nx, RS.andThen_rt, RS.andThen_exn, R.toS_ok, R.toS_exn, kv, kc, k1, k2, kA0, kA1, kF, kM, kIf, kTr, kTb, tAnd3, tOr3, tNot3, kAndV, kOrV, kNotV, kChain, R.bind_ok, R.bind_exn, gN, gT, gs0, gs1, List.map_cons, List.map_nil, List.length_cons, List.length_nil, List.replicate, List.cons_append, List.nil_append, List.getElem?_cons_zero, List.getElem?_cons_succ, List.set_cons_zero, List.set_cons_succ, Nat.reduceAdd, Nat.reduceSub, if_true, if_false, Bool.false_eq_true, Bool.true_eq_false, reduceIte, Bool.not_true, Bool.not_false, Option.bind_some, decide_true, decide_false, frzF, tupF, listZ, addD, subD, mulD, fdivD, modD, cmpD, ltD, leD, gtD, geD, negD, absF, maxF, minF, intF, truD, strF, hb st, hn st, hh st, dl, l0]; rfl⟩
      · exact ⟨_, fun st => by simp only [k17.b_reason, Int.cast_ofNat_Int, Nat.zero_add, Int.reduceEq, Int.reduceNe, Int.reduceLT, Int.reduceLE, Int.reduceGT, Int.reduceGE, Int.reduceAdd, Int.reduceSub, Int.reduceMul, Int.reduceNeg, Int.reduceMod, Int.reduceDiv, Nat.reduceLeDiff, slZ_tup, eqD_int, neD_int, eqD_bl, neD_bl, ixT0, ixT1, ixT2, ixF0, ixF1, ixF2, lenT, lenZ, addZ_frz, addZ_loc_frz, addL_loc_frz, beq_self_eq_true, runDef_eq, start3, finR, sSeq, sSet, sExpr, sRet, sRetN, sIf, sPar2, sAsg, sSetIx, sNil, RS.andThen_nx, RS.andThen_rt, RS.andThen_exn, R.toS_ok, R.toS_exn, kv, kc, k1, k2, kA0, kA1, kF, kM, kIf, kTr, kTb, tAnd3, tOr3, tNot3, kAndV, kOrV, kNotV, kChain, R.bind_ok, R.bind_exn, gN, gT, gs0, gs1, List.map_cons, List.map_nil, List.length_cons, List.length_nil, List.replicate, List.cons_append, List.nil_append, List.getElem?_cons_zero, List.getElem?_cons_succ, List.set_cons_zero, List.set_cons_succ, Nat.reduceAdd, Nat.reduceSub, if_true, if_false, Bool.false_eq_true, Bool.true_eq_false, reduceIte, Bool.not_true, Bool.not_false, Option.bind_some, decide_true, decide_false, frzF, tupF, listZ, addD, subD, mulD, fdivD, modD, cmpD, ltD, leD, gtD, geD, negD, absF, maxF, minF, intF, truD, strF, hb st, hn st, hh st]; rfl⟩
    · exact ⟨_, fun st => by simp only [k17.b_reason, Int.cast_ofNat_Int, Nat.zero_add, Int.reduceEq, Int.reduceNe, Int.reduceLT, Int.reduceLE, Int.reduceGT, Int.reduceGE, Int.reduceAdd, Int.reduceSub, Int.reduceMul, Int.reduceNeg, Int.reduceMod, Int.reduceDiv, Nat.reduceLeDiff, slZ_tup, eqD_int, neD_int, eqD_bl, neD_bl, ixT0, ixT1, ixT2, ixF0, ixF1, ixF2, lenT, lenZ, addZ_frz, addZ_loc_frz, addL_loc_frz, beq_self_eq_true, runDef_eq, start3, finR, sSeq, sSet, sExpr, sRet, sRetN, sIf, sPar2, sAsg, sSetIx, sNil, RS.andThen_nx, RS.andThen_rt, RS.andThen_exn, R.toS_ok, R.toS_exn, kv, kc, k1, k2, kA0, kA1, kF, kM, kIf, kTr, kTb, tAnd3, tOr3, tNot3, kAndV, kOrV, kNotV, kChain, R.bind_ok, R.bind_exn, gN, gT, gs0, gs1, List.map_cons, List.map_nil, List.length_cons, List.length_nil, List.replicate, List.cons_append, List.nil_append, List.getElem?_cons_zero, List.getElem?_cons_succ, List.set_cons_zero, List.set_cons_succ, Nat.reduceAdd, Nat.reduceSub, if_true, if_false, Bool.false_eq_true, Bool.true_eq_false, reduceIte, Bool.not_true, Bool.not_false, Option.bind_some, decide_true, decide_false, frzF, tupF, listZ, addD, subD, mulD, fdivD, modD, cmpD, ltD, leD, gtD, geD, negD, absF, maxF, minF, intF, truD, strF, hb st, hn st]; rfl⟩
  · exact ⟨_, fun st => by simp only [k17.b_reason, Int.cast_ofNat_Int, Nat.zero_add, Int.reduceEq, Int.reduceNe, Int.reduceLT, Int.reduceLE, Int.reduceGT, Int.reduceGE, Int.reduceAdd, Int.reduceSub, Int.reduceMul, Int.reduceNeg, Int.reduceMod, Int.reduceDiv, Nat.reduceLeDiff, slZ_tup, eqD_int, neD_int, eqD_bl, neD_bl, ixT0, ixT1, ixT2, ixF0, ixF1, ixF2, lenT, lenZ, addZ_frz, addZ_loc_frz, addL_loc_frz, beq_self_eq_true, runDef_eq, start3, finR, sSeq, sSet, sExpr, sRet, sRetN, sIf, sPar2, sAsg, sSetIx, sNil, RS.andThen_nx, RS.andThen_rt, RS.andThen_exn, R.toS_ok, R.toS_exn, kv, kc, k1, k2, kA0, kA1, kF, kM, kIf, kTr, kTb, tAnd3, tOr3, tNot3, kAndV, kOrV, kNotV, kChain, R.bind_ok, R.bind_exn, gN, gT, gs0, gs1, List.map_cons, List.map_nil, List.length_cons, List.length_nil, List.replicate, List.cons_append, List.nil_append, List.getElem?_cons_zero, List.getElem?_cons_succ, List.set_cons_zero, List.set_cons_succ, Nat.reduceAdd, Nat.reduceSub, if_true, if_false, Bool.false_eq_true, Bool.true_eq_false, reduceIte, Bool.not_true, Bool.not_false, Option.bind_some, decide_true, decide_false, frzF, tupF, listZ, addD, subD, mulD, fdivD, modD, cmpD, ltD, leD, gtD, geD, negD, absF, maxF, minF, intF, truD, strF, hb st]; rfl⟩
/-- none, number = _law_no_size(urn), _law_one(urn, [...]) -/
theorem draw_pair {ro rn : L3.Run} (ho : PickS ro) (hn : ∀ {st : Sto} {n : Nat}, DieAt n st → ∃ d st', rn [.loc n] st = .ok d st' ∧ d ∈ NS ∧ Step n st st') {st : Sto} {n : Nat} (hd : DieAt n st) : ∃ d u st', d ∈ NS ∧ u ∈ NU ∧ Step n st st' ∧
    sAsg (gT 2 (gs1 (gN 1) (gs1 (gN 2) gs0))) (kF tupF (kA1 (kF rn (kA1 (kv 0) kA0)) (kA1 (kF ro (kA1 (kv 0) (kA1 (kF frzF (kA1 (kc .non) (kA1 (k1 negD (kc (.int 1))) (kA1 (kc (.str "0")) (kA1 (kc (.bl true)) (kA1 (kF tupF (kA1 (kc (.int 0)) kA0)) (kA1 (kF frzF kA0) (kA1 kE0 (kA1 (k2 powD (kc (.int 10)) (kc (.int 38))) (kA1 (kc (.bl false)) kA0)))))))))) kA0))) kA0))) [some (.loc n), none, none, none, none, none, none] st = .nx [some (.loc n), some d, some u, none, none, none, none] st' := by
  obtain ⟨d, s1, e1, hd1, t1⟩ := hn hd
  obtain ⟨u, s2, hu, e2, _, t2⟩ := ho s1 n (.frz NU) NU t1.die rfl (fun m z => by cases z) (by unfold NU; simp) (by unfold NU; decide)
  refine ⟨d, u, s2, hd1, hu, t1.trans t2, ?_⟩
  have p : powD (.int 10) (.int 38) s1 = .ok (.int 100000000000000000000000000000000000000) s1 := pow_ok ⟨by decide, by decide⟩
  have e2' : ro [.loc n, .frz NU] s1 = .ok u s2 := e2
  unfold NU at e2'
  simp only [kE0, Int.cast_ofNat_Int, Nat.zero_add, Int.reduceEq, Int.reduceNe, Int.reduceLT, Int.reduceLE, Int.reduceGT, Int.reduceGE, Int.reduceAdd, Int.reduceSub, Int.reduceMul, Int.reduceNeg, Int.reduceMod, Int.reduceDiv, Nat.reduceLeDiff, slZ_tup, eqD_int, neD_int, eqD_bl, neD_bl, ixT0, ixT1, ixT2, ixF0, ixF1, ixF2, lenT, lenZ, addZ_frz, addZ_loc_frz, addL_loc_frz, beq_self_eq_true, runDef_eq, start3, finR, sSeq, sSet, sExpr, sRet, sRetN, sIf, sPar2, sAsg, sSetIx, sNil, RS.andThen_nx, RS.andThen_rt, RS.andThen_exn, R.toS_ok, R.toS_exn, kv, kc, k1, k2, kA0, kA1, kF, kM, kIf, kTr, kTb, tAnd3, tOr3, tNot3, kAndV, kOrV, kNotV, kChain, R.bind_ok, R.bind_exn, gN, gT, gs0, gs1, List.map_cons, List.map_nil, List.length_cons, List.length_nil, List.replicate, List.cons_append, List.nil_append, List.getElem?_cons_zero, List.getElem?_cons_succ, List.set_cons_zero, List.set_cons_succ, Nat.reduceAdd, Nat.reduceSub, if_true, if_false, Bool.false_eq_true, Bool.true_eq_false, reduceIte, Bool.not_true, Bool.not_false, Option.bind_some, decide_true, decide_false, frzF, tupF, listZ, addD, subD, mulD, fdivD, modD, cmpD, ltD, leD, gtD, geD, negD, absF, maxF, minF, intF, truD, strF, e1, p, e2']
/-- size = _law_one(urn, [_law_small(urn, 400), _law_great(urn)]) -/
theorem draw_size {ro rs rg : L3.Run} (ho : PickS ro) (hs : ∀ {st : Sto} {n : Nat}, DieAt n st → ∃ (w h l : Int) (st' : Sto), rs [.loc n, .int 400] st = .ok (sz w h l) st' ∧ Step n st st' ∧ Sz w h l)
    (hg : ∀ {st : Sto} {n : Nat}, DieAt n st → ∃ (w h l : Int) (st' : Sto), rg [.loc n] st = .ok (sz w h l) st' ∧ Step n st st' ∧ Sz w h l) {st : Sto} {n : Nat} (hd : DieAt n st) {ρ : Env3} (h0 : ρ[0]? = some (some (.loc n))) :
    ∃ (w h l : Int) (st' : Sto), Sz w h l ∧ Step n st st' ∧ sSet 5 (kF ro (kA1 (kv 0) (kA1 (kF frzF (kA1 (kF rs (kA1 (kv 0) (kA1 (kc (.int 400)) kA0))) (kA1 (kF rg (kA1 (kv 0) kA0)) kA0))) kA0))) ρ st = .nx (ρ.set 5 (some (sz w h l))) st' := by
  obtain ⟨w, h, l, s1, e1, t1, z1⟩ := hs hd
  obtain ⟨w', h', l', s2, e2, t2, z2⟩ := hg t1.die
  obtain ⟨u, s3, hu, e3, _, t3⟩ := ho s2 n (.frz [sz w h l, sz w' h' l']) [sz w h l, sz w' h' l'] t2.die rfl (fun m z => by cases z) (by simp) (by simp)
  have fin : ∀ (a b c : Int), u = sz a b c → sSet 5 (kF ro (kA1 (kv 0) (kA1 (kF frzF (kA1 (kF rs (kA1 (kv 0) (kA1 (kc (.int 400)) kA0))) (kA1 (kF rg (kA1 (kv 0) kA0)) kA0))) kA0))) ρ st = .nx (ρ.set 5 (some (sz a b c))) s3 := fun a b c q => by
    subst q
    have f : frzF [sz w h l, sz w' h' l'] s2 = .ok (.frz [sz w h l, sz w' h' l']) s2 := rfl
    simp only [sSet, kF, kA1, kA0, kc, kv_ok h0, R.bind_ok, e1, e2, f, e3, R.toS_ok]
  simp only [List.mem_cons, List.not_mem_nil, or_false] at hu
  rcases hu with hu | hu
  · exact ⟨w, h, l, s3, z1, (t1.trans t2).trans t3, fin _ _ _ hu⟩
  · exact ⟨w', h', l', s3, z2, (t1.trans t2).trans t3, fin _ _ _ hu⟩
end K17

namespace K17
open PySem L2 L3 Hu Pg
def FnIs (fs : List (Str × Addr × L3.Run)) (x : Str) (a : Addr) (r : L3.Run) : Prop := fnHas fs x a = true ∧ fnRun fs x a = r
theorem FnIs.hit {fs : List (Str × Addr × L3.Run)} {x : Str} {a : Addr} {r : L3.Run} : FnIs ((x, a, r) :: fs) x a r := ⟨by simp [fnHas], by simp [fnRun]⟩
theorem FnIs.miss {fs : List (Str × Addr × L3.Run)} {x y : Str} {a b : Addr} {r r' : L3.Run} (h : FnIs fs x a r) (n : ¬ y = x) : FnIs ((y, b, r') :: fs) x a r := ⟨by simp [fnHas, n, h.1], by simp [fnRun, n, h.2]⟩
theorem callV_eq {fs : List (Str × Addr × L3.Run)} {x : Str} {a : Addr} {r : L3.Run} {i : Nat} {kas : KA} {ds : List D} {ρ : Env3} {st st1 : Sto} (f : FnIs fs x a r) (h3 : ρ[i]? = some (some (.fn x a))) (hk : kas ρ st = .ok ds st1) : kCallV fs i kas ρ st = r ds st1 := by
  unfold kCallV
  rw [h3]
  show (if fnHas fs x a = true then _ else _) = _
  rw [if_pos f.1, hk, R.bind_ok, f.2]
theorem arg1 {i : Nat} {a : D} {ρ : Env3} {st : Sto} (h : ρ[i]? = some (some a)) : kA1 (kv i) kA0 ρ st = .ok [a] st := by
  simp only [kA1, kA0, kv_ok h, R.bind_ok]
section
variable {A1 A2 A3 A4 A5 P : Addr} {ro rn rl rb rr rt rc ri rw' rg rs rd : L3.Run}
abbrev fns (A1 A2 A3 A4 A5 : Addr) (rl rb rr rt rc : L3.Run) : List (Str × Addr × L3.Run) := [("can_be_laid", A5, rl), ("has_bond", A4, rb), ("reason", A3, rr), ("total_need", A2, rt), ("total_crossings", A1, rc)]
theorem f1 : FnIs (fns A1 A2 A3 A4 A5 rl rb rr rt rc) "can_be_laid" A5 rl := .hit
theorem f2 : FnIs (fns A1 A2 A3 A4 A5 rl rb rr rt rc) "has_bond" A4 rb := .miss .hit (by decide +kernel)
theorem f3 : FnIs (fns A1 A2 A3 A4 A5 rl rb rr rt rc) "reason" A3 rr := .miss (.miss .hit (by decide +kernel)) (by decide +kernel)
theorem f4 : FnIs (fns A1 A2 A3 A4 A5 rl rb rr rt rc) "total_need" A2 rt := .miss (.miss (.miss .hit (by decide +kernel)) (by decide +kernel)) (by decide +kernel)
theorem f5 : FnIs (fns A1 A2 A3 A4 A5 rl rb rr rt rc) "total_crossings" A1 rc := .miss (.miss (.miss (.miss .hit (by decide +kernel)) (by decide +kernel)) (by decide +kernel)) (by decide +kernel)
theorem right_ok (ho : PickS ro) (hn : ∀ {st : Sto} {n : Nat}, DieAt n st → ∃ d st', rn [.loc n] st = .ok d st' ∧ d ∈ NS ∧ Step n st st')
    (hs : ∀ {st : Sto} {n : Nat}, DieAt n st → ∃ (w h l : Int) (st' : Sto), rs [.loc n, .int 400] st = .ok (sz w h l) st' ∧ Step n st st' ∧ Sz w h l)
    (hg : ∀ {st : Sto} {n : Nat}, DieAt n st → ∃ (w h l : Int) (st' : Sto), rg [.loc n] st = .ok (sz w h l) st' ∧ Step n st st' ∧ Sz w h l)
    (b1 : ∀ d ∈ NS, Thr rl [d] xS) (b2 : ∀ d ∈ NS, Thr rb [d] xS) (b3 : ∀ d ∈ NS, Thr rr [d] xS) (b4 : ∀ d ∈ NS, Thr rt [d] xS) (b5 : ∀ d ∈ NS, Thr rc [d] xS)
    (b6 : ∀ d ∈ NS, ∀ e, Thr ri [d, e] xS) (b7 : ∀ d ∈ NS, ∀ e, Thr rw' [d, e] xS)
    (n1 : ∀ {w h l : Int}, Sz w h l → ∀ u ∈ NU, Thr rw' [sz w h l, u] (xN u)) (n2 : ∀ {w h l : Int}, Sz w h l → Thr rw' [sz w h l, .int l] (xN (.int l)))
    (g1 : ∀ {w h l : Int}, Sz w h l → laidB w h l = true → ∃ v, Ans rt [sz w h l] v) (g2 : ∀ {w h l : Int}, Sz w h l → laidB w h l = true → ∃ v, Ans rc [sz w h l] v)
    (u1 : ∀ {w h l : Int}, Sz w h l → laidB w h l = false → Thr rt [sz w h l] (xU (sz w h l))) (u2 : ∀ {w h l : Int}, Sz w h l → laidB w h l = false → Thr rc [sz w h l] (xU (sz w h l)))
    (g3 : ∀ {w h l : Int}, Sz w h l → ∀ d ∈ NS, ∃ v, Ans ri [sz w h l, d] v) (g4 : ∀ {w h l : Int}, Sz w h l → ∃ v, Ans rr [sz w h l] v)
    (hl : ∀ {w h l : Int}, Sz w h l → Ans rd [sz w h l] (.bl (laidB w h l)))
    {st : Sto} {n : Nat} (hd : DieAt n st) (hn0 : 0 ≠ n) (ht : Tb 0 P (lam1 "_law_right") st) : ∃ st', runDef 7 1 (k17.b_law_right A1 A2 A3 A4 A5 P ro rn rl rb rr rt rc ri rw' rg rs rd) [.loc n] st = .ok (.bl true) st' ∧ Step n st st' := by
  obtain ⟨d, u, s1, hdN, hu, t1, e1⟩ := draw_pair ho hn hd
  have T1 := ht.step t1 hn0
  have oS : OkS 2000 ("size" : Str) := ⟨by decide +kernel, by decide +kernel⟩
  have oE : OkS 2000 ("" : Str) := ⟨by decide +kernel, by decide +kernel⟩
  obtain ⟨ρ2, e2, l2, kk2⟩ := loop_fns (it := iL (kF frzF (kA1 (kc (.fn "can_be_laid" A5)) (kA1 (kc (.fn "has_bond" A4)) (kA1 (kc (.fn "reason" A3)) (kA1 (kc (.fn "total_need" A2)) (kA1 (kc (.fn "total_crossings" A1)) kA0)))))))
    (V := met 0 P (lam1 "_law_right") (kCallV (fns A1 A2 A3 A4 A5 rl rb rr rt rc) 3 (kA1 (kv 1) kA0))) (W := kc (.str "size")) (ρ0 := [some (.loc n), some d, some u, none, none, none, none]) (st := s1)
    (xs := [.fn "can_be_laid" A5, .fn "has_bond" A4, .fn "reason" A3, .fn "total_need" A2, .fn "total_crossings" A1]) rfl rfl (fun x hx ρ hl h3 hk => by
      have a1 : kA1 (kv 1) kA0 ρ s1 = .ok [d] s1 := arg1 (hk 1 (by decide))
      refine ⟨"size", met_S T1 (st1 := s1) ?_, rfl, oS⟩
      simp only [List.mem_cons, List.not_mem_nil, or_false] at hx
      rcases hx with rfl | rfl | rfl | rfl | rfl
      · exact (callV_eq f1 h3 a1).trans (b1 d hdN s1)
      · exact (callV_eq f2 h3 a1).trans (b2 d hdN s1)
      · exact (callV_eq f3 h3 a1).trans (b3 d hdN s1)
      · exact (callV_eq f4 h3 a1).trans (b4 d hdN s1)
      · exact (callV_eq f5 h3 a1).trans (b5 d hdN s1))
  obtain ⟨c0, c1, c2, c3, c4, c5, c6, rfl⟩ := env7 l2
  obtain rfl : c0 = some (.loc n) := by simpa using kk2 0 (by decide)
  obtain rfl : c1 = some d := by simpa using kk2 1 (by decide)
  obtain rfl : c2 = some u := by simpa using kk2 2 (by decide)
  obtain rfl : c4 = none := by simpa using kk2 4 (by decide)
  obtain rfl : c5 = none := by simpa using kk2 5 (by decide)
  obtain rfl : c6 = none := by simpa using kk2 6 (by decide)
  have e3 := new_S (k := 4) (M := met 0 P (lam1 "_law_right") (kF ri (kA1 (kv 1) (kA1 (kv 2) kA0)))) (x := "size") (ρ := [some (.loc n), some d, some u, c3, none, none, none]) (st := s1) (met_S T1 (st1 := s1) (b6 d hdN u s1))
  obtain ⟨m, hm⟩ : ∃ m, s1.length = m := ⟨_, rfl⟩
  have mn : m ≠ n := by have := t1.die.lt; omega
  have ml : st.length ≤ m := by have := t1.len; omega
  have t2 := t1.new (.lst ((["size"] : List Str).map D.str))
  have q2 : (s1 ++ [.lst ((["size"] : List Str).map D.str)])[m]? = some (.lst ((["size"] : List Str).map D.str)) := by rw [← hm, stA0]; rfl
  rw [hm] at e3
  generalize s1 ++ [.lst ((["size"] : List Str).map D.str)] = s2 at e3 t2 q2
  have T2 := ht.step t2 hn0
  have e4 := app_S (k := 4) (M := met 0 P (lam1 "_law_right") (kF rw' (kA1 (kv 1) (kA1 (kv 2) kA0)))) (x := "size") (ρ := [some (.loc n), some d, some u, c3, some (.loc m), none, none]) (st := s2) rfl q2 (by decide) (met_S T2 (st1 := s2) (b7 d hdN u s2))
  have t3 := t2.setNew ml mn (.lst (([("size" : Str)] ++ [("size" : Str)] : List Str).map D.str))
  have q3 : (s2.set m (.lst (([("size" : Str)] ++ [("size" : Str)] : List Str).map D.str)))[m]? = some (.lst (([("size" : Str)] ++ [("size" : Str)] : List Str).map D.str)) := List.getElem?_set_self (List.getElem?_eq_some_iff.mp q2).1
  generalize s2.set m (.lst (([("size" : Str)] ++ [("size" : Str)] : List Str).map D.str)) = s3 at e4 t3 q3
  obtain ⟨w, h, l, s4, z, t4', e5⟩ := draw_size ho hs hg t3.die (ρ := [some (.loc n), some d, some u, c3, some (.loc m), none, none]) rfl
  have t4 := t3.trans t4'
  have q4 := t4'.keep m _ mn q3
  have T4 := ht.step t4 hn0
  obtain ⟨oU, hU⟩ := nu_repr u hu
  have e6 := app_S (k := 4) (M := met 0 P (lam1 "_law_right") (kF rw' (kA1 (kv 5) (kA1 (kv 2) kA0)))) (x := "number " ++ nuT u) (ρ := [some (.loc n), some d, some u, c3, some (.loc m), some (sz w h l), none]) (st := s4) rfl q4 (by decide) (met_N T4 (st1 := s4) (n1 z u hu s4) oU (hU s4))
  have t5 := t4.setNew ml mn (.lst (([("size" : Str)] ++ [("size" : Str)] ++ [("number " : Str) ++ nuT u] : List Str).map D.str))
  have q5 : (s4.set m (.lst (([("size" : Str)] ++ [("size" : Str)] ++ [("number " : Str) ++ nuT u] : List Str).map D.str)))[m]? = some (.lst (([("size" : Str)] ++ [("size" : Str)] ++ [("number " : Str) ++ nuT u] : List Str).map D.str)) := List.getElem?_set_self (List.getElem?_eq_some_iff.mp q4).1
  generalize s4.set m (.lst (([("size" : Str)] ++ [("size" : Str)] ++ [("number " : Str) ++ nuT u] : List Str).map D.str)) = s5 at e6 t5 q5
  have T5 := ht.step t5 hn0
  have wl : w.natAbs < 2 ^ 130 := by have := z.w1; have := z.w2; omega
  have hh : h.natAbs < 2 ^ 130 := by have := z.h1; have := z.h2; omega
  have ll : l.natAbs < 2 ^ 130 := by have := z.l1; have := z.l2; omega
  have oL := ishow_ok ll
  have e7 := app_S (k := 4) (M := met 0 P (lam1 "_law_right") (kF rw' (kA1 (kv 5) (kA1 (k2 ixD (kv 5) (kc (.int 2))) kA0)))) (x := "number " ++ ishow l) (ρ := [some (.loc n), some d, some u, c3, some (.loc m), some (sz w h l), none]) (st := s5) rfl q5 (by simp) (met_N T5 (st1 := s5) (n2 z s5) (oL.mono (by decide)) (repr_int ll))
  have t6 := t5.setNew ml mn (.lst (([("size" : Str)] ++ [("size" : Str)] ++ [("number " : Str) ++ nuT u] ++ [("number " : Str) ++ ishow l] : List Str).map D.str))
  have q6 : (s5.set m (.lst (([("size" : Str)] ++ [("size" : Str)] ++ [("number " : Str) ++ nuT u] ++ [("number " : Str) ++ ishow l] : List Str).map D.str)))[m]? = some (.lst (([("size" : Str)] ++ [("size" : Str)] ++ [("number " : Str) ++ nuT u] ++ [("number " : Str) ++ ishow l] : List Str).map D.str)) := List.getElem?_set_self (List.getElem?_eq_some_iff.mp q5).1
  generalize s5.set m (.lst (([("size" : Str)] ++ [("size" : Str)] ++ [("number " : Str) ++ nuT u] ++ [("number " : Str) ++ ishow l] : List Str).map D.str)) = s6 at e7 t6 q6
  have T6 := ht.step t6 hn0
  have oN : OkS 10 ("number " : Str) := ⟨by decide +kernel, by decide +kernel⟩
  have oM : OkS 10 ("unlaid " : Str) := ⟨by decide +kernel, by decide +kernel⟩
  have sok : ∀ x ∈ (["size", "size", "number " ++ nuT u, "number " ++ ishow l] : List Str), PyData.strOk x = true := by
    intro x hx
    simp only [List.mem_cons, List.not_mem_nil, or_false] at hx
    rcases hx with rfl | rfl | rfl | rfl
    · exact oS.ok
    · exact oS.ok
    · exact (oN.app oU).ok
    · exact (oN.app oL).ok
  have e8 : sIf (kTb (L3.k2 neD (kv 4) (kF frzF (kA1 (kc (.str "size")) (kA1 (kc (.str "size")) (kA1 (L3.k2 addD (kc (.str "number ")) (kF reprG (kA1 (kv 2) kA0))) (kA1 (L3.k2 addD (kc (.str "number ")) (kF reprG (kA1 (L3.k2 ixD (kv 5) (kc (.int 2))) kA0))) kA0))))))) (sRet (kc (.bl false))) sNil
      [some (.loc n), some d, some u, c3, some (.loc m), some (sz w h l), none] s6 = .nx [some (.loc n), some d, some u, c3, some (.loc m), some (sz w h l), none] s6 := by
    have a1 := addS (st := s6) oN oU (by decide)
    have a2 := addS (st := s6) oN oL (by decide)
    have a3 := repr_int (st := s6) ll
    have cmp := neD_strs (st := s6) (m := m) ["size", "size", "number " ++ nuT u, "number " ++ ishow l] q6 sok sok
    rw [show (!decide (([("size" : Str)] ++ [("size" : Str)] ++ [("number " : Str) ++ nuT u] ++ [("number " : Str) ++ ishow l] : List Str) = [("size" : Str), ("size" : Str), ("number " : Str) ++ nuT u, ("number " : Str) ++ ishow l])) = false from by simp] at cmp
    simp only [List.map_cons, List.map_nil] at cmp
    simp only [Int.cast_ofNat_Int, Nat.zero_add, Int.reduceEq, Int.reduceNe, Int.reduceLT, Int.reduceLE, Int.reduceGT, Int.reduceGE, Int.reduceAdd, Int.reduceSub, Int.reduceMul, Int.reduceNeg, Int.reduceMod, Int.reduceDiv, Nat.reduceLeDiff, slZ_tup, eqD_int, neD_int, eqD_bl, neD_bl, ixT0, ixT1, ixT2, ixF0, ixF1, ixF2, lenT, lenZ, addZ_frz, addZ_loc_frz, addL_loc_frz, beq_self_eq_true, runDef_eq, start3, finR, sSeq, sSet, sExpr, sRet, sRetN, sIf, sPar2, sAsg, sSetIx, sNil, RS.andThen_nx, RS.andThen_rt, RS.andThen_exn, R.toS_ok, R.toS_exn, kv, kc, k1, k2, kA0, kA1, kF, kM, kIf, kTr, kTb, tAnd3, tOr3, tNot3, kAndV, kOrV, kNotV, kChain, R.bind_ok, R.bind_exn, gN, gT, gs0, gs1, List.map_cons, List.map_nil, List.length_cons, List.length_nil, List.replicate, List.cons_append, List.nil_append, List.getElem?_cons_zero, List.getElem?_cons_succ, List.set_cons_zero, List.set_cons_succ, Nat.reduceAdd, Nat.reduceSub, if_true, if_false, Bool.false_eq_true, Bool.true_eq_false, reduceIte, Bool.not_true, Bool.not_false, Option.bind_some, decide_true, decide_false, frzF, truD, hU s6, a1, a2, a3, cmp]
  obtain ⟨x, hx⟩ : ∃ x : Str, (if laidB w h l = true then ("" : Str) else ("unlaid " : Str) ++ tshow w h l) = x := ⟨_, rfl⟩
  have oT := tshow_ok wl hh ll
  have rT : ∀ st, reprG [sz w h l] st = .ok (.str (tshow w h l)) st := fun st => repr_tup wl hh ll
  have oX : OkS 2000 x := by
    rw [← hx]
    split
    · exact oE
    · exact (oM.app oT).mono (by decide)
  have e9 : sSet 6 (kIf (kTr (kF rd (kA1 (kv 5) kA0))) (kc (.str "")) (L3.k2 addD (kc (.str "unlaid ")) (kF reprG (kA1 (kv 5) kA0)))) [some (.loc n), some d, some u, c3, some (.loc m), some (sz w h l), none] s6 = .nx [some (.loc n), some d, some u, c3, some (.loc m), some (sz w h l), some (.str x)] s6 := by
    have a1 := hl z s6
    have a2 := rT s6
    have a3 := addS (st := s6) oM oT (by decide)
    rw [← hx]
    cases lb : laidB w h l
    · rw [lb] at a1
      simp only [Int.cast_ofNat_Int, Nat.zero_add, Int.reduceEq, Int.reduceNe, Int.reduceLT, Int.reduceLE, Int.reduceGT, Int.reduceGE, Int.reduceAdd, Int.reduceSub, Int.reduceMul, Int.reduceNeg, Int.reduceMod, Int.reduceDiv, Nat.reduceLeDiff, slZ_tup, eqD_int, neD_int, eqD_bl, neD_bl, ixT0, ixT1, ixT2, ixF0, ixF1, ixF2, lenT, lenZ, addZ_frz, addZ_loc_frz, addL_loc_frz, beq_self_eq_true, runDef_eq, start3, finR, sSeq, sSet, sExpr, sRet, sRetN, sIf, sPar2, sAsg, sSetIx, sNil, RS.andThen_nx, RS.andThen_rt, RS.andThen_exn, R.toS_ok, R.toS_exn, kv, kc, k1, k2, kA0, kA1, kF, kM, kIf, kTr, kTb, tAnd3, tOr3, tNot3, kAndV, kOrV, kNotV, kChain, R.bind_ok, R.bind_exn, gN, gT, gs0, gs1, List.map_cons, List.map_nil, List.length_cons, List.length_nil, List.replicate, List.cons_append, List.nil_append, List.getElem?_cons_zero, List.getElem?_cons_succ, List.set_cons_zero, List.set_cons_succ, Nat.reduceAdd, Nat.reduceSub, if_true, if_false, Bool.false_eq_true, Bool.true_eq_false, reduceIte, Bool.not_true, Bool.not_false, Option.bind_some, decide_true, decide_false, truD, a1, a2, a3]
    · rw [lb] at a1
      simp only [Int.cast_ofNat_Int, Nat.zero_add, Int.reduceEq, Int.reduceNe, Int.reduceLT, Int.reduceLE, Int.reduceGT, Int.reduceGE, Int.reduceAdd, Int.reduceSub, Int.reduceMul, Int.reduceNeg, Int.reduceMod, Int.reduceDiv, Nat.reduceLeDiff, slZ_tup, eqD_int, neD_int, eqD_bl, neD_bl, ixT0, ixT1, ixT2, ixF0, ixF1, ixF2, lenT, lenZ, addZ_frz, addZ_loc_frz, addL_loc_frz, beq_self_eq_true, runDef_eq, start3, finR, sSeq, sSet, sExpr, sRet, sRetN, sIf, sPar2, sAsg, sSetIx, sNil, RS.andThen_nx, RS.andThen_rt, RS.andThen_exn, R.toS_ok, R.toS_exn, kv, kc, k1, k2, kA0, kA1, kF, kM, kIf, kTr, kTb, tAnd3, tOr3, tNot3, kAndV, kOrV, kNotV, kChain, R.bind_ok, R.bind_exn, gN, gT, gs0, gs1, List.map_cons, List.map_nil, List.length_cons, List.length_nil, List.replicate, List.cons_append, List.nil_append, List.getElem?_cons_zero, List.getElem?_cons_succ, List.set_cons_zero, List.set_cons_succ, Nat.reduceAdd, Nat.reduceSub, if_true, if_false, Bool.false_eq_true, Bool.true_eq_false, reduceIte, Bool.not_true, Bool.not_false, Option.bind_some, decide_true, decide_false, frzF, tupF, listZ, addD, subD, mulD, fdivD, modD, cmpD, ltD, leD, gtD, geD, negD, absF, maxF, minF, intF, truD, strF, a1]
  obtain ⟨ρ3, e10, l3, kk3⟩ := loop_fns (it := iL (kF frzF (kA1 (kc (.fn "total_need" A2)) (kA1 (kc (.fn "total_crossings" A1)) kA0))))
    (V := met 0 P (lam1 "_law_right") (kCallV (fns A1 A2 A3 A4 A5 rl rb rr rt rc) 3 (kA1 (kv 5) kA0))) (W := kv 6) (ρ0 := [some (.loc n), some d, some u, c3, some (.loc m), some (sz w h l), some (.str x)]) (st := s6)
    (xs := [.fn "total_need" A2, .fn "total_crossings" A1]) rfl rfl (fun y hy ρ hl' h3 hk => by
      have a1 : kA1 (kv 5) kA0 ρ s6 = .ok [sz w h l] s6 := arg1 (hk 5 (by decide))
      have go : ∀ {r : L3.Run} {nm : Str} {a : Addr}, y = .fn nm a → FnIs (fns A1 A2 A3 A4 A5 rl rb rr rt rc) nm a r → (laidB w h l = true → ∃ v, Ans r [sz w h l] v) → (laidB w h l = false → Thr r [sz w h l] (xU (sz w h l))) → met 0 P (lam1 "_law_right") (kCallV (fns A1 A2 A3 A4 A5 rl rb rr rt rc) 3 (kA1 (kv 5) kA0)) ρ s6 = .ok (.str x) s6 := fun hyy f p1 p2 => by
        subst hyy
        rw [← hx]
        cases lb : laidB w h l
        · exact met_U T6 ((callV_eq f h3 a1).trans (p2 lb s6)) (oT.mono (by decide)) (rT s6)
        · obtain ⟨v, hv⟩ := p1 lb
          exact met_fine T6 ((callV_eq f h3 a1).trans (hv s6))
      refine ⟨x, ?_, kv_ok (hk 6 (by decide)), oX⟩
      simp only [List.mem_cons, List.not_mem_nil, or_false] at hy
      rcases hy with hy | hy
      · exact go hy f4 (g1 z) (u1 z)
      · exact go hy f5 (g2 z) (u2 z))
  obtain ⟨c0, c1, c2, c3', c4, c5, c6, rfl⟩ := env7 l3
  obtain rfl : c0 = some (.loc n) := by simpa using kk3 0 (by decide)
  obtain rfl : c1 = some d := by simpa using kk3 1 (by decide)
  obtain rfl : c2 = some u := by simpa using kk3 2 (by decide)
  obtain rfl : c4 = some (.loc m) := by simpa using kk3 4 (by decide)
  obtain rfl : c5 = some (sz w h l) := by simpa using kk3 5 (by decide)
  obtain rfl : c6 = some (.str x) := by simpa using kk3 6 (by decide)
  obtain ⟨v1, hv1⟩ := g3 z d hdN
  obtain ⟨v2, hv2⟩ := g4 z
  have e11 := new_S (k := 4) (M := met 0 P (lam1 "_law_right") (kF ri (kA1 (kv 5) (kA1 (kv 1) kA0)))) (x := "") (ρ := [some (.loc n), some d, some u, c3', some (.loc m), some (sz w h l), some (.str x)]) (st := s6) (met_fine T6 (st1 := s6) (hv1 s6))
  obtain ⟨m', hm'⟩ : ∃ m', s6.length = m' := ⟨_, rfl⟩
  have mn' : m' ≠ n := by have := t6.die.lt; omega
  have ml' : st.length ≤ m' := by have := t6.len; omega
  have t7 := t6.new (.lst (([""] : List Str).map D.str))
  have q7 : (s6 ++ [.lst (([""] : List Str).map D.str)])[m']? = some (.lst (([""] : List Str).map D.str)) := by rw [← hm', stA0]; rfl
  rw [hm'] at e11
  generalize s6 ++ [.lst (([""] : List Str).map D.str)] = s7 at e11 t7 q7
  have T7 := ht.step t7 hn0
  have e12 := app_S (k := 4) (M := met 0 P (lam1 "_law_right") (kF rr (kA1 (kv 5) kA0))) (x := "") (ρ := [some (.loc n), some d, some u, c3', some (.loc m'), some (sz w h l), some (.str x)]) (st := s7) rfl q7 (by decide) (met_fine T7 (st1 := s7) (hv2 s7))
  have t8 := t7.setNew ml' mn' (.lst (([("" : Str)] ++ [("" : Str)] : List Str).map D.str))
  have q8 : (s7.set m' (.lst (([("" : Str)] ++ [("" : Str)] : List Str).map D.str)))[m']? = some (.lst (([("" : Str)] ++ [("" : Str)] : List Str).map D.str)) := List.getElem?_set_self (List.getElem?_eq_some_iff.mp q7).1
  generalize s7.set m' (.lst (([("" : Str)] ++ [("" : Str)] : List Str).map D.str)) = s8 at e12 t8 q8
  refine ⟨s8, ?_, t8⟩
  have e13 : sRet (L3.k2 eqD (kv 4) (kF frzF (kA1 (kc (.str "")) (kA1 (kc (.str "")) kA0)))) [some (.loc n), some d, some u, c3', some (.loc m'), some (sz w h l), some (.str x)] s8 = .rt (.bl true) s8 := by
    have sok2 : ∀ x ∈ (["", ""] : List Str), PyData.strOk x = true := by
      intro x hx
      simp only [List.mem_cons, List.not_mem_nil, or_false] at hx
      rcases hx with rfl | rfl <;> exact oE.ok
    have cmp := eqD_strs (st := s8) (m := m') ["", ""] q8 sok2 sok2
    rw [show decide (([("" : Str)] ++ [("" : Str)] : List Str) = [("" : Str), ("" : Str)]) = true from by simp] at cmp
    simp only [List.map_cons, List.map_nil] at cmp
    simp only [Int.cast_ofNat_Int, Nat.zero_add, Int.reduceEq, Int.reduceNe, Int.reduceLT, Int.reduceLE, Int.reduceGT, Int.reduceGE, Int.reduceAdd, Int.reduceSub, Int.reduceMul, Int.reduceNeg, Int.reduceMod, Int.reduceDiv, Nat.reduceLeDiff, slZ_tup, eqD_int, neD_int, eqD_bl, neD_bl, ixT0, ixT1, ixT2, ixF0, ixF1, ixF2, lenT, lenZ, addZ_frz, addZ_loc_frz, addL_loc_frz, beq_self_eq_true, runDef_eq, start3, finR, sSeq, sSet, sExpr, sRet, sRetN, sIf, sPar2, sAsg, sSetIx, sNil, RS.andThen_nx, RS.andThen_rt, RS.andThen_exn, R.toS_ok, R.toS_exn, kv, kc, k1, k2, kA0, kA1, kF, kM, kIf, kTr, kTb, tAnd3, tOr3, tNot3, kAndV, kOrV, kNotV, kChain, R.bind_ok, R.bind_exn, gN, gT, gs0, gs1, List.map_cons, List.map_nil, List.length_cons, List.length_nil, List.replicate, List.cons_append, List.nil_append, List.getElem?_cons_zero, List.getElem?_cons_succ, List.set_cons_zero, List.set_cons_succ, Nat.reduceAdd, Nat.reduceSub, if_true, if_false, Bool.false_eq_true, Bool.true_eq_false, reduceIte, Bool.not_true, Bool.not_false, Option.bind_some, decide_true, decide_false, frzF, tupF, listZ, addD, subD, mulD, fdivD, modD, cmpD, ltD, leD, gtD, geD, negD, absF, maxF, minF, intF, truD, strF, cmp]
  have all : k17.b_law_right A1 A2 A3 A4 A5 P ro rn rl rb rr rt rc ri rw' rg rs rd [some (.loc n), none, none, none, none, none, none] st = .rt (.bl true) s8 :=
    seq_nx e1 (seq_nx e2 (seq_nx e3 (seq_nx e4 (seq_nx e5 (seq_nx e6 (seq_nx e7 (seq_nx e8 (seq_nx e9 (seq_nx e10 (seq_nx e11 (seq_nx e12 e13)))))))))))
  refine (runDef_eq rfl).trans ?_
  show finR (k17.b_law_right A1 A2 A3 A4 A5 P ro rn rl rb rr rt rc ri rw' rg rs rd [some (.loc n), none, none, none, none, none, none] st) = _
  rw [all]
  rfl
end
end K17

namespace K17
open PySem L2 L3 Hu Pg
/-- what stood at the start stands -/
def Kept (st0 st : Sto) : Prop := ∀ (m : Nat) (o : O), st0[m]? = some o → st[m]? = some o
theorem Kept.step {st0 st st' : Sto} {n : Nat} (h : Kept st0 st) (s : Step n st st') (hn : st0.length ≤ n) : Kept st0 st' := fun m o e => s.keep m o (by have := (List.getElem?_eq_some_iff.mp e).1; omega) (h m o e)
theorem Kept.new {st0 st : Sto} (h : Kept st0 st) (g : Sto) : Kept st0 (st ++ g) := fun m o e => by
  have e := h m o e
  rw [List.getElem?_append_left (List.getElem?_eq_some_iff.mp e).1]
  exact e
theorem Kept.set {st0 st : Sto} {m : Nat} (h : Kept st0 st) (hm : st0.length ≤ m) (o : O) : Kept st0 (st.set m o) := fun k u e => by
  rw [List.getElem?_set_ne (by have := (List.getElem?_eq_some_iff.mp e).1; omega)]
  exact h k u e
/-- a draw goes well where the start stands -/
def WellT (st0 : Sto) (r : L3.Run) : Prop := ∀ (st : Sto) (n : Nat), DieAt n st → st0.length ≤ n → Kept st0 st → ∃ st', r [.loc n] st = .ok (.bl true) st' ∧ Step n st st'
theorem loop_inT {st0 : Sto} {rr : L3.Run} (h : WellT st0 rr) {jd jt T : Nat} (hne : jt ≠ jd) (hT : T < 1000) {n : Nat} (hn : st0.length ≤ n) : ∀ (ρ : Env3) (st : Sto), ρ[jd]? = some (some (.loc n)) → DieAt n st → Kept st0 st →
    ∃ ρ' st', sFor (gN jt) (iR1 (kA1 (kc (.int T)) kA0)) (sIf (tNot3 (kTr (kF rr (kA1 (kv jd) kA0)))) (sRet (kc (.bl false))) sNil) ρ st = .nx ρ' st' ∧ Step n st st' ∧ ρ'.length = ρ.length ∧ ∀ i, i ≠ jt → ρ'[i]? = ρ[i]? := by
  intro ρ st hj hd hk0
  obtain ⟨ρ', st', e, q⟩ := for_keep (g := gN jt) (body := sIf (tNot3 (kTr (kF rr (kA1 (kv jd) kA0)))) (sRet (kc (.bl false))) sNil) (fun ρ1 s => Step n st s ∧ ρ1.length = ρ.length ∧ ∀ i, i ≠ jt → ρ1[i]? = ρ[i]?) (it_rng1 (ρ := ρ) (st := st) hT) ⟨.refl hd, rfl, fun _ _ => rfl⟩
    (fun x _ ρ1 s ⟨q, hl, hk⟩ => by
      obtain ⟨sa, ea, ta⟩ := h s n q.die hn (hk0.step q hn)
      have hk2 : ∀ i, i ≠ jt → (ρ1.set jt (some x))[i]? = ρ[i]? := fun i hi => by rw [List.getElem?_set_ne (Ne.symm hi)]; exact hk i hi
      refine ⟨ρ1.set jt (some x), ρ1.set jt (some x), sa, rfl, ?_, q.trans ta, by simpa using hl, hk2⟩
      have hv : ∀ s, kv jd (ρ1.set jt (some x)) s = .ok (.loc n) s := fun s => kv_ok (by rw [hk2 jd (Ne.symm hne)]; exact hj)
      simp only [sIf, tNot3, kTr, kF, kA1, kA0, hv, R.bind_ok, ea, truD, R.toS_ok, Bool.not_true, Bool.false_eq_true, if_false, sNil])
  exact ⟨ρ', st', e, q⟩
theorem loop_outT {st0 : Sto} {rnum : L3.Run} {G : KS} (hnum : NumsS rnum) {ns : List Int} (hns : ns.length ≤ 63) {K : Nat} (hK : 1 ≤ K) (hK2 : K < 1000) {jd : Nat} (hjd : 1 < jd)
    {N : Nat} (hG : ∀ (ρ : Env3) (st : Sto) (n : Nat), ρ.length = N → ρ[0]? = some (some (.frz (ns.map D.int))) → ρ[jd]? = some (some (.loc n)) → DieAt n st → st0.length ≤ n → Kept st0 st → ∃ ρ' st', G ρ st = .nx ρ' st' ∧ Step n st st' ∧ ρ'.length = ρ.length ∧ ρ'[0]? = ρ[0]?) :
    ∀ (ρ : Env3), ρ.length = N → ρ[0]? = some (some (.frz (ns.map D.int))) → jd < ρ.length → ∃ ρ' st', sFor (gN 1) (iR1 (kA1 (kF maxF (kA1 (kc (.int 1)) (kA1 (kF minF (kA1 (kc (.int K)) (kA1 (kF lenF (kA1 (kv 0) kA0)) kA0))) kA0))) kA0))
      (sSeq (sSet jd (kF rnum (kA1 (kv 0) (kA1 (kv 1) kA0)))) G) ρ st0 = .nx ρ' st' ∧ Kept st0 st' ∧ st0.length ≤ st'.length ∧ ρ'.length = ρ.length ∧ ρ'[0]? = ρ[0]? := by
  intro ρ hN h0 hl
  obtain ⟨k, hk1, hk8, hk⟩ : ∃ k : Int, 1 ≤ k ∧ k ≤ 1000 ∧ kF maxF (kA1 (kc (.int 1)) (kA1 (kF minF (kA1 (kc (.int K)) (kA1 (kF lenF (kA1 (kv 0) kA0)) kA0))) kA0)) ρ st0 = .ok (.int k) st0 := by
    refine ⟨max 1 (min (K : Int) (ns.length : Int)), by omega, by omega, ?_⟩
    simp only [kF, kA1, kA0, kc, kv, h0, R.bind_ok, lenF, minF, maxF, List.length_map]
    congr 2
    omega
  have e : iR1 (kA1 (kF maxF (kA1 (kc (.int 1)) (kA1 (kF minF (kA1 (kc (.int K)) (kA1 (kF lenF (kA1 (kv 0) kA0)) kA0))) kA0))) kA0) ρ st0 = .ok (.its (rngIts 0 k.toNat)) st0 := by
    refine (iR1_eq (a := kA1 (kF maxF (kA1 (kc (.int 1)) (kA1 (kF minF (kA1 (kc (.int K)) (kA1 (kF lenF (kA1 (kv 0) kA0)) kA0))) kA0))) kA0) (ds := [.int k]) (st1 := st0) ?_).trans (rng1_ok (by omega))
    rw [kA1]
    show (kF maxF _ ρ st0).bind _ = _
    rw [hk]
    rfl
  obtain ⟨ρ', st', e1, q⟩ := for_keep (g := gN 1) (body := sSeq (sSet jd (kF rnum (kA1 (kv 0) (kA1 (kv 1) kA0)))) G) (fun ρ1 s => Kept st0 s ∧ st0.length ≤ s.length ∧ ρ1.length = ρ.length ∧ ρ1[0]? = ρ[0]?) e ⟨fun _ _ h => h, Nat.le_refl _, rfl, rfl⟩
    (fun x hx ρ1 s ⟨hkp, hln, hl1, hk1⟩ => by
      obtain ⟨j, hj, rfl⟩ : ∃ j : Int, 0 ≤ j ∧ x = .int j := by
        unfold rngIts at hx
        obtain ⟨j, _, rfl⟩ := List.mem_map.mp hx
        exact ⟨_, by omega, rfl⟩
      obtain ⟨p, q, hn⟩ := hnum s ns j hj
      have len1 : (ρ1.set 1 (some (.int j))).length = ρ.length := by simpa using hl1
      have hv0 : ∀ s, kv 0 (ρ1.set 1 (some (.int j))) s = .ok (.frz (ns.map D.int)) s := fun s => kv_ok (by rw [List.getElem?_set_ne (by decide), hk1]; exact h0)
      have hv1 : ∀ s, kv 1 (ρ1.set 1 (some (.int j))) s = .ok (.int j) s := fun s => kv_ok (by rw [List.getElem?_set_self (by omega)])
      obtain ⟨ρ2, s2, e2, t2, l2, k2'⟩ := hG ((ρ1.set 1 (some (.int j))).set jd (some (.loc s.length))) (s ++ [.lst [.int p, .int q, .int 0]]) s.length (by simp; omega) (by rw [List.getElem?_set_ne (by omega), List.getElem?_set_ne (by decide), hk1]; exact h0) (by rw [List.getElem?_set_self (by omega)]) ⟨p, q, 0, by rw [stA0]; rfl⟩ hln (hkp.new _)
      refine ⟨ρ1.set 1 (some (.int j)), ρ2, s2, rfl, ?_, (hkp.new _).step t2 hln, by have := t2.len; simp at this; omega, by rw [l2]; simpa using hl1, ?_⟩
      · simp only [sSeq, sSet, kF, kA1, kA0, hv0, hv1, R.bind_ok, hn, R.toS_ok, RS.andThen_nx]
        exact e2
      · rw [k2', List.getElem?_set_ne (by omega), List.getElem?_set_ne (by decide), hk1])
  exact ⟨ρ', st', e1, q⟩
section
variable {Pr P : Addr} {rnum rr rt rw' : L3.Run}
abbrev B30 : Int := 1000000000000000000000000000000
theorem law_ok (hnum : NumsS rnum) (hr : WellT [.tb Pr (lam1 "_law_right"), .tb P (lam1 "law")] rr) (ht : Thr rt [sz 3 3 2] (xU (sz 3 3 2))) {v : D} (hw : Ans rw' [sz B30 B30 B30, .int 999999999999999999999999999999] v) (ns : List Int) (hns : ns.length ≤ 63) :
    ∃ st', runDef 5 1 (k17.b_law P rnum rr rt rw') [.frz (ns.map D.int)] [.tb Pr (lam1 "_law_right"), .tb P (lam1 "law")] = .ok (.bl true) st' := by
  obtain ⟨ρ', s1, e1, hk, hln, hl, h0⟩ := loop_outT (st0 := [.tb Pr (lam1 "_law_right"), .tb P (lam1 "law")]) (G := sFor (gN 4) (iR1 (kA1 (kc (.int 4)) kA0)) (sIf (tNot3 (kTr (kF rr (kA1 (kv 3) kA0)))) (sRet (kc (.bl false))) sNil)) hnum hns (K := 8) (by decide) (by decide) (jd := 3) (by decide)
    (N := 5) (fun ρ st n hl h0 hj hd hn hk => by
      obtain ⟨ρ1, s1, a1, a2, a3, a4⟩ := loop_inT hr (jd := 3) (jt := 4) (T := 4) (by decide) (by decide) hn ρ st hj hd hk
      exact ⟨ρ1, s1, a1, a2, a3, a4 0 (by decide)⟩)
    [some (.frz (ns.map D.int)), none, none, none, none] rfl rfl (by simp)
  obtain ⟨c0, c1, c2, c3, c4, rfl⟩ := env5 hl
  have T1 : Tb 1 P (lam1 "law") s1 := hk 1 _ rfl
  have n3 : (3 : Int).natAbs < 2 ^ 130 := by decide
  have n2 : (2 : Int).natAbs < 2 ^ 130 := by decide
  have oT := tshow_ok n3 n3 n2
  have e2 := new_S (k := 2) (M := met 1 P (lam1 "law") (kF rt (kA1 (kF tupF (kA1 (kc (.int 3)) (kA1 (kc (.int 3)) (kA1 (kc (.int 2)) kA0)))) kA0))) (x := ("unlaid " : Str) ++ tshow 3 3 2) (ρ := [c0, c1, c2, c3, c4]) (st := s1) (met_U T1 (st1 := s1) (ht s1) (oT.mono (by decide)) (repr_tup n3 n3 n2))
  obtain ⟨m, hm⟩ : ∃ m, s1.length = m := ⟨_, rfl⟩
  have q2 : (s1 ++ [.lst (([("unlaid " : Str) ++ tshow 3 3 2] : List Str).map D.str)])[m]? = some (.lst (([("unlaid " : Str) ++ tshow 3 3 2] : List Str).map D.str)) := by rw [← hm, stA0]; rfl
  have T2 : Tb 1 P (lam1 "law") (s1 ++ [.lst (([("unlaid " : Str) ++ tshow 3 3 2] : List Str).map D.str)]) := hk.new _ 1 _ rfl
  rw [hm] at e2
  generalize s1 ++ [.lst (([("unlaid " : Str) ++ tshow 3 3 2] : List Str).map D.str)] = s2 at e2 q2 T2
  have e3 := app_S (k := 2) (M := met 1 P (lam1 "law") (kF rw' (kA1 (kF tupF (kA1 (L3.k2 powD (kc (.int 10)) (kc (.int 30))) (kA1 (L3.k2 powD (kc (.int 10)) (kc (.int 30))) (kA1 (L3.k2 powD (kc (.int 10)) (kc (.int 30))) kA0)))) (kA1 (L3.k2 subD (L3.k2 powD (kc (.int 10)) (kc (.int 30))) (kc (.int 1))) kA0)))) (x := "") (ρ := [c0, c1, some (.loc m), c3, c4]) (st := s2) rfl q2 (by simp) (met_fine T2 (d := v) (st1 := s2) (by
    have p30 : powD (.int 10) (.int 30) s2 = .ok (.int 1000000000000000000000000000000) s2 := pow_ok ⟨by decide, by decide⟩
    have hw := hw s2
    simp only [Int.cast_ofNat_Int, Nat.zero_add, Int.reduceEq, Int.reduceNe, Int.reduceLT, Int.reduceLE, Int.reduceGT, Int.reduceGE, Int.reduceAdd, Int.reduceSub, Int.reduceMul, Int.reduceNeg, Int.reduceMod, Int.reduceDiv, Nat.reduceLeDiff, slZ_tup, eqD_int, neD_int, eqD_bl, neD_bl, ixT0, ixT1, ixT2, ixF0, ixF1, ixF2, lenT, lenZ, addZ_frz, addZ_loc_frz, addL_loc_frz, beq_self_eq_true, runDef_eq, start3, finR, sSeq, sSet, sExpr, sRet, sRetN, sIf, sPar2, sAsg, sSetIx, sNil, RS.andThen_nx, RS.andThen_rt, RS.andThen_exn, R.toS_ok, R.toS_exn, kv, kc, k1, k2, kA0, kA1, kF, kM, kIf, kTr, kTb, tAnd3, tOr3, tNot3, kAndV, kOrV, kNotV, kChain, R.bind_ok, R.bind_exn, gN, gT, gs0, gs1, List.map_cons, List.map_nil, List.length_cons, List.length_nil, List.replicate, List.cons_append, List.nil_append, List.getElem?_cons_zero, List.getElem?_cons_succ, List.set_cons_zero, List.set_cons_succ, Nat.reduceAdd, Nat.reduceSub, if_true, if_false, Bool.false_eq_true, Bool.true_eq_false, reduceIte, Bool.not_true, Bool.not_false, Option.bind_some, decide_true, decide_false, frzF, tupF, listZ, addD, subD, mulD, fdivD, modD, cmpD, ltD, leD, gtD, geD, negD, absF, maxF, minF, intF, truD, strF, p30, hw]))
  have q3 : (s2.set m (.lst (([("unlaid " : Str) ++ tshow 3 3 2] ++ [("" : Str)] : List Str).map D.str)))[m]? = some (.lst (([("unlaid " : Str) ++ tshow 3 3 2] ++ [("" : Str)] : List Str).map D.str)) := List.getElem?_set_self (List.getElem?_eq_some_iff.mp q2).1
  generalize s2.set m (.lst (([("unlaid " : Str) ++ tshow 3 3 2] ++ [("" : Str)] : List Str).map D.str)) = s3 at e3 q3
  have e4 : sRet (L3.k2 eqD (kv 2) (kF frzF (kA1 (kc (.str "unlaid (3, 3, 2)")) (kA1 (kc (.str "")) kA0)))) [c0, c1, some (.loc m), c3, c4] s3 = .rt (.bl true) s3 := by
    have sok : ∀ x ∈ ([("unlaid " : Str) ++ tshow 3 3 2, ("" : Str)] : List Str), PyData.strOk x = true := by decide +kernel
    have sok2 : ∀ x ∈ ([("unlaid (3, 3, 2)" : Str), ("" : Str)] : List Str), PyData.strOk x = true := by decide +kernel
    have cmp := eqD_strs (st := s3) (m := m) [("unlaid (3, 3, 2)" : Str), ("" : Str)] q3 sok sok2
    rw [show decide (([("unlaid " : Str) ++ tshow 3 3 2] ++ [("" : Str)] : List Str) = [("unlaid (3, 3, 2)" : Str), ("" : Str)]) = true from by decide +kernel] at cmp
    simp only [List.map_cons, List.map_nil] at cmp
    simp only [Int.cast_ofNat_Int, Nat.zero_add, Int.reduceEq, Int.reduceNe, Int.reduceLT, Int.reduceLE, Int.reduceGT, Int.reduceGE, Int.reduceAdd, Int.reduceSub, Int.reduceMul, Int.reduceNeg, Int.reduceMod, Int.reduceDiv, Nat.reduceLeDiff, slZ_tup, eqD_int, neD_int, eqD_bl, neD_bl, ixT0, ixT1, ixT2, ixF0, ixF1, ixF2, lenT, lenZ, addZ_frz, addZ_loc_frz, addL_loc_frz, beq_self_eq_true, runDef_eq, start3, finR, sSeq, sSet, sExpr, sRet, sRetN, sIf, sPar2, sAsg, sSetIx, sNil, RS.andThen_nx, RS.andThen_rt, RS.andThen_exn, R.toS_ok, R.toS_exn, kv, kc, k1, k2, kA0, kA1, kF, kM, kIf, kTr, kTb, tAnd3, tOr3, tNot3, kAndV, kOrV, kNotV, kChain, R.bind_ok, R.bind_exn, gN, gT, gs0, gs1, List.map_cons, List.map_nil, List.length_cons, List.length_nil, List.replicate, List.cons_append, List.nil_append, List.getElem?_cons_zero, List.getElem?_cons_succ, List.set_cons_zero, List.set_cons_succ, Nat.reduceAdd, Nat.reduceSub, if_true, if_false, Bool.false_eq_true, Bool.true_eq_false, reduceIte, Bool.not_true, Bool.not_false, Option.bind_some, decide_true, decide_false, frzF, tupF, listZ, addD, subD, mulD, fdivD, modD, cmpD, ltD, leD, gtD, geD, negD, absF, maxF, minF, intF, truD, strF, cmp]
  refine ⟨s3, (runDef_eq rfl).trans ?_⟩
  have all : k17.b_law P rnum rr rt rw' [some (.frz (ns.map D.int)), none, none, none, none] [.tb Pr (lam1 "_law_right"), .tb P (lam1 "law")] = .rt (.bl true) s3 := seq_nx e1 (seq_nx e2 (seq_nx e3 e4))
  show finR (k17.b_law P rnum rr rt rw' [some (.frz (ns.map D.int)), none, none, none, none] [.tb Pr (lam1 "_law_right"), .tb P (lam1 "law")]) = _
  rw [all]
  rfl
end
theorem ownLaid_ok {w h l : Int} (hl : 2 ≤ l) : Ans (runDef 1 1 k17.b_law_is_laid) [sz w h l] (.bl (laidB w h l)) := fun st => by
  have h0 : 0 < l := by omega
  simp only [k17.b_law_is_laid, Int.cast_ofNat_Int, Nat.zero_add, Int.reduceEq, Int.reduceNe, Int.reduceLT, Int.reduceLE, Int.reduceGT, Int.reduceGE, Int.reduceAdd, Int.reduceSub, Int.reduceMul, Int.reduceNeg, Int.reduceMod, Int.reduceDiv, Nat.reduceLeDiff, slZ_tup, eqD_int, neD_int, eqD_bl, neD_bl, ixT0, ixT1, ixT2, ixF0, ixF1, ixF2, lenT, lenZ, addZ_frz, addZ_loc_frz, addL_loc_frz, beq_self_eq_true, runDef_eq, start3, finR, sSeq, sSet, sExpr, sRet, sRetN, sIf, sPar2, sAsg, sSetIx, sNil, RS.andThen_nx, RS.andThen_rt, RS.andThen_exn, R.toS_ok, R.toS_exn, kv, kc, k1, k2, kA0, kA1, kF, kM, kIf, kTr, kTb, tAnd3, tOr3, tNot3, kAndV, kOrV, kNotV, kChain, R.bind_ok, R.bind_exn, gN, gT, gs0, gs1, List.map_cons, List.map_nil, List.length_cons, List.length_nil, List.replicate, List.cons_append, List.nil_append, List.getElem?_cons_zero, List.getElem?_cons_succ, List.set_cons_zero, List.set_cons_succ, Nat.reduceAdd, Nat.reduceSub, if_true, if_false, Bool.false_eq_true, Bool.true_eq_false, reduceIte, Bool.not_true, Bool.not_false, Option.bind_some, decide_true, decide_false, frzF, tupF, listZ, addD, subD, mulD, fdivD, modD, cmpD, ltD, leD, gtD, geD, negD, absF, maxF, minF, intF, truD, strF, h0, laidB]
  by_cases h1 : w % l = 0
  · simp only [h1, Int.cast_ofNat_Int, Nat.zero_add, Int.reduceEq, Int.reduceNe, Int.reduceLT, Int.reduceLE, Int.reduceGT, Int.reduceGE, Int.reduceAdd, Int.reduceSub, Int.reduceMul, Int.reduceNeg, Int.reduceMod, Int.reduceDiv, Nat.reduceLeDiff, slZ_tup, eqD_int, neD_int, eqD_bl, neD_bl, ixT0, ixT1, ixT2, ixF0, ixF1, ixF2, lenT, lenZ, addZ_frz, addZ_loc_frz, addL_loc_frz, beq_self_eq_true, runDef_eq, start3, finR, sSeq, sSet, sExpr, sRet, sRetN, sIf, sPar2, sAsg, sSetIx, sNil, RS.andThen_nx, RS.andThen_rt, RS.andThen_exn, R.toS_ok, R.toS_exn, kv, kc, k1, k2, kA0, kA1, kF, kM, kIf, kTr, kTb, tAnd3, tOr3, tNot3, kAndV, kOrV, kNotV, kChain, R.bind_ok, R.bind_exn, gN, gT, gs0, gs1, List.map_cons, List.map_nil, List.length_cons, List.length_nil, List.replicate, List.cons_append, List.nil_append, List.getElem?_cons_zero, List.getElem?_cons_succ, List.set_cons_zero, List.set_cons_succ, Nat.reduceAdd, Nat.reduceSub, if_true, if_false, Bool.false_eq_true, Bool.true_eq_false, reduceIte, Bool.not_true, Bool.not_false, Option.bind_some, decide_true, decide_false, Bool.true_or]
  · simp only [h1, Int.cast_ofNat_Int, Nat.zero_add, Int.reduceEq, Int.reduceNe, Int.reduceLT, Int.reduceLE, Int.reduceGT, Int.reduceGE, Int.reduceAdd, Int.reduceSub, Int.reduceMul, Int.reduceNeg, Int.reduceMod, Int.reduceDiv, Nat.reduceLeDiff, slZ_tup, eqD_int, neD_int, eqD_bl, neD_bl, ixT0, ixT1, ixT2, ixF0, ixF1, ixF2, lenT, lenZ, addZ_frz, addZ_loc_frz, addL_loc_frz, beq_self_eq_true, runDef_eq, start3, finR, sSeq, sSet, sExpr, sRet, sRetN, sIf, sPar2, sAsg, sSetIx, sNil, RS.andThen_nx, RS.andThen_rt, RS.andThen_exn, R.toS_ok, R.toS_exn, kv, kc, k1, k2, kA0, kA1, kF, kM, kIf, kTr, kTb, tAnd3, tOr3, tNot3, kAndV, kOrV, kNotV, kChain, R.bind_ok, R.bind_exn, gN, gT, gs0, gs1, List.map_cons, List.map_nil, List.length_cons, List.length_nil, List.replicate, List.cons_append, List.nil_append, List.getElem?_cons_zero, List.getElem?_cons_succ, List.set_cons_zero, List.set_cons_succ, Nat.reduceAdd, Nat.reduceSub, if_true, if_false, Bool.false_eq_true, Bool.true_eq_false, reduceIte, Bool.not_true, Bool.not_false, Option.bind_some, decide_true, decide_false, Bool.false_or]
section
variable {A1 A2 A3 A4 A5 P1 P2 : Addr}
abbrev cT (A1 A2 A3 A4 A5 P1 P2 : Addr) : Nat → Nat → L3.Run := k17.callT A1 A2 A3 A4 A5 P1 P2
theorem main_run (ns : List Int) (hns : ns.length ≤ 63) : ∃ st', k17.callT A1 A2 A3 A4 A5 P1 P2 12 28 [.frz (ns.map D.int)] [.tb P1 (lam1 "_law_right"), .tb P2 (lam1 "law")] = .ok (.bl true) st' := by
  have take : ∀ n, CastS (cT A1 A2 A3 A4 A5 P1 P2 (n + 1) 21) := fun n => Hu.take_ok
  have one : ∀ n, PickS (cT A1 A2 A3 A4 A5 P1 P2 (n + 2) 22) := fun n => Hu.one_ok (take n)
  have whole : ∀ n, LookP (cT A1 A2 A3 A4 A5 P1 P2 (n + 1) 0) wholeB := fun n => Pg.whole_ok
  have size : ∀ n {w h l : Int}, Sz w h l → Ans (cT A1 A2 A3 A4 A5 P1 P2 (n + 2) 4) [sz w h l] (.bl true) := fun n _ _ _ z => Pg.size_ok (whole n) z
  have nosz : ∀ n, ∀ d ∈ NS, Ans (cT A1 A2 A3 A4 A5 P1 P2 (n + 2) 4) [d] (.bl false) := fun n d hd => ns_bad d hd
  have hold : ∀ n {w h l : Int}, Sz w h l → Ans (cT A1 A2 A3 A4 A5 P1 P2 (n + 1) 3) [sz w h l] (.bl (laidB w h l)) := fun n _ _ _ z => Pg.hold_ok z
  have laid : ∀ n {w h l : Int}, Sz w h l → Ans (cT A1 A2 A3 A4 A5 P1 P2 (n + 3) 7) [sz w h l] (.bl (laidB w h l)) := fun n _ _ _ z => laid_ok (size n z) (hold (n + 1) z)
  have laidX : ∀ n, ∀ d ∈ NS, Thr (cT A1 A2 A3 A4 A5 P1 P2 (n + 3) 7) [d] xS := fun n d hd => bad_laid (nosz n d hd)
  have nar : ∀ n {w h l : Int}, Ans (cT A1 A2 A3 A4 A5 P1 P2 (n + 2) 11) [sz w h l] (.bl (narrowB w h l)) := fun n _ _ _ => Pg.narrow_ok (ro := cT A1 A2 A3 A4 A5 P1 P2 (n + 1) 10) Pg.one_ok
  have bond : ∀ n {w h l : Int}, Sz w h l → Ans (cT A1 A2 A3 A4 A5 P1 P2 (n + 4) 12) [sz w h l] (.bl (bondB w h l)) := fun n _ _ _ z => Pg.bond_ok (laid n z) (nar (n + 1))
  have bondX : ∀ n, ∀ d ∈ NS, Thr (cT A1 A2 A3 A4 A5 P1 P2 (n + 4) 12) [d] xS := fun n d hd => bad_bond (laidX n d hd)
  have cpI : ∀ n (i : Int), Ans (cT A1 A2 A3 A4 A5 P1 P2 (n + 1) 2) [.int i] (.int i) := fun n i st => rfl
  have cpU : ∀ n, ∀ u ∈ NU, Ans (cT A1 A2 A3 A4 A5 P1 P2 (n + 2) 2) [u] u := fun n u hu => nu_copied (cpI n) u hu
  have cpS : ∀ n {w h l : Int}, Ans (cT A1 A2 A3 A4 A5 P1 P2 (n + 2) 2) [sz w h l] (sz w h l) := fun n _ _ _ => sz_copied (cpI n)
  have wtX : ∀ n, ∀ d ∈ NS, ∀ e, Thr (cT A1 A2 A3 A4 A5 P1 P2 (n + 3) 9) [d, e] xS := fun n d hd e => bad_weight (nosz n d hd)
  have wtU : ∀ n {w h l : Int}, Sz w h l → ∀ u ∈ NU, Thr (cT A1 A2 A3 A4 A5 P1 P2 (n + 4) 9) [sz w h l, u] (xN u) := fun n w h l z u hu => num_weight (rp := cT A1 A2 A3 A4 A5 P1 P2 (n + 3) 8) (size (n + 1) z) (nu_index z u hu) (cpU n u hu)
  have wtL : ∀ n {w h l : Int}, Sz w h l → Thr (cT A1 A2 A3 A4 A5 P1 P2 (n + 4) 9) [sz w h l, .int l] (xN (.int l)) := fun n w h l z => num_weight (rp := cT A1 A2 A3 A4 A5 P1 P2 (n + 3) 8) (size (n + 1) z) (fun st => by
    have e := Pg.index_ok (whole (n + 1)) (i := l) (l := l) st
    rw [show (decide (0 ≤ l) && decide (l < l)) = false from by simp] at e
    exact e) (cpI (n + 1) l)
  have wt : ∀ n {w h l k : Int}, Sz w h l → 0 ≤ k → k < l → Ans (cT A1 A2 A3 A4 A5 P1 P2 (n + 3) 9) [sz w h l, .int k] (.int (weightI w h l k)) := fun n _ _ _ _ z k0 k1 => weight_ok (rc := cT A1 A2 A3 A4 A5 P1 P2 (n + 2) 5) z k0 k1 (size n z) (Pg.index_ok (whole n)) fun t => Pg.pairs_ok
  have need : ∀ n {w h l : Int}, Sz w h l → laidB w h l = true → Ans (cT A1 A2 A3 A4 A5 P1 P2 (n + 4) 14) [sz w h l] (.int (needT w h l)) := fun n _ _ _ z hl => need_ok (rc := cT A1 A2 A3 A4 A5 P1 P2 (n + 3) 6) z (by have e := laid n z; rw [hl] at e; exact e) (Pg.needAl_ok z.w1 z.w2 z.l1 z.l2) (Pg.needAl_ok z.h1 z.h2 z.l1 z.l2)
  have cross : ∀ n {w h l : Int}, Sz w h l → laidB w h l = true → Ans (cT A1 A2 A3 A4 A5 P1 P2 (n + 4) 15) [sz w h l] (.int (crossT w h l)) := fun n _ _ _ z hl => cross_ok (rc := cT A1 A2 A3 A4 A5 P1 P2 (n + 3) 6) z (by have e := laid n z; rw [hl] at e; exact e)
  have needX : ∀ n, ∀ d ∈ NS, Thr (cT A1 A2 A3 A4 A5 P1 P2 (n + 4) 14) [d] xS := fun n d hd => bad_need (laidX n d hd)
  have crossX : ∀ n, ∀ d ∈ NS, Thr (cT A1 A2 A3 A4 A5 P1 P2 (n + 4) 15) [d] xS := fun n d hd => bad_cross (laidX n d hd)
  have needU : ∀ n {w h l : Int}, Sz w h l → laidB w h l = false → Thr (cT A1 A2 A3 A4 A5 P1 P2 (n + 4) 14) [sz w h l] (xU (sz w h l)) := fun n _ _ _ z hl => unl_need (rn := cT A1 A2 A3 A4 A5 P1 P2 (n + 3) 13) (by have e := laid n z; rw [hl] at e; exact e) (cpS n)
  have crossU : ∀ n {w h l : Int}, Sz w h l → laidB w h l = false → Thr (cT A1 A2 A3 A4 A5 P1 P2 (n + 4) 15) [sz w h l] (xU (sz w h l)) := fun n _ _ _ z hl => unl_cross (by have e := laid n z; rw [hl] at e; exact e) (cpS n)
  have reaX : ∀ n, ∀ d ∈ NS, Thr (cT A1 A2 A3 A4 A5 P1 P2 (n + 5) 17) [d] xS := fun n d hd => bad_reason (bondX n d hd)
  have rea : ∀ n {w h l : Int}, Sz w h l → ∃ v, Ans (cT A1 A2 A3 A4 A5 P1 P2 (n + 5) 17) [sz w h l] v := fun n _ _ _ z => reason_some z (bond n z) (nar (n + 2)) (hold (n + 3) z)
  have isRX : ∀ n, ∀ d ∈ NS, ∀ e, Thr (cT A1 A2 A3 A4 A5 P1 P2 (n + 3) 19) [d, e] xS := fun n d hd e => bad_isR (nosz n d hd)
  have isR : ∀ n {w h l : Int}, Sz w h l → ∀ d ∈ NS, ∃ v, Ans (cT A1 A2 A3 A4 A5 P1 P2 (n + 3) 19) [sz w h l, d] v := fun n _ _ _ z d hd => ⟨_, isR_no (size n z) d hd⟩
  refine law_ok (rnum := cT A1 A2 A3 A4 A5 P1 P2 11 20) (rr := cT A1 A2 A3 A4 A5 P1 P2 11 27) (rt := cT A1 A2 A3 A4 A5 P1 P2 11 14) (rw' := cT A1 A2 A3 A4 A5 P1 P2 11 9) Hu.urn_ok (fun st n hd hn hk => ?_) (needU 7 ⟨by decide, by decide, by decide, by decide, by decide, by decide⟩ (by decide)) (wt 8 ⟨by decide, by decide, by decide, by decide, by decide, by decide⟩ (by decide) (by decide)) ns hns
  exact right_ok (ro := cT A1 A2 A3 A4 A5 P1 P2 10 22) (rn := cT A1 A2 A3 A4 A5 P1 P2 10 26) (rl := cT A1 A2 A3 A4 A5 P1 P2 10 7) (rb := cT A1 A2 A3 A4 A5 P1 P2 10 12) (rr := cT A1 A2 A3 A4 A5 P1 P2 10 17) (rt := cT A1 A2 A3 A4 A5 P1 P2 10 14) (rc := cT A1 A2 A3 A4 A5 P1 P2 10 15) (ri := cT A1 A2 A3 A4 A5 P1 P2 10 19) (rw' := cT A1 A2 A3 A4 A5 P1 P2 10 9) (rg := cT A1 A2 A3 A4 A5 P1 P2 10 25) (rs := cT A1 A2 A3 A4 A5 P1 P2 10 24) (rd := cT A1 A2 A3 A4 A5 P1 P2 10 23)
    (one 8) (fun hd => noSize_ok (one 7) hd)
    (fun hd => by
      obtain ⟨w, h, l, s, e, t, m⟩ := Hu.small_ok (one 7) (take 8) (m := 400) (by decide) (by decide) hd
      exact ⟨w, h, l, s, e, t, Sm.sz m⟩)
    (fun hd => by
      obtain ⟨w, h, l, s, e, t, z, _⟩ := Hu.great_ok (one 7) hd
      exact ⟨w, h, l, s, e, t, z⟩)
    (laidX 7) (bondX 6) (reaX 5) (needX 6) (crossX 6) (isRX 7) (wtX 7) (wtU 6) (wtL 6) (fun z hl => ⟨_, need 6 z hl⟩) (fun z hl => ⟨_, cross 6 z hl⟩) (needU 6) (crossU 6) (isR 7) (rea 5) (fun z => K17.ownLaid_ok z.l1) hd (by have : 2 ≤ n := hn; omega) (hk 0 _ rfl)
end
end K17

theorem k17.main_run : ∀ A_total_crossings A_total_need A_reason A_has_bond A_can_be_laid P_law_right P_law : PySem.Addr, ∀ ns : List Int, ns.length ≤ 63 → ∃ st', k17.callT A_total_crossings A_total_need A_reason A_has_bond A_can_be_laid P_law_right P_law 12 28 [.frz (ns.map L3.D.int)] [.tb P_law_right (("_law_right" : PySem.Str) ++ ".<locals>." ++ "<lambda>"), .tb P_law (("law" : PySem.Str) ++ ".<locals>." ++ "<lambda>")] = .ok (.bl true) st' := fun _ _ _ _ _ _ _ ns hns => K17.main_run ns hns

set_option maxHeartbeats 4000000
namespace k17
open PySem PySem.Spec PyProof.Rows L2 L3
def top (i : Nat) : Stmt := PySem.Challenge.pw_bondfloors_k17_errors_of_sizes.main.body.getD i (.Pass ⟨0, 0, 0, 0⟩)
def inCls (s : Stmt) (j : Nat) : Stmt := match s with
  | .ClassDef _ _ _ b _ _ _ _ _ _ _ => b.getD j (.Pass ⟨0, 0, 0, 0⟩)
  | _ => .Pass ⟨0, 0, 0, 0⟩
abbrev s_is_whole : Stmt := top 1
abbrev N_is_whole : List Str := ["value"]
theorem sc_is_whole : FnScope N_is_whole ["value"] (defScope s_is_whole) := ⟨rfl, rfl, rfl, by decide +kernel, rfl, by decide +kernel, by decide +kernel⟩
abbrev s_is_index : Stmt := top 2
abbrev N_is_index : List Str := ["value", "many"]
theorem sc_is_index : FnScope N_is_index ["value", "many"] (defScope s_is_index) := ⟨rfl, rfl, rfl, by decide +kernel, rfl, by decide +kernel, by decide +kernel⟩
abbrev s_copied : Stmt := top 3
abbrev N_copied : List Str := ["value", "item", "key"]
theorem sc_copied : FnScope N_copied ["value"] (defScope s_copied) := ⟨rfl, rfl, rfl, by decide +kernel, rfl, by decide +kernel, by decide +kernel⟩
abbrev s_can_hold_floor : Stmt := top 5
abbrev N_can_hold_floor : List Str := ["size", "width", "height", "length"]
theorem sc_can_hold_floor : FnScope N_can_hold_floor ["size"] (defScope s_can_hold_floor) := ⟨rfl, rfl, rfl, by decide +kernel, rfl, by decide +kernel, by decide +kernel⟩
abbrev s_is_size : Stmt := top 8
abbrev N_is_size : List Str := ["value", "width", "height", "length", "item"]
theorem sc_is_size : FnScope N_is_size ["value"] (defScope s_is_size) := ⟨rfl, rfl, rfl, by decide +kernel, rfl, by decide +kernel, by decide +kernel⟩
abbrev s_InvalidNumber___init__ : Stmt := inCls (top 15) 0
abbrev N_InvalidNumber___init__ : List Str := ["self", "value"]
theorem sc_InvalidNumber___init__ : FnScope N_InvalidNumber___init__ ["self", "value"] (defScope s_InvalidNumber___init__) := ⟨rfl, rfl, rfl, by decide +kernel, rfl, by decide +kernel, by decide +kernel⟩
abbrev s_Unlaid___init__ : Stmt := inCls (top 16) 0
abbrev N_Unlaid___init__ : List Str := ["self", "value"]
theorem sc_Unlaid___init__ : FnScope N_Unlaid___init__ ["self", "value"] (defScope s_Unlaid___init__) := ⟨rfl, rfl, rfl, by decide +kernel, rfl, by decide +kernel, by decide +kernel⟩
abbrev s_can_be_laid : Stmt := top 20
abbrev N_can_be_laid : List Str := ["size"]
theorem sc_can_be_laid : FnScope N_can_be_laid ["size"] (defScope s_can_be_laid) := ⟨rfl, rfl, rfl, by decide +kernel, rfl, by decide +kernel, by decide +kernel⟩
abbrev s_pairs_with_sum : Stmt := top 21
abbrev N_pairs_with_sum : List Str := ["width", "height", "total"]
theorem sc_pairs_with_sum : FnScope N_pairs_with_sum ["width", "height", "total"] (defScope s_pairs_with_sum) := ⟨rfl, rfl, rfl, by decide +kernel, rfl, by decide +kernel, by decide +kernel⟩
abbrev s_weight : Stmt := top 22
abbrev N_weight : List Str := ["size", "number", "width", "height", "length", "broad", "high", "even"]
theorem sc_weight : FnScope N_weight ["size", "number"] (defScope s_weight) := ⟨rfl, rfl, rfl, by decide +kernel, rfl, by decide +kernel, by decide +kernel⟩
abbrev s_is_one_bar : Stmt := top 23
abbrev N_is_one_bar : List Str := ["size", "width", "height", "length"]
theorem sc_is_one_bar : FnScope N_is_one_bar ["size"] (defScope s_is_one_bar) := ⟨rfl, rfl, rfl, by decide +kernel, rfl, by decide +kernel, by decide +kernel⟩
abbrev s_is_narrow : Stmt := top 24
abbrev N_is_narrow : List Str := ["size", "width", "height", "length"]
theorem sc_is_narrow : FnScope N_is_narrow ["size"] (defScope s_is_narrow) := ⟨rfl, rfl, rfl, by decide +kernel, rfl, by decide +kernel, by decide +kernel⟩
abbrev s_has_bond : Stmt := top 25
abbrev N_has_bond : List Str := ["size"]
theorem sc_has_bond : FnScope N_has_bond ["size"] (defScope s_has_bond) := ⟨rfl, rfl, rfl, by decide +kernel, rfl, by decide +kernel, by decide +kernel⟩
abbrev s_need_along : Stmt := top 26
abbrev N_need_along : List Str := ["side", "other", "length", "many", "even"]
theorem sc_need_along : FnScope N_need_along ["side", "other", "length"] (defScope s_need_along) := ⟨rfl, rfl, rfl, by decide +kernel, rfl, by decide +kernel, by decide +kernel⟩
abbrev s_total_need : Stmt := top 27
abbrev N_total_need : List Str := ["size", "width", "height", "length"]
theorem sc_total_need : FnScope N_total_need ["size"] (defScope s_total_need) := ⟨rfl, rfl, rfl, by decide +kernel, rfl, by decide +kernel, by decide +kernel⟩
abbrev s_total_crossings : Stmt := top 28
abbrev N_total_crossings : List Str := ["size", "width", "height", "length"]
theorem sc_total_crossings : FnScope N_total_crossings ["size"] (defScope s_total_crossings) := ⟨rfl, rfl, rfl, by decide +kernel, rfl, by decide +kernel, by decide +kernel⟩
abbrev s_is_few : Stmt := top 29
abbrev N_is_few : List Str := ["size"]
theorem sc_is_few : FnScope N_is_few ["size"] (defScope s_is_few) := ⟨rfl, rfl, rfl, by decide +kernel, rfl, by decide +kernel, by decide +kernel⟩
abbrev s_reason : Stmt := top 30
abbrev N_reason : List Str := ["size", "width", "height", "length", "greater"]
theorem sc_reason : FnScope N_reason ["size"] (defScope s_reason) := ⟨rfl, rfl, rfl, by decide +kernel, rfl, by decide +kernel, by decide +kernel⟩
abbrev s_weights_differ : Stmt := top 31
abbrev N_weights_differ : List Str := ["size", "one", "other", "length"]
theorem sc_weights_differ : FnScope N_weights_differ ["size", "one", "other"] (defScope s_weights_differ) := ⟨rfl, rfl, rfl, by decide +kernel, rfl, by decide +kernel, by decide +kernel⟩
abbrev s_is_reason : Stmt := top 32
abbrev N_is_reason : List Str := ["size", "value"]
theorem sc_is_reason : FnScope N_is_reason ["size", "value"] (defScope s_is_reason) := ⟨rfl, rfl, rfl, by decide +kernel, rfl, by decide +kernel, by decide +kernel⟩
abbrev s_law_urn : Stmt := top 34
abbrev N_law_urn : List Str := ["script", "at", "cell", "great", "seed"]
theorem sc_law_urn : FnScope N_law_urn ["script", "at"] (defScope s_law_urn) := ⟨rfl, rfl, rfl, by decide +kernel, rfl, by decide +kernel, by decide +kernel⟩
abbrev s_law_take : Stmt := top 35
abbrev N_law_take : List Str := ["urn", "total", "one", "two", "three", "found"]
theorem sc_law_take : FnScope N_law_take ["urn", "total"] (defScope s_law_take) := ⟨rfl, rfl, rfl, by decide +kernel, rfl, by decide +kernel, by decide +kernel⟩
abbrev s_law_one : Stmt := top 36
abbrev N_law_one : List Str := ["urn", "items"]
theorem sc_law_one : FnScope N_law_one ["urn", "items"] (defScope s_law_one) := ⟨rfl, rfl, rfl, by decide +kernel, rfl, by decide +kernel, by decide +kernel⟩
abbrev s_law_is_laid : Stmt := top 38
abbrev N_law_is_laid : List Str := ["size"]
theorem sc_law_is_laid : FnScope N_law_is_laid ["size"] (defScope s_law_is_laid) := ⟨rfl, rfl, rfl, by decide +kernel, rfl, by decide +kernel, by decide +kernel⟩
abbrev s_law_small : Stmt := top 44
abbrev N_law_small : List Str := ["urn", "cells", "length", "width", "height"]
theorem sc_law_small : FnScope N_law_small ["urn", "cells"] (defScope s_law_small) := ⟨rfl, rfl, rfl, by decide +kernel, rfl, by decide +kernel, by decide +kernel⟩
abbrev s_law_great : Stmt := top 45
abbrev N_law_great : List Str := ["urn", "length", "most", "sides", "turn", "times", "more"]
theorem sc_law_great : FnScope N_law_great ["urn"] (defScope s_law_great) := ⟨rfl, rfl, rfl, by decide +kernel, rfl, by decide +kernel, by decide +kernel⟩
abbrev s_law_no_size : Stmt := top 47
abbrev N_law_no_size : List Str := ["urn", "some"]
theorem sc_law_no_size : FnScope N_law_no_size ["urn"] (defScope s_law_no_size) := ⟨rfl, rfl, rfl, by decide +kernel, rfl, by decide +kernel, by decide +kernel⟩
abbrev s_law_right : Stmt := top 48
abbrev N_law_right : List Str := ["urn", "none", "number", "call", "told", "size", "word"]
theorem sc_law_right : FnScope N_law_right ["urn"] (defScope s_law_right) := ⟨rfl, rfl, rfl, by decide +kernel, rfl, by decide +kernel, by decide +kernel⟩
abbrev s_law : Stmt := top 49
abbrev N_law : List Str := ["script", "at", "told", "urn", "turn"]
theorem sc_law : FnScope N_law ["script"] (defScope s_law) := ⟨rfl, rfl, rfl, by decide +kernel, rfl, by decide +kernel, by decide +kernel⟩
abbrev s_law_met : Stmt := top 46
abbrev N_law_met : List Str := ["call", "e"]
theorem sc_law_met : FnScope N_law_met ["call"] (defScope s_law_met) := ⟨rfl, rfl, rfl, by decide +kernel, rfl, by decide +kernel, by decide +kernel⟩
structure Tx (K : PySem.W.Frag) (mg : Str → Option Value) where
  C_InvalidSize : Addr
  g_InvalidSize : mg "InvalidSize" = some (.ref C_InvalidSize)
  C_InvalidLine : Addr
  g_InvalidLine : mg "InvalidLine" = some (.ref C_InvalidLine)
  C_InvalidPlan : Addr
  g_InvalidPlan : mg "InvalidPlan" = some (.ref C_InvalidPlan)
  C_InvalidOperation : Addr
  g_InvalidOperation : mg "InvalidOperation" = some (.ref C_InvalidOperation)
  C_InvalidNumber : Addr
  g_InvalidNumber : mg "InvalidNumber" = some (.ref C_InvalidNumber)
  C_Unlaid : Addr
  g_Unlaid : mg "Unlaid" = some (.ref C_Unlaid)
  C_TooMany : Addr
  g_TooMany : mg "TooMany" = some (.ref C_TooMany)
  xq_InvalidSize : PySem.W.excIn K C_InvalidSize [.type "ValueError", .type "Exception", .type "BaseException", .type "object"] "ValueError.__new__" = true
  kc_InvalidSize : PySem.W.keepIn K (.ref C_InvalidSize) = true
  se_InvalidSize : PySem.W.subIn K (.ref C_InvalidSize) (.type "BaseException") = some true
  ty_InvalidSize : PySem.W.typeIn K (.ref C_InvalidSize) = some (.type "type")
  hn_InvalidNumber_value : PySem.W.findIn K (.ref C_InvalidNumber) "value" = some none
  hn_TooMany_limit : PySem.W.findIn K (.ref C_TooMany) "limit" = some none
  hn_Unlaid_value : PySem.W.findIn K (.ref C_Unlaid) "value" = some none
  xf_InvalidNumber : XfC K C_InvalidNumber
  xf_TooMany : XfC K C_TooMany
  xf_Unlaid : XfC K C_Unlaid
  ex_InvalidSize_InvalidSize : PySem.W.exmOne K (.ref C_InvalidSize) (.ref C_InvalidSize) = some true
  ex_InvalidNumber_InvalidSize : PySem.W.exmOne K (.ref C_InvalidNumber) (.ref C_InvalidSize) = some false
  ex_Unlaid_InvalidSize : PySem.W.exmOne K (.ref C_Unlaid) (.ref C_InvalidSize) = some false
  ex_InvalidSize_InvalidLine : PySem.W.exmOne K (.ref C_InvalidSize) (.ref C_InvalidLine) = some false
  ex_InvalidNumber_InvalidLine : PySem.W.exmOne K (.ref C_InvalidNumber) (.ref C_InvalidLine) = some false
  ex_Unlaid_InvalidLine : PySem.W.exmOne K (.ref C_Unlaid) (.ref C_InvalidLine) = some false
  ex_InvalidSize_InvalidPlan : PySem.W.exmOne K (.ref C_InvalidSize) (.ref C_InvalidPlan) = some false
  ex_InvalidNumber_InvalidPlan : PySem.W.exmOne K (.ref C_InvalidNumber) (.ref C_InvalidPlan) = some false
  ex_Unlaid_InvalidPlan : PySem.W.exmOne K (.ref C_Unlaid) (.ref C_InvalidPlan) = some false
  ex_InvalidSize_InvalidOperation : PySem.W.exmOne K (.ref C_InvalidSize) (.ref C_InvalidOperation) = some false
  ex_InvalidNumber_InvalidOperation : PySem.W.exmOne K (.ref C_InvalidNumber) (.ref C_InvalidOperation) = some false
  ex_Unlaid_InvalidOperation : PySem.W.exmOne K (.ref C_Unlaid) (.ref C_InvalidOperation) = some false
  ex_InvalidSize_InvalidNumber : PySem.W.exmOne K (.ref C_InvalidSize) (.ref C_InvalidNumber) = some false
  ex_InvalidNumber_InvalidNumber : PySem.W.exmOne K (.ref C_InvalidNumber) (.ref C_InvalidNumber) = some true
  ex_Unlaid_InvalidNumber : PySem.W.exmOne K (.ref C_Unlaid) (.ref C_InvalidNumber) = some false
  ex_InvalidSize_Unlaid : PySem.W.exmOne K (.ref C_InvalidSize) (.ref C_Unlaid) = some false
  ex_InvalidNumber_Unlaid : PySem.W.exmOne K (.ref C_InvalidNumber) (.ref C_Unlaid) = some false
  ex_Unlaid_Unlaid : PySem.W.exmOne K (.ref C_Unlaid) (.ref C_Unlaid) = some true
  ex_InvalidSize_TooMany : PySem.W.exmOne K (.ref C_InvalidSize) (.ref C_TooMany) = some false
  ex_InvalidNumber_TooMany : PySem.W.exmOne K (.ref C_InvalidNumber) (.ref C_TooMany) = some false
  ex_Unlaid_TooMany : PySem.W.exmOne K (.ref C_Unlaid) (.ref C_TooMany) = some false
  a_is_whole : Addr
  d_is_whole : FuncData
  F_is_whole : Fun K "is_whole" "is_whole" s_is_whole a_is_whole d_is_whole
  b_is_whole : Binds K d_is_whole ["value"] []
  g_is_whole : mg "is_whole" = some (.ref a_is_whole)
  a_is_index : Addr
  d_is_index : FuncData
  F_is_index : Fun K "is_index" "is_index" s_is_index a_is_index d_is_index
  b_is_index : Binds K d_is_index ["value", "many"] []
  g_is_index : mg "is_index" = some (.ref a_is_index)
  a_copied : Addr
  d_copied : FuncData
  F_copied : Fun K "copied" "copied" s_copied a_copied d_copied
  b_copied : Binds K d_copied ["value"] []
  g_copied : mg "copied" = some (.ref a_copied)
  a_can_hold_floor : Addr
  d_can_hold_floor : FuncData
  F_can_hold_floor : Fun K "can_hold_floor" "can_hold_floor" s_can_hold_floor a_can_hold_floor d_can_hold_floor
  b_can_hold_floor : Binds K d_can_hold_floor ["size"] []
  g_can_hold_floor : mg "can_hold_floor" = some (.ref a_can_hold_floor)
  a_is_size : Addr
  d_is_size : FuncData
  F_is_size : Fun K "is_size" "is_size" s_is_size a_is_size d_is_size
  b_is_size : Binds K d_is_size ["value"] []
  g_is_size : mg "is_size" = some (.ref a_is_size)
  a_InvalidNumber___init__ : Addr
  d_InvalidNumber___init__ : FuncData
  F_InvalidNumber___init__ : Fun K "__init__" "InvalidNumber.__init__" s_InvalidNumber___init__ a_InvalidNumber___init__ d_InvalidNumber___init__
  b_InvalidNumber___init__ : Binds K d_InvalidNumber___init__ ["self", "value"] []
  og_InvalidNumber : OexG K C_InvalidNumber "IndexError" "IndexError.__new__" "IndexError.__init__" [.type "IndexError", .type "LookupError", .type "Exception", .type "BaseException", .type "object"]
  ic_InvalidNumber : PySem.W.findIn K (.ref C_InvalidNumber) "__init__" = some (some (.ref a_InvalidNumber___init__))
  ti_InvalidNumber : PySem.W.typeIn K (.ref a_InvalidNumber___init__) = some (.type "function")
  tk_InvalidNumber : PySem.W.takerIn K C_InvalidNumber "value" = some none
  a_Unlaid___init__ : Addr
  d_Unlaid___init__ : FuncData
  F_Unlaid___init__ : Fun K "__init__" "Unlaid.__init__" s_Unlaid___init__ a_Unlaid___init__ d_Unlaid___init__
  b_Unlaid___init__ : Binds K d_Unlaid___init__ ["self", "value"] []
  og_Unlaid : OexG K C_Unlaid "LookupError" "LookupError.__new__" "LookupError.__init__" [.type "LookupError", .type "Exception", .type "BaseException", .type "object"]
  ic_Unlaid : PySem.W.findIn K (.ref C_Unlaid) "__init__" = some (some (.ref a_Unlaid___init__))
  ti_Unlaid : PySem.W.typeIn K (.ref a_Unlaid___init__) = some (.type "function")
  tk_Unlaid : PySem.W.takerIn K C_Unlaid "value" = some none
  a_can_be_laid : Addr
  d_can_be_laid : FuncData
  F_can_be_laid : Fun K "can_be_laid" "can_be_laid" s_can_be_laid a_can_be_laid d_can_be_laid
  b_can_be_laid : Binds K d_can_be_laid ["size"] []
  g_can_be_laid : mg "can_be_laid" = some (.ref a_can_be_laid)
  a_pairs_with_sum : Addr
  d_pairs_with_sum : FuncData
  F_pairs_with_sum : Fun K "pairs_with_sum" "pairs_with_sum" s_pairs_with_sum a_pairs_with_sum d_pairs_with_sum
  b_pairs_with_sum : Binds K d_pairs_with_sum ["width", "height", "total"] []
  g_pairs_with_sum : mg "pairs_with_sum" = some (.ref a_pairs_with_sum)
  a_weight : Addr
  d_weight : FuncData
  F_weight : Fun K "weight" "weight" s_weight a_weight d_weight
  b_weight : Binds K d_weight ["size", "number"] []
  g_weight : mg "weight" = some (.ref a_weight)
  a_is_one_bar : Addr
  d_is_one_bar : FuncData
  F_is_one_bar : Fun K "is_one_bar" "is_one_bar" s_is_one_bar a_is_one_bar d_is_one_bar
  b_is_one_bar : Binds K d_is_one_bar ["size"] []
  g_is_one_bar : mg "is_one_bar" = some (.ref a_is_one_bar)
  a_is_narrow : Addr
  d_is_narrow : FuncData
  F_is_narrow : Fun K "is_narrow" "is_narrow" s_is_narrow a_is_narrow d_is_narrow
  b_is_narrow : Binds K d_is_narrow ["size"] []
  g_is_narrow : mg "is_narrow" = some (.ref a_is_narrow)
  a_has_bond : Addr
  d_has_bond : FuncData
  F_has_bond : Fun K "has_bond" "has_bond" s_has_bond a_has_bond d_has_bond
  b_has_bond : Binds K d_has_bond ["size"] []
  g_has_bond : mg "has_bond" = some (.ref a_has_bond)
  a_need_along : Addr
  d_need_along : FuncData
  F_need_along : Fun K "need_along" "need_along" s_need_along a_need_along d_need_along
  b_need_along : Binds K d_need_along ["side", "other", "length"] []
  g_need_along : mg "need_along" = some (.ref a_need_along)
  a_total_need : Addr
  d_total_need : FuncData
  F_total_need : Fun K "total_need" "total_need" s_total_need a_total_need d_total_need
  b_total_need : Binds K d_total_need ["size"] []
  g_total_need : mg "total_need" = some (.ref a_total_need)
  a_total_crossings : Addr
  d_total_crossings : FuncData
  F_total_crossings : Fun K "total_crossings" "total_crossings" s_total_crossings a_total_crossings d_total_crossings
  b_total_crossings : Binds K d_total_crossings ["size"] []
  g_total_crossings : mg "total_crossings" = some (.ref a_total_crossings)
  a_is_few : Addr
  d_is_few : FuncData
  F_is_few : Fun K "is_few" "is_few" s_is_few a_is_few d_is_few
  b_is_few : Binds K d_is_few ["size"] []
  g_is_few : mg "is_few" = some (.ref a_is_few)
  a_reason : Addr
  d_reason : FuncData
  F_reason : Fun K "reason" "reason" s_reason a_reason d_reason
  b_reason : Binds K d_reason ["size"] []
  g_reason : mg "reason" = some (.ref a_reason)
  a_weights_differ : Addr
  d_weights_differ : FuncData
  F_weights_differ : Fun K "weights_differ" "weights_differ" s_weights_differ a_weights_differ d_weights_differ
  b_weights_differ : Binds K d_weights_differ ["size", "one", "other"] []
  g_weights_differ : mg "weights_differ" = some (.ref a_weights_differ)
  a_is_reason : Addr
  d_is_reason : FuncData
  F_is_reason : Fun K "is_reason" "is_reason" s_is_reason a_is_reason d_is_reason
  b_is_reason : Binds K d_is_reason ["size", "value"] []
  g_is_reason : mg "is_reason" = some (.ref a_is_reason)
  a_law_urn : Addr
  d_law_urn : FuncData
  F_law_urn : Fun K "_law_urn" "_law_urn" s_law_urn a_law_urn d_law_urn
  b_law_urn : Binds K d_law_urn ["script", "at"] []
  g_law_urn : mg "_law_urn" = some (.ref a_law_urn)
  a_law_take : Addr
  d_law_take : FuncData
  F_law_take : Fun K "_law_take" "_law_take" s_law_take a_law_take d_law_take
  b_law_take : Binds K d_law_take ["urn", "total"] []
  g_law_take : mg "_law_take" = some (.ref a_law_take)
  a_law_one : Addr
  d_law_one : FuncData
  F_law_one : Fun K "_law_one" "_law_one" s_law_one a_law_one d_law_one
  b_law_one : Binds K d_law_one ["urn", "items"] []
  g_law_one : mg "_law_one" = some (.ref a_law_one)
  a_law_is_laid : Addr
  d_law_is_laid : FuncData
  F_law_is_laid : Fun K "_law_is_laid" "_law_is_laid" s_law_is_laid a_law_is_laid d_law_is_laid
  b_law_is_laid : Binds K d_law_is_laid ["size"] []
  g_law_is_laid : mg "_law_is_laid" = some (.ref a_law_is_laid)
  a_law_small : Addr
  d_law_small : FuncData
  F_law_small : Fun K "_law_small" "_law_small" s_law_small a_law_small d_law_small
  b_law_small : Binds K d_law_small ["urn", "cells"] []
  g_law_small : mg "_law_small" = some (.ref a_law_small)
  a_law_great : Addr
  d_law_great : FuncData
  F_law_great : Fun K "_law_great" "_law_great" s_law_great a_law_great d_law_great
  b_law_great : Binds K d_law_great ["urn"] []
  g_law_great : mg "_law_great" = some (.ref a_law_great)
  a_law_no_size : Addr
  d_law_no_size : FuncData
  F_law_no_size : Fun K "_law_no_size" "_law_no_size" s_law_no_size a_law_no_size d_law_no_size
  b_law_no_size : Binds K d_law_no_size ["urn"] []
  g_law_no_size : mg "_law_no_size" = some (.ref a_law_no_size)
  a_law_right : Addr
  d_law_right : FuncData
  c_law_right : Addr
  P_law_right : Addr
  F_law_right : FunC K "_law_right" "_law_right" s_law_right a_law_right c_law_right d_law_right
  b_law_right : Binds K d_law_right ["urn"] []
  g_law_right : mg "_law_right" = some (.ref a_law_right)
  a_law : Addr
  d_law : FuncData
  c_law : Addr
  P_law : Addr
  F_law : FunC K "law" "law" s_law a_law c_law d_law
  b_law : Binds K d_law ["script"] []
  g_law : mg "law" = some (.ref a_law)
  a_law_met : Addr
  d_law_met : FuncData
  F_law_met : Fun K "_law_met" "_law_met" s_law_met a_law_met d_law_met
  b_law_met : Binds K d_law_met ["call"] []
  g_law_met : mg "_law_met" = some (.ref a_law_met)
  m_abs : mg "abs" = none
  m_all : mg "all" = none
  m_bool : mg "bool" = none
  m_dict : mg "dict" = none
  m_int : mg "int" = none
  m_isinstance : mg "isinstance" = none
  m_len : mg "len" = none
  m_list : mg "list" = none
  m_max : mg "max" = none
  m_min : mg "min" = none
  m_range : mg "range" = none
  m_repr : mg "repr" = none
  m_tuple : mg "tuple" = none
  t_MAX_SIDE : Tok
  c_MAX_SIDE : mg "MAX_SIDE" = some (.int 1000000000000000000000000000000 t_MAX_SIDE)
  t_WITHOUT_BOND : Addr
  c_WITHOUT_BOND : mg "WITHOUT_BOND" = some (.ref t_WITHOUT_BOND)
  u_WITHOUT_BOND : TupK K t_WITHOUT_BOND [6, 6, 2]
theorem sh_is_whole {A_total_crossings A_total_need A_reason A_has_bond A_can_be_laid P_law_right P_law : Addr} : ∀ (n : Nat) (ds : List D) (st : Sto), ds.length ≠ 1 → callT A_total_crossings A_total_need A_reason A_has_bond A_can_be_laid P_law_right P_law n 0 ds st = .bad
  | 0, _, _, _ => rfl
  | _ + 1, ds, st, h => runDef_short ds st h
theorem sh_is_index {A_total_crossings A_total_need A_reason A_has_bond A_can_be_laid P_law_right P_law : Addr} : ∀ (n : Nat) (ds : List D) (st : Sto), ds.length ≠ 2 → callT A_total_crossings A_total_need A_reason A_has_bond A_can_be_laid P_law_right P_law n 1 ds st = .bad
  | 0, _, _, _ => rfl
  | _ + 1, ds, st, h => runDef_short ds st h
theorem sh_copied {A_total_crossings A_total_need A_reason A_has_bond A_can_be_laid P_law_right P_law : Addr} : ∀ (n : Nat) (ds : List D) (st : Sto), ds.length ≠ 1 → callT A_total_crossings A_total_need A_reason A_has_bond A_can_be_laid P_law_right P_law n 2 ds st = .bad
  | 0, _, _, _ => rfl
  | _ + 1, ds, st, h => runDef_short ds st h
theorem sh_can_hold_floor {A_total_crossings A_total_need A_reason A_has_bond A_can_be_laid P_law_right P_law : Addr} : ∀ (n : Nat) (ds : List D) (st : Sto), ds.length ≠ 1 → callT A_total_crossings A_total_need A_reason A_has_bond A_can_be_laid P_law_right P_law n 3 ds st = .bad
  | 0, _, _, _ => rfl
  | _ + 1, ds, st, h => runDef_short ds st h
theorem sh_is_size {A_total_crossings A_total_need A_reason A_has_bond A_can_be_laid P_law_right P_law : Addr} : ∀ (n : Nat) (ds : List D) (st : Sto), ds.length ≠ 1 → callT A_total_crossings A_total_need A_reason A_has_bond A_can_be_laid P_law_right P_law n 4 ds st = .bad
  | 0, _, _, _ => rfl
  | _ + 1, ds, st, h => runDef_short ds st h
theorem sh_can_be_laid {A_total_crossings A_total_need A_reason A_has_bond A_can_be_laid P_law_right P_law : Addr} : ∀ (n : Nat) (ds : List D) (st : Sto), ds.length ≠ 1 → callT A_total_crossings A_total_need A_reason A_has_bond A_can_be_laid P_law_right P_law n 7 ds st = .bad
  | 0, _, _, _ => rfl
  | _ + 1, ds, st, h => runDef_short ds st h
theorem sh_pairs_with_sum {A_total_crossings A_total_need A_reason A_has_bond A_can_be_laid P_law_right P_law : Addr} : ∀ (n : Nat) (ds : List D) (st : Sto), ds.length ≠ 3 → callT A_total_crossings A_total_need A_reason A_has_bond A_can_be_laid P_law_right P_law n 8 ds st = .bad
  | 0, _, _, _ => rfl
  | _ + 1, ds, st, h => runDef_short ds st h
theorem sh_weight {A_total_crossings A_total_need A_reason A_has_bond A_can_be_laid P_law_right P_law : Addr} : ∀ (n : Nat) (ds : List D) (st : Sto), ds.length ≠ 2 → callT A_total_crossings A_total_need A_reason A_has_bond A_can_be_laid P_law_right P_law n 9 ds st = .bad
  | 0, _, _, _ => rfl
  | _ + 1, ds, st, h => runDef_short ds st h
theorem sh_is_one_bar {A_total_crossings A_total_need A_reason A_has_bond A_can_be_laid P_law_right P_law : Addr} : ∀ (n : Nat) (ds : List D) (st : Sto), ds.length ≠ 1 → callT A_total_crossings A_total_need A_reason A_has_bond A_can_be_laid P_law_right P_law n 10 ds st = .bad
  | 0, _, _, _ => rfl
  | _ + 1, ds, st, h => runDef_short ds st h
theorem sh_is_narrow {A_total_crossings A_total_need A_reason A_has_bond A_can_be_laid P_law_right P_law : Addr} : ∀ (n : Nat) (ds : List D) (st : Sto), ds.length ≠ 1 → callT A_total_crossings A_total_need A_reason A_has_bond A_can_be_laid P_law_right P_law n 11 ds st = .bad
  | 0, _, _, _ => rfl
  | _ + 1, ds, st, h => runDef_short ds st h
theorem sh_has_bond {A_total_crossings A_total_need A_reason A_has_bond A_can_be_laid P_law_right P_law : Addr} : ∀ (n : Nat) (ds : List D) (st : Sto), ds.length ≠ 1 → callT A_total_crossings A_total_need A_reason A_has_bond A_can_be_laid P_law_right P_law n 12 ds st = .bad
  | 0, _, _, _ => rfl
  | _ + 1, ds, st, h => runDef_short ds st h
theorem sh_need_along {A_total_crossings A_total_need A_reason A_has_bond A_can_be_laid P_law_right P_law : Addr} : ∀ (n : Nat) (ds : List D) (st : Sto), ds.length ≠ 3 → callT A_total_crossings A_total_need A_reason A_has_bond A_can_be_laid P_law_right P_law n 13 ds st = .bad
  | 0, _, _, _ => rfl
  | _ + 1, ds, st, h => runDef_short ds st h
theorem sh_total_need {A_total_crossings A_total_need A_reason A_has_bond A_can_be_laid P_law_right P_law : Addr} : ∀ (n : Nat) (ds : List D) (st : Sto), ds.length ≠ 1 → callT A_total_crossings A_total_need A_reason A_has_bond A_can_be_laid P_law_right P_law n 14 ds st = .bad
  | 0, _, _, _ => rfl
  | _ + 1, ds, st, h => runDef_short ds st h
theorem sh_total_crossings {A_total_crossings A_total_need A_reason A_has_bond A_can_be_laid P_law_right P_law : Addr} : ∀ (n : Nat) (ds : List D) (st : Sto), ds.length ≠ 1 → callT A_total_crossings A_total_need A_reason A_has_bond A_can_be_laid P_law_right P_law n 15 ds st = .bad
  | 0, _, _, _ => rfl
  | _ + 1, ds, st, h => runDef_short ds st h
theorem sh_is_few {A_total_crossings A_total_need A_reason A_has_bond A_can_be_laid P_law_right P_law : Addr} : ∀ (n : Nat) (ds : List D) (st : Sto), ds.length ≠ 1 → callT A_total_crossings A_total_need A_reason A_has_bond A_can_be_laid P_law_right P_law n 16 ds st = .bad
  | 0, _, _, _ => rfl
  | _ + 1, ds, st, h => runDef_short ds st h
theorem sh_reason {A_total_crossings A_total_need A_reason A_has_bond A_can_be_laid P_law_right P_law : Addr} : ∀ (n : Nat) (ds : List D) (st : Sto), ds.length ≠ 1 → callT A_total_crossings A_total_need A_reason A_has_bond A_can_be_laid P_law_right P_law n 17 ds st = .bad
  | 0, _, _, _ => rfl
  | _ + 1, ds, st, h => runDef_short ds st h
theorem sh_weights_differ {A_total_crossings A_total_need A_reason A_has_bond A_can_be_laid P_law_right P_law : Addr} : ∀ (n : Nat) (ds : List D) (st : Sto), ds.length ≠ 3 → callT A_total_crossings A_total_need A_reason A_has_bond A_can_be_laid P_law_right P_law n 18 ds st = .bad
  | 0, _, _, _ => rfl
  | _ + 1, ds, st, h => runDef_short ds st h
theorem sh_is_reason {A_total_crossings A_total_need A_reason A_has_bond A_can_be_laid P_law_right P_law : Addr} : ∀ (n : Nat) (ds : List D) (st : Sto), ds.length ≠ 2 → callT A_total_crossings A_total_need A_reason A_has_bond A_can_be_laid P_law_right P_law n 19 ds st = .bad
  | 0, _, _, _ => rfl
  | _ + 1, ds, st, h => runDef_short ds st h
theorem sh_law_urn {A_total_crossings A_total_need A_reason A_has_bond A_can_be_laid P_law_right P_law : Addr} : ∀ (n : Nat) (ds : List D) (st : Sto), ds.length ≠ 2 → callT A_total_crossings A_total_need A_reason A_has_bond A_can_be_laid P_law_right P_law n 20 ds st = .bad
  | 0, _, _, _ => rfl
  | _ + 1, ds, st, h => runDef_short ds st h
theorem sh_law_take {A_total_crossings A_total_need A_reason A_has_bond A_can_be_laid P_law_right P_law : Addr} : ∀ (n : Nat) (ds : List D) (st : Sto), ds.length ≠ 2 → callT A_total_crossings A_total_need A_reason A_has_bond A_can_be_laid P_law_right P_law n 21 ds st = .bad
  | 0, _, _, _ => rfl
  | _ + 1, ds, st, h => runDef_short ds st h
theorem sh_law_one {A_total_crossings A_total_need A_reason A_has_bond A_can_be_laid P_law_right P_law : Addr} : ∀ (n : Nat) (ds : List D) (st : Sto), ds.length ≠ 2 → callT A_total_crossings A_total_need A_reason A_has_bond A_can_be_laid P_law_right P_law n 22 ds st = .bad
  | 0, _, _, _ => rfl
  | _ + 1, ds, st, h => runDef_short ds st h
theorem sh_law_is_laid {A_total_crossings A_total_need A_reason A_has_bond A_can_be_laid P_law_right P_law : Addr} : ∀ (n : Nat) (ds : List D) (st : Sto), ds.length ≠ 1 → callT A_total_crossings A_total_need A_reason A_has_bond A_can_be_laid P_law_right P_law n 23 ds st = .bad
  | 0, _, _, _ => rfl
  | _ + 1, ds, st, h => runDef_short ds st h
theorem sh_law_small {A_total_crossings A_total_need A_reason A_has_bond A_can_be_laid P_law_right P_law : Addr} : ∀ (n : Nat) (ds : List D) (st : Sto), ds.length ≠ 2 → callT A_total_crossings A_total_need A_reason A_has_bond A_can_be_laid P_law_right P_law n 24 ds st = .bad
  | 0, _, _, _ => rfl
  | _ + 1, ds, st, h => runDef_short ds st h
theorem sh_law_great {A_total_crossings A_total_need A_reason A_has_bond A_can_be_laid P_law_right P_law : Addr} : ∀ (n : Nat) (ds : List D) (st : Sto), ds.length ≠ 1 → callT A_total_crossings A_total_need A_reason A_has_bond A_can_be_laid P_law_right P_law n 25 ds st = .bad
  | 0, _, _, _ => rfl
  | _ + 1, ds, st, h => runDef_short ds st h
theorem sh_law_no_size {A_total_crossings A_total_need A_reason A_has_bond A_can_be_laid P_law_right P_law : Addr} : ∀ (n : Nat) (ds : List D) (st : Sto), ds.length ≠ 1 → callT A_total_crossings A_total_need A_reason A_has_bond A_can_be_laid P_law_right P_law n 26 ds st = .bad
  | 0, _, _, _ => rfl
  | _ + 1, ds, st, h => runDef_short ds st h
theorem sh_law_right {A_total_crossings A_total_need A_reason A_has_bond A_can_be_laid P_law_right P_law : Addr} : ∀ (n : Nat) (ds : List D) (st : Sto), ds.length ≠ 1 → callT A_total_crossings A_total_need A_reason A_has_bond A_can_be_laid P_law_right P_law n 27 ds st = .bad
  | 0, _, _, _ => rfl
  | _ + 1, ds, st, h => runDef_short ds st h
theorem sh_law {A_total_crossings A_total_need A_reason A_has_bond A_can_be_laid P_law_right P_law : Addr} : ∀ (n : Nat) (ds : List D) (st : Sto), ds.length ≠ 1 → callT A_total_crossings A_total_need A_reason A_has_bond A_can_be_laid P_law_right P_law n 28 ds st = .bad
  | 0, _, _, _ => rfl
  | _ + 1, ds, st, h => runDef_short ds st h
section
variable {P : Program} {w : World} {K : PySem.W.Frag} {mg : Str → Option Value} {base : Heap}
theorem exl_InvalidSize (T : Tx K mg) : ExL K mg (.ref T.C_InvalidSize) "InvalidSize" cl_ := (.cons T.g_InvalidSize T.ex_InvalidSize_InvalidSize (by decide) (.cons T.g_InvalidNumber T.ex_InvalidNumber_InvalidSize (by decide) (.cons T.g_Unlaid T.ex_Unlaid_InvalidSize (by decide) .nil)))
theorem exl_InvalidLine (T : Tx K mg) : ExL K mg (.ref T.C_InvalidLine) "InvalidLine" cl_ := (.cons T.g_InvalidSize T.ex_InvalidSize_InvalidLine (by decide) (.cons T.g_InvalidNumber T.ex_InvalidNumber_InvalidLine (by decide) (.cons T.g_Unlaid T.ex_Unlaid_InvalidLine (by decide) .nil)))
theorem exl_InvalidPlan (T : Tx K mg) : ExL K mg (.ref T.C_InvalidPlan) "InvalidPlan" cl_ := (.cons T.g_InvalidSize T.ex_InvalidSize_InvalidPlan (by decide) (.cons T.g_InvalidNumber T.ex_InvalidNumber_InvalidPlan (by decide) (.cons T.g_Unlaid T.ex_Unlaid_InvalidPlan (by decide) .nil)))
theorem exl_InvalidOperation (T : Tx K mg) : ExL K mg (.ref T.C_InvalidOperation) "InvalidOperation" cl_ := (.cons T.g_InvalidSize T.ex_InvalidSize_InvalidOperation (by decide) (.cons T.g_InvalidNumber T.ex_InvalidNumber_InvalidOperation (by decide) (.cons T.g_Unlaid T.ex_Unlaid_InvalidOperation (by decide) .nil)))
theorem exl_InvalidNumber (T : Tx K mg) : ExL K mg (.ref T.C_InvalidNumber) "InvalidNumber" cl_ := (.cons T.g_InvalidSize T.ex_InvalidSize_InvalidNumber (by decide) (.cons T.g_InvalidNumber T.ex_InvalidNumber_InvalidNumber (by decide) (.cons T.g_Unlaid T.ex_Unlaid_InvalidNumber (by decide) .nil)))
theorem exl_Unlaid (T : Tx K mg) : ExL K mg (.ref T.C_Unlaid) "Unlaid" cl_ := (.cons T.g_InvalidSize T.ex_InvalidSize_Unlaid (by decide) (.cons T.g_InvalidNumber T.ex_InvalidNumber_Unlaid (by decide) (.cons T.g_Unlaid T.ex_Unlaid_Unlaid (by decide) .nil)))
theorem exl_TooMany (T : Tx K mg) : ExL K mg (.ref T.C_TooMany) "TooMany" cl_ := (.cons T.g_InvalidSize T.ex_InvalidSize_TooMany (by decide) (.cons T.g_InvalidNumber T.ex_InvalidNumber_TooMany (by decide) (.cons T.g_Unlaid T.ex_Unlaid_TooMany (by decide) .nil)))
theorem gv_law_met (T : Tx K mg) {Nf : List Str} {qf : Str} {scf : Scope} {ff : Addr} {cdf : Value} {A : Around} {outer : List Env} {s : Shared} {H : Hp} {E : XK} (hgd : (cxOf (L2.CX P w) P w K mg base Nf qf scf ff cdf A outer s H E).A.guards = some []) (hu : (cxOf (L2.CX P w) P w K mg base Nf qf scf ff cdf A outer s H E).A.units + 100 < cLine) :
    ∀ (cdv : Value) (th : Sto → R D), LamX.GivesTo (cxOf (L2.CX P w) P w K mg base Nf qf scf ff cdf A outer s H E) N_law_met "_law_met" (defScope s_law_met) T.a_law_met cdv (defBody s_law_met) "call" ((cxOf (L2.CX P w) P w K mg base Nf qf scf ff cdf A outer s H E).env.qual ++ "<lambda>") (TT3 K mg cl_ 2 hs_law_met ke_law_met th) := fun cdv th =>
  met_gives rfl (by decide) (fun s H => ⟨_, (HdL.bare ⟨by rfl, by decide, .inl T.g_InvalidSize⟩ (ExL.all (exl_InvalidSize T)) (fun a oe cls d pn zc hf => (hd_plain q_str)) (HdL.bare ⟨by rfl, by decide, .inl T.g_InvalidPlan⟩ (ExL.all (exl_InvalidPlan T)) (fun a oe cls d pn zc hf => (hd_plain q_str)) (HdL.bare ⟨by rfl, by decide, .inl T.g_InvalidLine⟩ (ExL.all (exl_InvalidLine T)) (fun a oe cls d pn zc hf => (hd_plain q_str)) (HdL.bare ⟨by rfl, by decide, .inl T.g_InvalidOperation⟩ (ExL.all (exl_InvalidOperation T)) (fun a oe cls d pn zc hf => (hd_plain q_str)) (HdL.named sc_law_met.nd (i := 1) rfl rfl (by decide) ⟨by rfl, by decide, .inl T.g_InvalidNumber⟩ (ExL.all (exl_InvalidNumber T)) (fun a oe cls d pn zc hf => (hd_op o_add (hd_callB (f_reprG (suite_guards hgd) (suite_units hu)) (by rfl) T.m_repr bt_repr (hd_fld T.xf_InvalidNumber T.hn_InvalidNumber_value T.g_InvalidNumber zc hf rfl (by first | exact Or.inl rfl | exact Or.inr (Or.inl rfl)))))) (HdL.named sc_law_met.nd (i := 1) rfl rfl (by decide) ⟨by rfl, by decide, .inl T.g_Unlaid⟩ (ExL.all (exl_Unlaid T)) (fun a oe cls d pn zc hf => (hd_op o_add (hd_callB (f_reprG (suite_guards hgd) (suite_units hu)) (by rfl) T.m_repr bt_repr (hd_fld T.xf_Unlaid T.hn_Unlaid_value T.g_Unlaid zc hf rfl (by first | exact Or.inl rfl | exact Or.inr (Or.inl rfl)))))) (HdL.named sc_law_met.nd (i := 1) rfl rfl (by decide) ⟨by rfl, by decide, .inl T.g_TooMany⟩ (ExL.all (exl_TooMany T)) (fun a oe cls d pn zc hf => (hd_op o_add (hd_callB (f_reprG (suite_guards hgd) (suite_units hu)) (by rfl) T.m_repr bt_repr (hd_fld T.xf_TooMany T.hn_TooMany_limit T.g_TooMany zc hf rfl (by first | exact Or.inl rfl | exact Or.inr (Or.inl rfl)))))) .nil)))))))⟩) (fun s H => q_str)
structure OkAll (P : Program) (w : World) (K : PySem.W.Frag) (mg : Str → Option Value) (base : Heap) (T : Tx K mg) (n : Nat) : Prop where
  is_whole : FnOk P w K mg base (L2.CX P w) (4 * n) T.a_is_whole T.d_is_whole ["value"] (spOf K mg 1 (callT T.a_total_crossings T.a_total_need T.a_reason T.a_has_bond T.a_can_be_laid T.P_law_right T.P_law n 0))
  is_index : FnOk P w K mg base (L2.CX P w) (4 * n) T.a_is_index T.d_is_index ["value", "many"] (spOf K mg 2 (callT T.a_total_crossings T.a_total_need T.a_reason T.a_has_bond T.a_can_be_laid T.P_law_right T.P_law n 1))
  copied : FnOk P w K mg base (L2.CX P w) (4 * n) T.a_copied T.d_copied ["value"] (spOf K mg 1 (callT T.a_total_crossings T.a_total_need T.a_reason T.a_has_bond T.a_can_be_laid T.P_law_right T.P_law n 2))
  can_hold_floor : FnOk P w K mg base (L2.CX P w) (4 * n) T.a_can_hold_floor T.d_can_hold_floor ["size"] (spOf K mg 1 (callT T.a_total_crossings T.a_total_need T.a_reason T.a_has_bond T.a_can_be_laid T.P_law_right T.P_law n 3))
  is_size : FnOk P w K mg base (L2.CX P w) (4 * n) T.a_is_size T.d_is_size ["value"] (spOf K mg 1 (callT T.a_total_crossings T.a_total_need T.a_reason T.a_has_bond T.a_can_be_laid T.P_law_right T.P_law n 4))
  InvalidNumber___init__ : FnOk P w K mg base (L2.CX P w) (4 * n) T.a_InvalidNumber___init__ T.d_InvalidNumber___init__ ["self", "value"] (spInit K mg T.C_InvalidNumber "value" (callT T.a_total_crossings T.a_total_need T.a_reason T.a_has_bond T.a_can_be_laid T.P_law_right T.P_law n 5))
  Unlaid___init__ : FnOk P w K mg base (L2.CX P w) (4 * n) T.a_Unlaid___init__ T.d_Unlaid___init__ ["self", "value"] (spInit K mg T.C_Unlaid "value" (callT T.a_total_crossings T.a_total_need T.a_reason T.a_has_bond T.a_can_be_laid T.P_law_right T.P_law n 6))
  can_be_laid : FnOk P w K mg base (L2.CX P w) (4 * n) T.a_can_be_laid T.d_can_be_laid ["size"] (spOf K mg 1 (callT T.a_total_crossings T.a_total_need T.a_reason T.a_has_bond T.a_can_be_laid T.P_law_right T.P_law n 7))
  pairs_with_sum : FnOk P w K mg base (L2.CX P w) (4 * n) T.a_pairs_with_sum T.d_pairs_with_sum ["width", "height", "total"] (spOf K mg 3 (callT T.a_total_crossings T.a_total_need T.a_reason T.a_has_bond T.a_can_be_laid T.P_law_right T.P_law n 8))
  weight : FnOk P w K mg base (L2.CX P w) (4 * n) T.a_weight T.d_weight ["size", "number"] (spOf K mg 2 (callT T.a_total_crossings T.a_total_need T.a_reason T.a_has_bond T.a_can_be_laid T.P_law_right T.P_law n 9))
  is_one_bar : FnOk P w K mg base (L2.CX P w) (4 * n) T.a_is_one_bar T.d_is_one_bar ["size"] (spOf K mg 1 (callT T.a_total_crossings T.a_total_need T.a_reason T.a_has_bond T.a_can_be_laid T.P_law_right T.P_law n 10))
  is_narrow : FnOk P w K mg base (L2.CX P w) (4 * n) T.a_is_narrow T.d_is_narrow ["size"] (spOf K mg 1 (callT T.a_total_crossings T.a_total_need T.a_reason T.a_has_bond T.a_can_be_laid T.P_law_right T.P_law n 11))
  has_bond : FnOk P w K mg base (L2.CX P w) (4 * n) T.a_has_bond T.d_has_bond ["size"] (spOf K mg 1 (callT T.a_total_crossings T.a_total_need T.a_reason T.a_has_bond T.a_can_be_laid T.P_law_right T.P_law n 12))
  need_along : FnOk P w K mg base (L2.CX P w) (4 * n) T.a_need_along T.d_need_along ["side", "other", "length"] (spOf K mg 3 (callT T.a_total_crossings T.a_total_need T.a_reason T.a_has_bond T.a_can_be_laid T.P_law_right T.P_law n 13))
  total_need : FnOk P w K mg base (L2.CX P w) (4 * n) T.a_total_need T.d_total_need ["size"] (spOf K mg 1 (callT T.a_total_crossings T.a_total_need T.a_reason T.a_has_bond T.a_can_be_laid T.P_law_right T.P_law n 14))
  total_crossings : FnOk P w K mg base (L2.CX P w) (4 * n) T.a_total_crossings T.d_total_crossings ["size"] (spOf K mg 1 (callT T.a_total_crossings T.a_total_need T.a_reason T.a_has_bond T.a_can_be_laid T.P_law_right T.P_law n 15))
  is_few : FnOk P w K mg base (L2.CX P w) (4 * n) T.a_is_few T.d_is_few ["size"] (spOf K mg 1 (callT T.a_total_crossings T.a_total_need T.a_reason T.a_has_bond T.a_can_be_laid T.P_law_right T.P_law n 16))
  reason : FnOk P w K mg base (L2.CX P w) (4 * n) T.a_reason T.d_reason ["size"] (spOf K mg 1 (callT T.a_total_crossings T.a_total_need T.a_reason T.a_has_bond T.a_can_be_laid T.P_law_right T.P_law n 17))
  weights_differ : FnOk P w K mg base (L2.CX P w) (4 * n) T.a_weights_differ T.d_weights_differ ["size", "one", "other"] (spOf K mg 3 (callT T.a_total_crossings T.a_total_need T.a_reason T.a_has_bond T.a_can_be_laid T.P_law_right T.P_law n 18))
  is_reason : FnOk P w K mg base (L2.CX P w) (4 * n) T.a_is_reason T.d_is_reason ["size", "value"] (spOf K mg 2 (callT T.a_total_crossings T.a_total_need T.a_reason T.a_has_bond T.a_can_be_laid T.P_law_right T.P_law n 19))
  law_urn : FnOk P w K mg base (L2.CX P w) (4 * n) T.a_law_urn T.d_law_urn ["script", "at"] (spOf K mg 2 (callT T.a_total_crossings T.a_total_need T.a_reason T.a_has_bond T.a_can_be_laid T.P_law_right T.P_law n 20))
  law_take : FnOk P w K mg base (L2.CX P w) (4 * n) T.a_law_take T.d_law_take ["urn", "total"] (spOf K mg 2 (callT T.a_total_crossings T.a_total_need T.a_reason T.a_has_bond T.a_can_be_laid T.P_law_right T.P_law n 21))
  law_one : FnOk P w K mg base (L2.CX P w) (4 * n) T.a_law_one T.d_law_one ["urn", "items"] (spOf K mg 2 (callT T.a_total_crossings T.a_total_need T.a_reason T.a_has_bond T.a_can_be_laid T.P_law_right T.P_law n 22))
  law_is_laid : FnOk P w K mg base (L2.CX P w) (4 * n) T.a_law_is_laid T.d_law_is_laid ["size"] (spOf K mg 1 (callT T.a_total_crossings T.a_total_need T.a_reason T.a_has_bond T.a_can_be_laid T.P_law_right T.P_law n 23))
  law_small : FnOk P w K mg base (L2.CX P w) (4 * n) T.a_law_small T.d_law_small ["urn", "cells"] (spOf K mg 2 (callT T.a_total_crossings T.a_total_need T.a_reason T.a_has_bond T.a_can_be_laid T.P_law_right T.P_law n 24))
  law_great : FnOk P w K mg base (L2.CX P w) (4 * n) T.a_law_great T.d_law_great ["urn"] (spOf K mg 1 (callT T.a_total_crossings T.a_total_need T.a_reason T.a_has_bond T.a_can_be_laid T.P_law_right T.P_law n 25))
  law_no_size : FnOk P w K mg base (L2.CX P w) (4 * n) T.a_law_no_size T.d_law_no_size ["urn"] (spOf K mg 1 (callT T.a_total_crossings T.a_total_need T.a_reason T.a_has_bond T.a_can_be_laid T.P_law_right T.P_law n 26))
  law_right : PrG P w K mg base (4 * n) T.a_law_right (callT T.a_total_crossings T.a_total_need T.a_reason T.a_has_bond T.a_can_be_laid T.P_law_right T.P_law n 27)
  law : PrG P w K mg base (4 * n) T.a_law (callT T.a_total_crossings T.a_total_need T.a_reason T.a_has_bond T.a_can_be_laid T.P_law_right T.P_law n 28)
theorem ok_is_whole (T : Tx K mg) {n : Nat} (hh : OkAll P w K mg base T n) : FnOk P w K mg base (L2.CX P w) (4 * n + 3 + 1) T.a_is_whole T.d_is_whole ["value"] (spOf K mg 1 (callT T.a_total_crossings T.a_total_need T.a_reason T.a_has_bond T.a_can_be_laid T.P_law_right T.P_law (n + 1) 0)) := by
  refine Fun.ok3 (n := 1) T.F_is_whole sc_is_whole rfl rfl fun cdv A outer s H E hr2 => ?_
  have hr := hr2.mono (Nat.le_add_right (4 * n + 1) 2)
  have hr0 := hr2.mono (Nat.le_add_right (4 * n) 3)
  have hu64 := hr2.units
  have hu65 : (A.deeper (envOfC "is_whole" (defScope s_is_whole) s.heap.objs.size T.a_is_whole cdv)).units + 65 < cLine := by have := hr2.un; omega
  have hu62 : (A.deeper (envOfC "is_whole" (defScope s_is_whole) s.heap.objs.size T.a_is_whole cdv)).units + 62 < cLine := by have := hr2.un; omega
  have hu100 : (A.deeper (envOfC "is_whole" (defScope s_is_whole) s.heap.objs.size T.a_is_whole cdv)).units + 100 < cLine := by have := hr2.un; omega
  have hu1 : (A.deeper (envOfC "is_whole" (defScope s_is_whole) s.heap.objs.size T.a_is_whole cdv)).units + 1 < cLine := by omega
  have tk : Takes (cxOf (L2.CX P w) P w K mg base N_is_whole "is_whole" (defScope s_is_whole) T.a_is_whole cdv A outer s H E) (fun cls d _ H => E cls d H) := takes_of rfl rfl rfl rfl
  exact (s_one (s_ret (q_andV (q_isi (by rfl) T.m_isinstance (by rfl) T.m_int bt_int (q_v (i := 0))) (q_one (q_notV (q_isi (by rfl) T.m_isinstance (by rfl) T.m_bool bt_bool (q_v (i := 0))))))))
theorem ok_is_index (T : Tx K mg) {n : Nat} (hh : OkAll P w K mg base T n) : FnOk P w K mg base (L2.CX P w) (4 * n + 3 + 1) T.a_is_index T.d_is_index ["value", "many"] (spOf K mg 2 (callT T.a_total_crossings T.a_total_need T.a_reason T.a_has_bond T.a_can_be_laid T.P_law_right T.P_law (n + 1) 1)) := by
  refine Fun.ok3 (n := 2) T.F_is_index sc_is_index rfl rfl fun cdv A outer s H E hr2 => ?_
  have hr := hr2.mono (Nat.le_add_right (4 * n + 1) 2)
  have hr0 := hr2.mono (Nat.le_add_right (4 * n) 3)
  have hu64 := hr2.units
  have hu65 : (A.deeper (envOfC "is_index" (defScope s_is_index) s.heap.objs.size T.a_is_index cdv)).units + 65 < cLine := by have := hr2.un; omega
  have hu62 : (A.deeper (envOfC "is_index" (defScope s_is_index) s.heap.objs.size T.a_is_index cdv)).units + 62 < cLine := by have := hr2.un; omega
  have hu100 : (A.deeper (envOfC "is_index" (defScope s_is_index) s.heap.objs.size T.a_is_index cdv)).units + 100 < cLine := by have := hr2.un; omega
  have hu1 : (A.deeper (envOfC "is_index" (defScope s_is_index) s.heap.objs.size T.a_is_index cdv)).units + 1 < cLine := by omega
  have tk : Takes (cxOf (L2.CX P w) P w K mg base N_is_index "is_index" (defScope s_is_index) T.a_is_index cdv A outer s H E) (fun cls d _ H => E cls d H) := takes_of rfl rfl rfl rfl
  exact (s_one (s_ret (q_andV (q_call tk hh.is_whole hr0 (by rfl) T.g_is_whole T.F_is_whole.kp T.b_is_whole (q_cons (q_v (i := 0)) q_nil) rfl (kA1_len kA0_len)) (q_one (q_chain o_le o_lt q_int (q_v (i := 0)) (q_v (i := 1)))))))
theorem ok_copied (T : Tx K mg) {n : Nat} (hh : OkAll P w K mg base T n) : FnOk P w K mg base (L2.CX P w) (4 * n + 3 + 1) T.a_copied T.d_copied ["value"] (spOf K mg 1 (callT T.a_total_crossings T.a_total_need T.a_reason T.a_has_bond T.a_can_be_laid T.P_law_right T.P_law (n + 1) 2)) := by
  refine Fun.ok3 (n := 3) T.F_copied sc_copied rfl rfl fun cdv A outer s H E hr2 => ?_
  have hr := hr2.mono (Nat.le_add_right (4 * n + 1) 2)
  have hr0 := hr2.mono (Nat.le_add_right (4 * n) 3)
  have hu64 := hr2.units
  have hu65 : (A.deeper (envOfC "copied" (defScope s_copied) s.heap.objs.size T.a_copied cdv)).units + 65 < cLine := by have := hr2.un; omega
  have hu62 : (A.deeper (envOfC "copied" (defScope s_copied) s.heap.objs.size T.a_copied cdv)).units + 62 < cLine := by have := hr2.un; omega
  have hu100 : (A.deeper (envOfC "copied" (defScope s_copied) s.heap.objs.size T.a_copied cdv)).units + 100 < cLine := by have := hr2.un; omega
  have hu1 : (A.deeper (envOfC "copied" (defScope s_copied) s.heap.objs.size T.a_copied cdv)).units + 1 < cLine := by omega
  have tk : Takes (cxOf (L2.CX P w) P w K mg base N_copied "copied" (defScope s_copied) T.a_copied cdv A outer s H E) (fun cls d _ H => E cls d H) := takes_of rfl rfl rfl rfl
  exact (s_cons (s_if (q_tr (q_isi (by rfl) T.m_isinstance (by rfl) T.m_list bt_list (q_v (i := 0)))) (s_one (s_ret (q_lcZ (own := [("item", 1)]) rfl sc_copied.nd (i_list (q_v (i := 0))) (blkOk_by (own := [("item", 1)]) (N := N_copied) (sc := defScope s_copied) (by decide +kernel)) (fun _ _ _ _ _ => (pg_name (i := 1) sc_copied.nd rfl (Or.inl rfl))) (kg_name) (by decide) (fun _ _ _ _ _ => c_nil) (fun _ _ _ _ _ => (q_call takes0 hh.copied hr0 (by rfl) T.g_copied T.F_copied.kp T.b_copied (q_cons (q_v (i := 1)) q_nil) rfl (kA1_len kA0_len)))))) s_nil)
    (s_cons (s_if (q_tr (q_isi (by rfl) T.m_isinstance (by rfl) T.m_tuple bt_tuple (q_v (i := 0)))) (s_one (s_ret (q_callTy f_tuple (by rfl) T.m_tuple bt_tuple (q_cons (q_lcZ (own := [("item", 1)]) rfl sc_copied.nd (i_tup (q_v (i := 0))) (blkOk_by (own := [("item", 1)]) (N := N_copied) (sc := defScope s_copied) (by decide +kernel)) (fun _ _ _ _ _ => (pg_name (i := 1) sc_copied.nd rfl (Or.inl rfl))) (kg_name) (by decide) (fun _ _ _ _ _ => c_nil) (fun _ _ _ _ _ => (q_call takes0 hh.copied hr0 (by rfl) T.g_copied T.F_copied.kp T.b_copied (q_cons (q_v (i := 1)) q_nil) rfl (kA1_len kA0_len)))) q_nil)))) s_nil)
    (s_cons (s_if (q_tr (q_isi (by rfl) T.m_isinstance (by rfl) T.m_dict bt_dict (q_v (i := 0)))) (s_one (s_ret (q_dcE (own := [("key", 2)]) rfl sc_copied.nd (blkOk_by (own := [("key", 2)]) (N := N_copied) (sc := defScope s_copied) (by decide +kernel)) (q_v (i := 0))))) s_nil)
    (s_one (s_ret (q_v (i := 0)))))))
theorem ok_can_hold_floor (T : Tx K mg) {n : Nat} (hh : OkAll P w K mg base T n) : FnOk P w K mg base (L2.CX P w) (4 * n + 3 + 1) T.a_can_hold_floor T.d_can_hold_floor ["size"] (spOf K mg 1 (callT T.a_total_crossings T.a_total_need T.a_reason T.a_has_bond T.a_can_be_laid T.P_law_right T.P_law (n + 1) 3)) := by
  refine Fun.ok3 (n := 4) T.F_can_hold_floor sc_can_hold_floor rfl rfl fun cdv A outer s H E hr2 => ?_
  have hr := hr2.mono (Nat.le_add_right (4 * n + 1) 2)
  have hr0 := hr2.mono (Nat.le_add_right (4 * n) 3)
  have hu64 := hr2.units
  have hu65 : (A.deeper (envOfC "can_hold_floor" (defScope s_can_hold_floor) s.heap.objs.size T.a_can_hold_floor cdv)).units + 65 < cLine := by have := hr2.un; omega
  have hu62 : (A.deeper (envOfC "can_hold_floor" (defScope s_can_hold_floor) s.heap.objs.size T.a_can_hold_floor cdv)).units + 62 < cLine := by have := hr2.un; omega
  have hu100 : (A.deeper (envOfC "can_hold_floor" (defScope s_can_hold_floor) s.heap.objs.size T.a_can_hold_floor cdv)).units + 100 < cLine := by have := hr2.un; omega
  have hu1 : (A.deeper (envOfC "can_hold_floor" (defScope s_can_hold_floor) s.heap.objs.size T.a_can_hold_floor cdv)).units + 1 < cLine := by omega
  have tk : Takes (cxOf (L2.CX P w) P w K mg base N_can_hold_floor "can_hold_floor" (defScope s_can_hold_floor) T.a_can_hold_floor cdv A outer s H E) (fun cls d _ H => E cls d H) := takes_of rfl rfl rfl rfl
  exact (s_cons (s_asg (t_tup rfl (ts_cons (t_name (i := 1) sc_can_hold_floor.nd rfl (by first | exact Or.inl rfl | exact Or.inr rfl)) (ts_cons (t_name (i := 2) sc_can_hold_floor.nd rfl (by first | exact Or.inl rfl | exact Or.inr rfl)) (ts_cons (t_name (i := 3) sc_can_hold_floor.nd rfl (by first | exact Or.inl rfl | exact Or.inr rfl)) ts_nil)))) (q_v (i := 0)))
    (s_one (s_ret (q_orV (q_cmp (o_eq hu64) (q_op o_mod (q_v (i := 1)) (q_v (i := 3))) q_int (nomark _)) (q_one (q_cmp (o_eq hu64) (q_op o_mod (q_v (i := 2)) (q_v (i := 3))) q_int (nomark _)))))))
theorem ok_is_size (T : Tx K mg) {n : Nat} (hh : OkAll P w K mg base T n) : FnOk P w K mg base (L2.CX P w) (4 * n + 3 + 1) T.a_is_size T.d_is_size ["value"] (spOf K mg 1 (callT T.a_total_crossings T.a_total_need T.a_reason T.a_has_bond T.a_can_be_laid T.P_law_right T.P_law (n + 1) 4)) := by
  refine Fun.ok3 (n := 5) T.F_is_size sc_is_size rfl rfl fun cdv A outer s H E hr2 => ?_
  have hr := hr2.mono (Nat.le_add_right (4 * n + 1) 2)
  have hr0 := hr2.mono (Nat.le_add_right (4 * n) 3)
  have hu64 := hr2.units
  have hu65 : (A.deeper (envOfC "is_size" (defScope s_is_size) s.heap.objs.size T.a_is_size cdv)).units + 65 < cLine := by have := hr2.un; omega
  have hu62 : (A.deeper (envOfC "is_size" (defScope s_is_size) s.heap.objs.size T.a_is_size cdv)).units + 62 < cLine := by have := hr2.un; omega
  have hu100 : (A.deeper (envOfC "is_size" (defScope s_is_size) s.heap.objs.size T.a_is_size cdv)).units + 100 < cLine := by have := hr2.un; omega
  have hu1 : (A.deeper (envOfC "is_size" (defScope s_is_size) s.heap.objs.size T.a_is_size cdv)).units + 1 < cLine := by omega
  have tk : Takes (cxOf (L2.CX P w) P w K mg base N_is_size "is_size" (defScope s_is_size) T.a_is_size cdv A outer s H E) (fun cls d _ H => E cls d H) := takes_of rfl rfl rfl rfl
  exact (s_cons (s_if (PW.pt (w_or (q_tnot (q_tr (q_isi (by rfl) T.m_isinstance (by rfl) T.m_tuple bt_tuple (q_v (i := 0))))) (w_or1 (q_tcmp (o_ne hu64) (q_callB f_len (by rfl) T.m_len bt_len (q_cons (q_v (i := 0)) q_nil)) q_int (nomark _))))) (s_one (s_ret q_bl)) s_nil)
    (s_cons (s_if (q_tnot (q_tr (q_callB (f_all rfl) (by rfl) T.m_all bt_all (q_cons (q_lcZ (own := [("item", 4)]) rfl sc_is_size.nd (i_tup (q_v (i := 0))) (blkOk_by (own := [("item", 4)]) (N := N_is_size) (sc := defScope s_is_size) (by decide +kernel)) (fun _ _ _ _ _ => (pg_name (i := 4) sc_is_size.nd rfl (Or.inl rfl))) (kg_name) (by decide) (fun _ _ _ _ _ => c_nil) (fun _ _ _ _ _ => (q_call takes0 hh.is_whole hr0 (by rfl) T.g_is_whole T.F_is_whole.kp T.b_is_whole (q_cons (q_v (i := 4)) q_nil) rfl (kA1_len kA0_len)))) q_nil)))) (s_one (s_ret q_bl)) s_nil)
    (s_cons (s_asg (t_tup rfl (ts_cons (t_name (i := 1) sc_is_size.nd rfl (by first | exact Or.inl rfl | exact Or.inr rfl)) (ts_cons (t_name (i := 2) sc_is_size.nd rfl (by first | exact Or.inl rfl | exact Or.inr rfl)) (ts_cons (t_name (i := 3) sc_is_size.nd rfl (by first | exact Or.inl rfl | exact Or.inr rfl)) ts_nil)))) (q_v (i := 0)))
    (s_one (s_ret (q_andV (q_chain o_le o_le q_int (q_v (i := 1)) (q_gint (by rfl) T.c_MAX_SIDE)) (q_andV (q_chain o_le o_le q_int (q_v (i := 2)) (q_gint (by rfl) T.c_MAX_SIDE)) (q_one (q_chain o_le o_le q_int (q_v (i := 3)) (q_gint (by rfl) T.c_MAX_SIDE))))))))))
theorem ok_InvalidNumber___init__ (T : Tx K mg) {n : Nat} (hh : OkAll P w K mg base T n) : FnOk P w K mg base (L2.CX P w) (4 * n + 3 + 1) T.a_InvalidNumber___init__ T.d_InvalidNumber___init__ ["self", "value"] (spInit K mg T.C_InvalidNumber "value" (callT T.a_total_crossings T.a_total_need T.a_reason T.a_has_bond T.a_can_be_laid T.P_law_right T.P_law (n + 1) 5)) := by
  refine Fun.okI T.F_InvalidNumber___init__ sc_InvalidNumber___init__ rfl fun cdv A outer s H E hr2 => ?_
  have hr := hr2.mono (Nat.le_add_right (4 * n + 1) 2)
  have hr0 := hr2.mono (Nat.le_add_right (4 * n) 3)
  have hu64 := hr2.units
  have hu65 : (A.deeper (envOfC "InvalidNumber.__init__" (defScope s_InvalidNumber___init__) s.heap.objs.size T.a_InvalidNumber___init__ cdv)).units + 65 < cLine := by have := hr2.un; omega
  have hu62 : (A.deeper (envOfC "InvalidNumber.__init__" (defScope s_InvalidNumber___init__) s.heap.objs.size T.a_InvalidNumber___init__ cdv)).units + 62 < cLine := by have := hr2.un; omega
  have hu100 : (A.deeper (envOfC "InvalidNumber.__init__" (defScope s_InvalidNumber___init__) s.heap.objs.size T.a_InvalidNumber___init__ cdv)).units + 100 < cLine := by have := hr2.un; omega
  have hu1 : (A.deeper (envOfC "InvalidNumber.__init__" (defScope s_InvalidNumber___init__) s.heap.objs.size T.a_InvalidNumber___init__ cdv)).units + 1 < cLine := by omega
  have tk : Takes (cxOf (L2.CX P w) P w K mg base N_InvalidNumber___init__ "InvalidNumber.__init__" (defScope s_InvalidNumber___init__) T.a_InvalidNumber___init__ cdv A outer s H E) (fun cls d _ H => E cls d H) := takes_of rfl rfl rfl rfl
  exact pss_one (ps_init T.og_InvalidNumber T.tk_InvalidNumber rfl (by first | exact Or.inl rfl | exact Or.inr (Or.inl rfl)) (q_call tk hh.copied hr0 (by rfl) T.g_copied T.F_copied.kp T.b_copied (q_cons (q_v (i := 1)) q_nil) rfl (kA1_len kA0_len)))
theorem ok_Unlaid___init__ (T : Tx K mg) {n : Nat} (hh : OkAll P w K mg base T n) : FnOk P w K mg base (L2.CX P w) (4 * n + 3 + 1) T.a_Unlaid___init__ T.d_Unlaid___init__ ["self", "value"] (spInit K mg T.C_Unlaid "value" (callT T.a_total_crossings T.a_total_need T.a_reason T.a_has_bond T.a_can_be_laid T.P_law_right T.P_law (n + 1) 6)) := by
  refine Fun.okI T.F_Unlaid___init__ sc_Unlaid___init__ rfl fun cdv A outer s H E hr2 => ?_
  have hr := hr2.mono (Nat.le_add_right (4 * n + 1) 2)
  have hr0 := hr2.mono (Nat.le_add_right (4 * n) 3)
  have hu64 := hr2.units
  have hu65 : (A.deeper (envOfC "Unlaid.__init__" (defScope s_Unlaid___init__) s.heap.objs.size T.a_Unlaid___init__ cdv)).units + 65 < cLine := by have := hr2.un; omega
  have hu62 : (A.deeper (envOfC "Unlaid.__init__" (defScope s_Unlaid___init__) s.heap.objs.size T.a_Unlaid___init__ cdv)).units + 62 < cLine := by have := hr2.un; omega
  have hu100 : (A.deeper (envOfC "Unlaid.__init__" (defScope s_Unlaid___init__) s.heap.objs.size T.a_Unlaid___init__ cdv)).units + 100 < cLine := by have := hr2.un; omega
  have hu1 : (A.deeper (envOfC "Unlaid.__init__" (defScope s_Unlaid___init__) s.heap.objs.size T.a_Unlaid___init__ cdv)).units + 1 < cLine := by omega
  have tk : Takes (cxOf (L2.CX P w) P w K mg base N_Unlaid___init__ "Unlaid.__init__" (defScope s_Unlaid___init__) T.a_Unlaid___init__ cdv A outer s H E) (fun cls d _ H => E cls d H) := takes_of rfl rfl rfl rfl
  exact pss_one (ps_init T.og_Unlaid T.tk_Unlaid rfl (by first | exact Or.inl rfl | exact Or.inr (Or.inl rfl)) (q_call tk hh.copied hr0 (by rfl) T.g_copied T.F_copied.kp T.b_copied (q_cons (q_v (i := 1)) q_nil) rfl (kA1_len kA0_len)))
theorem ok_can_be_laid (T : Tx K mg) {n : Nat} (hh : OkAll P w K mg base T n) : FnOk P w K mg base (L2.CX P w) (4 * n + 3 + 1) T.a_can_be_laid T.d_can_be_laid ["size"] (spOf K mg 1 (callT T.a_total_crossings T.a_total_need T.a_reason T.a_has_bond T.a_can_be_laid T.P_law_right T.P_law (n + 1) 7)) := by
  refine Fun.ok3 (n := 1) T.F_can_be_laid sc_can_be_laid rfl rfl fun cdv A outer s H E hr2 => ?_
  have hr := hr2.mono (Nat.le_add_right (4 * n + 1) 2)
  have hr0 := hr2.mono (Nat.le_add_right (4 * n) 3)
  have hu64 := hr2.units
  have hu65 : (A.deeper (envOfC "can_be_laid" (defScope s_can_be_laid) s.heap.objs.size T.a_can_be_laid cdv)).units + 65 < cLine := by have := hr2.un; omega
  have hu62 : (A.deeper (envOfC "can_be_laid" (defScope s_can_be_laid) s.heap.objs.size T.a_can_be_laid cdv)).units + 62 < cLine := by have := hr2.un; omega
  have hu100 : (A.deeper (envOfC "can_be_laid" (defScope s_can_be_laid) s.heap.objs.size T.a_can_be_laid cdv)).units + 100 < cLine := by have := hr2.un; omega
  have hu1 : (A.deeper (envOfC "can_be_laid" (defScope s_can_be_laid) s.heap.objs.size T.a_can_be_laid cdv)).units + 1 < cLine := by omega
  have tk : Takes (cxOf (L2.CX P w) P w K mg base N_can_be_laid "can_be_laid" (defScope s_can_be_laid) T.a_can_be_laid cdv A outer s H E) (fun cls d _ H => E cls d H) := takes_of rfl rfl rfl rfl
  exact (s_cons (s_if (q_tnot (q_tr (q_call tk hh.is_size hr0 (by rfl) T.g_is_size T.F_is_size.kp T.b_is_size (q_cons (q_v (i := 0)) q_nil) rfl (kA1_len kA0_len)))) (s_one (s_raise rfl tk (mk_own PySem.F.excBase_ValueError T.xq_InvalidSize T.g_InvalidSize T.kc_InvalidSize T.se_InvalidSize T.ty_InvalidSize (by rfl)))) s_nil)
    (s_one (s_ret (q_call tk hh.can_hold_floor hr0 (by rfl) T.g_can_hold_floor T.F_can_hold_floor.kp T.b_can_hold_floor (q_cons (q_v (i := 0)) q_nil) rfl (kA1_len kA0_len)))))
theorem ok_pairs_with_sum (T : Tx K mg) {n : Nat} (hh : OkAll P w K mg base T n) : FnOk P w K mg base (L2.CX P w) (4 * n + 3 + 1) T.a_pairs_with_sum T.d_pairs_with_sum ["width", "height", "total"] (spOf K mg 3 (callT T.a_total_crossings T.a_total_need T.a_reason T.a_has_bond T.a_can_be_laid T.P_law_right T.P_law (n + 1) 8)) := by
  refine Fun.ok3 (n := 3) T.F_pairs_with_sum sc_pairs_with_sum rfl rfl fun cdv A outer s H E hr2 => ?_
  have hr := hr2.mono (Nat.le_add_right (4 * n + 1) 2)
  have hr0 := hr2.mono (Nat.le_add_right (4 * n) 3)
  have hu64 := hr2.units
  have hu65 : (A.deeper (envOfC "pairs_with_sum" (defScope s_pairs_with_sum) s.heap.objs.size T.a_pairs_with_sum cdv)).units + 65 < cLine := by have := hr2.un; omega
  have hu62 : (A.deeper (envOfC "pairs_with_sum" (defScope s_pairs_with_sum) s.heap.objs.size T.a_pairs_with_sum cdv)).units + 62 < cLine := by have := hr2.un; omega
  have hu100 : (A.deeper (envOfC "pairs_with_sum" (defScope s_pairs_with_sum) s.heap.objs.size T.a_pairs_with_sum cdv)).units + 100 < cLine := by have := hr2.un; omega
  have hu1 : (A.deeper (envOfC "pairs_with_sum" (defScope s_pairs_with_sum) s.heap.objs.size T.a_pairs_with_sum cdv)).units + 1 < cLine := by omega
  have tk : Takes (cxOf (L2.CX P w) P w K mg base N_pairs_with_sum "pairs_with_sum" (defScope s_pairs_with_sum) T.a_pairs_with_sum cdv A outer s H E) (fun cls d _ H => E cls d H) := takes_of rfl rfl rfl rfl
  exact (s_one (s_ret (q_callB (f_max rfl) (by rfl) T.m_max bt_max (q_cons q_int (q_cons (q_op o_add (q_op o_sub (q_callB (f_min rfl) (by rfl) T.m_min bt_min (q_cons (q_op o_sub (q_v (i := 0)) q_int) (q_cons (q_v (i := 2)) q_nil))) (q_callB (f_max rfl) (by rfl) T.m_max bt_max (q_cons q_int (q_cons (q_op o_add (q_op o_sub (q_v (i := 2)) (q_v (i := 1))) q_int) q_nil)))) q_int) q_nil)))))
theorem ok_weight (T : Tx K mg) {n : Nat} (hh : OkAll P w K mg base T n) : FnOk P w K mg base (L2.CX P w) (4 * n + 3 + 1) T.a_weight T.d_weight ["size", "number"] (spOf K mg 2 (callT T.a_total_crossings T.a_total_need T.a_reason T.a_has_bond T.a_can_be_laid T.P_law_right T.P_law (n + 1) 9)) := by
  refine Fun.ok3 (n := 8) T.F_weight sc_weight rfl rfl fun cdv A outer s H E hr2 => ?_
  have hr := hr2.mono (Nat.le_add_right (4 * n + 1) 2)
  have hr0 := hr2.mono (Nat.le_add_right (4 * n) 3)
  have hu64 := hr2.units
  have hu65 : (A.deeper (envOfC "weight" (defScope s_weight) s.heap.objs.size T.a_weight cdv)).units + 65 < cLine := by have := hr2.un; omega
  have hu62 : (A.deeper (envOfC "weight" (defScope s_weight) s.heap.objs.size T.a_weight cdv)).units + 62 < cLine := by have := hr2.un; omega
  have hu100 : (A.deeper (envOfC "weight" (defScope s_weight) s.heap.objs.size T.a_weight cdv)).units + 100 < cLine := by have := hr2.un; omega
  have hu1 : (A.deeper (envOfC "weight" (defScope s_weight) s.heap.objs.size T.a_weight cdv)).units + 1 < cLine := by omega
  have tk : Takes (cxOf (L2.CX P w) P w K mg base N_weight "weight" (defScope s_weight) T.a_weight cdv A outer s H E) (fun cls d _ H => E cls d H) := takes_of rfl rfl rfl rfl
  exact (s_cons (s_if (q_tnot (q_tr (q_call tk hh.is_size hr0 (by rfl) T.g_is_size T.F_is_size.kp T.b_is_size (q_cons (q_v (i := 0)) q_nil) rfl (kA1_len kA0_len)))) (s_one (s_raise rfl tk (mk_own PySem.F.excBase_ValueError T.xq_InvalidSize T.g_InvalidSize T.kc_InvalidSize T.se_InvalidSize T.ty_InvalidSize (by rfl)))) s_nil)
    (s_cons (s_asg (t_tup rfl (ts_cons (t_name (i := 2) sc_weight.nd rfl (by first | exact Or.inl rfl | exact Or.inr rfl)) (ts_cons (t_name (i := 3) sc_weight.nd rfl (by first | exact Or.inl rfl | exact Or.inr rfl)) (ts_cons (t_name (i := 4) sc_weight.nd rfl (by first | exact Or.inl rfl | exact Or.inr rfl)) ts_nil)))) (q_v (i := 0)))
    (s_cons (s_if (q_tnot (q_tr (q_call tk hh.is_index hr0 (by rfl) T.g_is_index T.F_is_index.kp T.b_is_index (q_cons (q_v (i := 1)) (q_cons (q_v (i := 4)) q_nil)) rfl (kA1_len (kA1_len kA0_len))))) (s_one (s_raise rfl tk (mk_init T.og_InvalidNumber T.ic_InvalidNumber T.ti_InvalidNumber hh.InvalidNumber___init__ hr T.b_InvalidNumber___init__ (by rfl) T.g_InvalidNumber (q_v (i := 1))))) s_nil)
    (s_cons (s_par2 (i := 5) (j := 6) rfl sc_weight.nd rfl rfl (by decide) rfl rfl (q_op o_mod (q_v (i := 2)) (q_v (i := 4))) (q_op o_mod (q_v (i := 3)) (q_v (i := 4))))
    (s_cons (s_set (i := 7) sc_weight.nd rfl (by first | exact Or.inl rfl | exact Or.inr rfl) (q_op o_fdiv (q_op o_sub (q_op o_mul (q_v (i := 2)) (q_v (i := 3))) (q_op o_mul (q_v (i := 5)) (q_v (i := 6)))) (q_v (i := 4))))
    (s_one (s_ret (q_op o_add (q_op o_add (q_v (i := 7)) (q_call tk hh.pairs_with_sum hr0 (by rfl) T.g_pairs_with_sum T.F_pairs_with_sum.kp T.b_pairs_with_sum (q_cons (q_v (i := 5)) (q_cons (q_v (i := 6)) (q_cons (q_v (i := 1)) q_nil))) rfl (kA1_len (kA1_len (kA1_len kA0_len))))) (q_call tk hh.pairs_with_sum hr0 (by rfl) T.g_pairs_with_sum T.F_pairs_with_sum.kp T.b_pairs_with_sum (q_cons (q_v (i := 5)) (q_cons (q_v (i := 6)) (q_cons (q_op o_add (q_v (i := 1)) (q_v (i := 4))) q_nil))) rfl (kA1_len (kA1_len (kA1_len kA0_len))))))))))))
theorem ok_is_one_bar (T : Tx K mg) {n : Nat} (hh : OkAll P w K mg base T n) : FnOk P w K mg base (L2.CX P w) (4 * n + 3 + 1) T.a_is_one_bar T.d_is_one_bar ["size"] (spOf K mg 1 (callT T.a_total_crossings T.a_total_need T.a_reason T.a_has_bond T.a_can_be_laid T.P_law_right T.P_law (n + 1) 10)) := by
  refine Fun.ok3 (n := 4) T.F_is_one_bar sc_is_one_bar rfl rfl fun cdv A outer s H E hr2 => ?_
  have hr := hr2.mono (Nat.le_add_right (4 * n + 1) 2)
  have hr0 := hr2.mono (Nat.le_add_right (4 * n) 3)
  have hu64 := hr2.units
  have hu65 : (A.deeper (envOfC "is_one_bar" (defScope s_is_one_bar) s.heap.objs.size T.a_is_one_bar cdv)).units + 65 < cLine := by have := hr2.un; omega
  have hu62 : (A.deeper (envOfC "is_one_bar" (defScope s_is_one_bar) s.heap.objs.size T.a_is_one_bar cdv)).units + 62 < cLine := by have := hr2.un; omega
  have hu100 : (A.deeper (envOfC "is_one_bar" (defScope s_is_one_bar) s.heap.objs.size T.a_is_one_bar cdv)).units + 100 < cLine := by have := hr2.un; omega
  have hu1 : (A.deeper (envOfC "is_one_bar" (defScope s_is_one_bar) s.heap.objs.size T.a_is_one_bar cdv)).units + 1 < cLine := by omega
  have tk : Takes (cxOf (L2.CX P w) P w K mg base N_is_one_bar "is_one_bar" (defScope s_is_one_bar) T.a_is_one_bar cdv A outer s H E) (fun cls d _ H => E cls d H) := takes_of rfl rfl rfl rfl
  exact (s_cons (s_asg (t_tup rfl (ts_cons (t_name (i := 1) sc_is_one_bar.nd rfl (by first | exact Or.inl rfl | exact Or.inr rfl)) (ts_cons (t_name (i := 2) sc_is_one_bar.nd rfl (by first | exact Or.inl rfl | exact Or.inr rfl)) (ts_cons (t_name (i := 3) sc_is_one_bar.nd rfl (by first | exact Or.inl rfl | exact Or.inr rfl)) ts_nil)))) (q_v (i := 0)))
    (s_one (s_ret (q_cmp (o_inY hu65) (q_tup (q_cons (q_v (i := 1)) (q_cons (q_v (i := 2)) q_nil))) (q_tup (q_cons (q_tup (q_cons (q_v (i := 3)) (q_cons q_int q_nil))) (q_cons (q_tup (q_cons q_int (q_cons (q_v (i := 3)) q_nil))) q_nil))) (by rfl)))))
theorem ok_is_narrow (T : Tx K mg) {n : Nat} (hh : OkAll P w K mg base T n) : FnOk P w K mg base (L2.CX P w) (4 * n + 3 + 1) T.a_is_narrow T.d_is_narrow ["size"] (spOf K mg 1 (callT T.a_total_crossings T.a_total_need T.a_reason T.a_has_bond T.a_can_be_laid T.P_law_right T.P_law (n + 1) 11)) := by
  refine Fun.ok3 (n := 4) T.F_is_narrow sc_is_narrow rfl rfl fun cdv A outer s H E hr2 => ?_
  have hr := hr2.mono (Nat.le_add_right (4 * n + 1) 2)
  have hr0 := hr2.mono (Nat.le_add_right (4 * n) 3)
  have hu64 := hr2.units
  have hu65 : (A.deeper (envOfC "is_narrow" (defScope s_is_narrow) s.heap.objs.size T.a_is_narrow cdv)).units + 65 < cLine := by have := hr2.un; omega
  have hu62 : (A.deeper (envOfC "is_narrow" (defScope s_is_narrow) s.heap.objs.size T.a_is_narrow cdv)).units + 62 < cLine := by have := hr2.un; omega
  have hu100 : (A.deeper (envOfC "is_narrow" (defScope s_is_narrow) s.heap.objs.size T.a_is_narrow cdv)).units + 100 < cLine := by have := hr2.un; omega
  have hu1 : (A.deeper (envOfC "is_narrow" (defScope s_is_narrow) s.heap.objs.size T.a_is_narrow cdv)).units + 1 < cLine := by omega
  have tk : Takes (cxOf (L2.CX P w) P w K mg base N_is_narrow "is_narrow" (defScope s_is_narrow) T.a_is_narrow cdv A outer s H E) (fun cls d _ H => E cls d H) := takes_of rfl rfl rfl rfl
  exact (s_cons (s_asg (t_tup rfl (ts_cons (t_name (i := 1) sc_is_narrow.nd rfl (by first | exact Or.inl rfl | exact Or.inr rfl)) (ts_cons (t_name (i := 2) sc_is_narrow.nd rfl (by first | exact Or.inl rfl | exact Or.inr rfl)) (ts_cons (t_name (i := 3) sc_is_narrow.nd rfl (by first | exact Or.inl rfl | exact Or.inr rfl)) ts_nil)))) (q_v (i := 0)))
    (s_one (s_ret (q_andV (q_cmp o_le (q_callB (f_min rfl) (by rfl) T.m_min bt_min (q_cons (q_v (i := 1)) (q_cons (q_v (i := 2)) q_nil))) (q_op o_mul q_int (q_v (i := 3))) (nomark _)) (q_one (q_notV (q_call tk hh.is_one_bar hr0 (by rfl) T.g_is_one_bar T.F_is_one_bar.kp T.b_is_one_bar (q_cons (q_v (i := 0)) q_nil) rfl (kA1_len kA0_len))))))))
theorem ok_has_bond (T : Tx K mg) {n : Nat} (hh : OkAll P w K mg base T n) : FnOk P w K mg base (L2.CX P w) (4 * n + 3 + 1) T.a_has_bond T.d_has_bond ["size"] (spOf K mg 1 (callT T.a_total_crossings T.a_total_need T.a_reason T.a_has_bond T.a_can_be_laid T.P_law_right T.P_law (n + 1) 12)) := by
  refine Fun.ok3 (n := 1) T.F_has_bond sc_has_bond rfl rfl fun cdv A outer s H E hr2 => ?_
  have hr := hr2.mono (Nat.le_add_right (4 * n + 1) 2)
  have hr0 := hr2.mono (Nat.le_add_right (4 * n) 3)
  have hu64 := hr2.units
  have hu65 : (A.deeper (envOfC "has_bond" (defScope s_has_bond) s.heap.objs.size T.a_has_bond cdv)).units + 65 < cLine := by have := hr2.un; omega
  have hu62 : (A.deeper (envOfC "has_bond" (defScope s_has_bond) s.heap.objs.size T.a_has_bond cdv)).units + 62 < cLine := by have := hr2.un; omega
  have hu100 : (A.deeper (envOfC "has_bond" (defScope s_has_bond) s.heap.objs.size T.a_has_bond cdv)).units + 100 < cLine := by have := hr2.un; omega
  have hu1 : (A.deeper (envOfC "has_bond" (defScope s_has_bond) s.heap.objs.size T.a_has_bond cdv)).units + 1 < cLine := by omega
  have tk : Takes (cxOf (L2.CX P w) P w K mg base N_has_bond "has_bond" (defScope s_has_bond) T.a_has_bond cdv A outer s H E) (fun cls d _ H => E cls d H) := takes_of rfl rfl rfl rfl
  exact (s_one (s_ret (q_andV (q_call tk hh.can_be_laid hr0 (by rfl) T.g_can_be_laid T.F_can_be_laid.kp T.b_can_be_laid (q_cons (q_v (i := 0)) q_nil) rfl (kA1_len kA0_len)) (q_andV (q_notV (q_call tk hh.is_narrow hr0 (by rfl) T.g_is_narrow T.F_is_narrow.kp T.b_is_narrow (q_cons (q_v (i := 0)) q_nil) rfl (kA1_len kA0_len))) (q_one (q_neG hu64 (by rfl) T.c_WITHOUT_BOND T.u_WITHOUT_BOND (q_v (i := 0))))))))
theorem ok_need_along (T : Tx K mg) {n : Nat} (hh : OkAll P w K mg base T n) : FnOk P w K mg base (L2.CX P w) (4 * n + 3 + 1) T.a_need_along T.d_need_along ["side", "other", "length"] (spOf K mg 3 (callT T.a_total_crossings T.a_total_need T.a_reason T.a_has_bond T.a_can_be_laid T.P_law_right T.P_law (n + 1) 13)) := by
  refine Fun.ok3 (n := 5) T.F_need_along sc_need_along rfl rfl fun cdv A outer s H E hr2 => ?_
  have hr := hr2.mono (Nat.le_add_right (4 * n + 1) 2)
  have hr0 := hr2.mono (Nat.le_add_right (4 * n) 3)
  have hu64 := hr2.units
  have hu65 : (A.deeper (envOfC "need_along" (defScope s_need_along) s.heap.objs.size T.a_need_along cdv)).units + 65 < cLine := by have := hr2.un; omega
  have hu62 : (A.deeper (envOfC "need_along" (defScope s_need_along) s.heap.objs.size T.a_need_along cdv)).units + 62 < cLine := by have := hr2.un; omega
  have hu100 : (A.deeper (envOfC "need_along" (defScope s_need_along) s.heap.objs.size T.a_need_along cdv)).units + 100 < cLine := by have := hr2.un; omega
  have hu1 : (A.deeper (envOfC "need_along" (defScope s_need_along) s.heap.objs.size T.a_need_along cdv)).units + 1 < cLine := by omega
  have tk : Takes (cxOf (L2.CX P w) P w K mg base N_need_along "need_along" (defScope s_need_along) T.a_need_along cdv A outer s H E) (fun cls d _ H => E cls d H) := takes_of rfl rfl rfl rfl
  exact (s_cons (s_set (i := 3) sc_need_along.nd rfl (by first | exact Or.inl rfl | exact Or.inr rfl) (q_op o_sub (q_v (i := 0)) q_int))
    (s_cons (s_set (i := 4) sc_need_along.nd rfl (by first | exact Or.inl rfl | exact Or.inr rfl) (q_op o_fdiv (q_v (i := 3)) (q_v (i := 2))))
    (s_one (s_ret (q_op o_add (q_op o_mul (q_v (i := 4)) (q_v (i := 2))) (q_op o_mul (q_op o_sub (q_v (i := 3)) (q_v (i := 4))) (q_orV (q_op o_mod (q_v (i := 1)) (q_v (i := 2))) (q_one (q_v (i := 2))))))))))
theorem ok_total_need (T : Tx K mg) {n : Nat} (hh : OkAll P w K mg base T n) : FnOk P w K mg base (L2.CX P w) (4 * n + 3 + 1) T.a_total_need T.d_total_need ["size"] (spOf K mg 1 (callT T.a_total_crossings T.a_total_need T.a_reason T.a_has_bond T.a_can_be_laid T.P_law_right T.P_law (n + 1) 14)) := by
  refine Fun.ok3 (n := 4) T.F_total_need sc_total_need rfl rfl fun cdv A outer s H E hr2 => ?_
  have hr := hr2.mono (Nat.le_add_right (4 * n + 1) 2)
  have hr0 := hr2.mono (Nat.le_add_right (4 * n) 3)
  have hu64 := hr2.units
  have hu65 : (A.deeper (envOfC "total_need" (defScope s_total_need) s.heap.objs.size T.a_total_need cdv)).units + 65 < cLine := by have := hr2.un; omega
  have hu62 : (A.deeper (envOfC "total_need" (defScope s_total_need) s.heap.objs.size T.a_total_need cdv)).units + 62 < cLine := by have := hr2.un; omega
  have hu100 : (A.deeper (envOfC "total_need" (defScope s_total_need) s.heap.objs.size T.a_total_need cdv)).units + 100 < cLine := by have := hr2.un; omega
  have hu1 : (A.deeper (envOfC "total_need" (defScope s_total_need) s.heap.objs.size T.a_total_need cdv)).units + 1 < cLine := by omega
  have tk : Takes (cxOf (L2.CX P w) P w K mg base N_total_need "total_need" (defScope s_total_need) T.a_total_need cdv A outer s H E) (fun cls d _ H => E cls d H) := takes_of rfl rfl rfl rfl
  exact (s_cons (s_if (q_tnot (q_tr (q_call tk hh.can_be_laid hr0 (by rfl) T.g_can_be_laid T.F_can_be_laid.kp T.b_can_be_laid (q_cons (q_v (i := 0)) q_nil) rfl (kA1_len kA0_len)))) (s_one (s_raise rfl tk (mk_init T.og_Unlaid T.ic_Unlaid T.ti_Unlaid hh.Unlaid___init__ hr T.b_Unlaid___init__ (by rfl) T.g_Unlaid (q_v (i := 0))))) s_nil)
    (s_cons (s_asg (t_tup rfl (ts_cons (t_name (i := 1) sc_total_need.nd rfl (by first | exact Or.inl rfl | exact Or.inr rfl)) (ts_cons (t_name (i := 2) sc_total_need.nd rfl (by first | exact Or.inl rfl | exact Or.inr rfl)) (ts_cons (t_name (i := 3) sc_total_need.nd rfl (by first | exact Or.inl rfl | exact Or.inr rfl)) ts_nil)))) (q_v (i := 0)))
    (s_one (s_ret (q_op o_add (q_call tk hh.need_along hr0 (by rfl) T.g_need_along T.F_need_along.kp T.b_need_along (q_cons (q_v (i := 1)) (q_cons (q_v (i := 2)) (q_cons (q_v (i := 3)) q_nil))) rfl (kA1_len (kA1_len (kA1_len kA0_len)))) (q_call tk hh.need_along hr0 (by rfl) T.g_need_along T.F_need_along.kp T.b_need_along (q_cons (q_v (i := 2)) (q_cons (q_v (i := 1)) (q_cons (q_v (i := 3)) q_nil))) rfl (kA1_len (kA1_len (kA1_len kA0_len)))))))))
theorem ok_total_crossings (T : Tx K mg) {n : Nat} (hh : OkAll P w K mg base T n) : FnOk P w K mg base (L2.CX P w) (4 * n + 3 + 1) T.a_total_crossings T.d_total_crossings ["size"] (spOf K mg 1 (callT T.a_total_crossings T.a_total_need T.a_reason T.a_has_bond T.a_can_be_laid T.P_law_right T.P_law (n + 1) 15)) := by
  refine Fun.ok3 (n := 4) T.F_total_crossings sc_total_crossings rfl rfl fun cdv A outer s H E hr2 => ?_
  have hr := hr2.mono (Nat.le_add_right (4 * n + 1) 2)
  have hr0 := hr2.mono (Nat.le_add_right (4 * n) 3)
  have hu64 := hr2.units
  have hu65 : (A.deeper (envOfC "total_crossings" (defScope s_total_crossings) s.heap.objs.size T.a_total_crossings cdv)).units + 65 < cLine := by have := hr2.un; omega
  have hu62 : (A.deeper (envOfC "total_crossings" (defScope s_total_crossings) s.heap.objs.size T.a_total_crossings cdv)).units + 62 < cLine := by have := hr2.un; omega
  have hu100 : (A.deeper (envOfC "total_crossings" (defScope s_total_crossings) s.heap.objs.size T.a_total_crossings cdv)).units + 100 < cLine := by have := hr2.un; omega
  have hu1 : (A.deeper (envOfC "total_crossings" (defScope s_total_crossings) s.heap.objs.size T.a_total_crossings cdv)).units + 1 < cLine := by omega
  have tk : Takes (cxOf (L2.CX P w) P w K mg base N_total_crossings "total_crossings" (defScope s_total_crossings) T.a_total_crossings cdv A outer s H E) (fun cls d _ H => E cls d H) := takes_of rfl rfl rfl rfl
  exact (s_cons (s_if (q_tnot (q_tr (q_call tk hh.can_be_laid hr0 (by rfl) T.g_can_be_laid T.F_can_be_laid.kp T.b_can_be_laid (q_cons (q_v (i := 0)) q_nil) rfl (kA1_len kA0_len)))) (s_one (s_raise rfl tk (mk_init T.og_Unlaid T.ic_Unlaid T.ti_Unlaid hh.Unlaid___init__ hr T.b_Unlaid___init__ (by rfl) T.g_Unlaid (q_v (i := 0))))) s_nil)
    (s_cons (s_asg (t_tup rfl (ts_cons (t_name (i := 1) sc_total_crossings.nd rfl (by first | exact Or.inl rfl | exact Or.inr rfl)) (ts_cons (t_name (i := 2) sc_total_crossings.nd rfl (by first | exact Or.inl rfl | exact Or.inr rfl)) (ts_cons (t_name (i := 3) sc_total_crossings.nd rfl (by first | exact Or.inl rfl | exact Or.inr rfl)) ts_nil)))) (q_v (i := 0)))
    (s_one (s_ret (q_op o_mul (q_op o_sub (q_v (i := 3)) q_int) (q_op o_fdiv (q_op o_mul (q_v (i := 1)) (q_v (i := 2))) (q_v (i := 3))))))))
theorem ok_is_few (T : Tx K mg) {n : Nat} (hh : OkAll P w K mg base T n) : FnOk P w K mg base (L2.CX P w) (4 * n + 3 + 1) T.a_is_few T.d_is_few ["size"] (spOf K mg 1 (callT T.a_total_crossings T.a_total_need T.a_reason T.a_has_bond T.a_can_be_laid T.P_law_right T.P_law (n + 1) 16)) := by
  refine Fun.ok3 (n := 1) T.F_is_few sc_is_few rfl rfl fun cdv A outer s H E hr2 => ?_
  have hr := hr2.mono (Nat.le_add_right (4 * n + 1) 2)
  have hr0 := hr2.mono (Nat.le_add_right (4 * n) 3)
  have hu64 := hr2.units
  have hu65 : (A.deeper (envOfC "is_few" (defScope s_is_few) s.heap.objs.size T.a_is_few cdv)).units + 65 < cLine := by have := hr2.un; omega
  have hu62 : (A.deeper (envOfC "is_few" (defScope s_is_few) s.heap.objs.size T.a_is_few cdv)).units + 62 < cLine := by have := hr2.un; omega
  have hu100 : (A.deeper (envOfC "is_few" (defScope s_is_few) s.heap.objs.size T.a_is_few cdv)).units + 100 < cLine := by have := hr2.un; omega
  have hu1 : (A.deeper (envOfC "is_few" (defScope s_is_few) s.heap.objs.size T.a_is_few cdv)).units + 1 < cLine := by omega
  have tk : Takes (cxOf (L2.CX P w) P w K mg base N_is_few "is_few" (defScope s_is_few) T.a_is_few cdv A outer s H E) (fun cls d _ H => E cls d H) := takes_of rfl rfl rfl rfl
  exact (s_one (s_ret (q_andV (q_call tk hh.can_hold_floor hr0 (by rfl) T.g_can_hold_floor T.F_can_hold_floor.kp T.b_can_hold_floor (q_cons (q_v (i := 0)) q_nil) rfl (kA1_len kA0_len)) (q_one (q_cmp o_gt (q_call tk hh.total_need hr0 (by rfl) T.g_total_need T.F_total_need.kp T.b_total_need (q_cons (q_v (i := 0)) q_nil) rfl (kA1_len kA0_len)) (q_call tk hh.total_crossings hr0 (by rfl) T.g_total_crossings T.F_total_crossings.kp T.b_total_crossings (q_cons (q_v (i := 0)) q_nil) rfl (kA1_len kA0_len)) (nomark _))))))
theorem ok_reason (T : Tx K mg) {n : Nat} (hh : OkAll P w K mg base T n) : FnOk P w K mg base (L2.CX P w) (4 * n + 3 + 1) T.a_reason T.d_reason ["size"] (spOf K mg 1 (callT T.a_total_crossings T.a_total_need T.a_reason T.a_has_bond T.a_can_be_laid T.P_law_right T.P_law (n + 1) 17)) := by
  refine Fun.ok3 (n := 5) T.F_reason sc_reason rfl rfl fun cdv A outer s H E hr2 => ?_
  have hr := hr2.mono (Nat.le_add_right (4 * n + 1) 2)
  have hr0 := hr2.mono (Nat.le_add_right (4 * n) 3)
  have hu64 := hr2.units
  have hu65 : (A.deeper (envOfC "reason" (defScope s_reason) s.heap.objs.size T.a_reason cdv)).units + 65 < cLine := by have := hr2.un; omega
  have hu62 : (A.deeper (envOfC "reason" (defScope s_reason) s.heap.objs.size T.a_reason cdv)).units + 62 < cLine := by have := hr2.un; omega
  have hu100 : (A.deeper (envOfC "reason" (defScope s_reason) s.heap.objs.size T.a_reason cdv)).units + 100 < cLine := by have := hr2.un; omega
  have hu1 : (A.deeper (envOfC "reason" (defScope s_reason) s.heap.objs.size T.a_reason cdv)).units + 1 < cLine := by omega
  have tk : Takes (cxOf (L2.CX P w) P w K mg base N_reason "reason" (defScope s_reason) T.a_reason cdv A outer s H E) (fun cls d _ H => E cls d H) := takes_of rfl rfl rfl rfl
  exact (s_cons (s_if (q_tr (q_call tk hh.has_bond hr0 (by rfl) T.g_has_bond T.F_has_bond.kp T.b_has_bond (q_cons (q_v (i := 0)) q_nil) rfl (kA1_len kA0_len))) (s_one (s_ret q_non)) s_nil)
    (s_cons (s_if (q_tr (q_call tk hh.is_narrow hr0 (by rfl) T.g_is_narrow T.F_is_narrow.kp T.b_is_narrow (q_cons (q_v (i := 0)) q_nil) rfl (kA1_len kA0_len))) (s_one (s_ret (q_tup (q_cons q_str q_nil)))) s_nil)
    (s_cons (s_if (q_tr (q_call tk hh.can_hold_floor hr0 (by rfl) T.g_can_hold_floor T.F_can_hold_floor.kp T.b_can_hold_floor (q_cons (q_v (i := 0)) q_nil) rfl (kA1_len kA0_len))) (s_one (s_ret (q_tup (q_cons q_str q_nil)))) s_nil)
    (s_cons (s_asg (t_tup rfl (ts_cons (t_name (i := 1) sc_reason.nd rfl (by first | exact Or.inl rfl | exact Or.inr rfl)) (ts_cons (t_name (i := 2) sc_reason.nd rfl (by first | exact Or.inl rfl | exact Or.inr rfl)) (ts_cons (t_name (i := 3) sc_reason.nd rfl (by first | exact Or.inl rfl | exact Or.inr rfl)) ts_nil)))) (q_v (i := 0)))
    (s_cons (s_set (i := 4) sc_reason.nd rfl (by first | exact Or.inl rfl | exact Or.inr rfl) (q_callB (f_max rfl) (by rfl) T.m_max bt_max (q_cons (q_op o_mod (q_v (i := 1)) (q_v (i := 3))) (q_cons (q_op o_mod (q_v (i := 2)) (q_v (i := 3))) q_nil))))
    (s_one (s_ret (q_tup (q_cons q_str (q_cons (q_v (i := 4)) (q_cons (q_op o_sub (q_v (i := 4)) q_int) q_nil)))))))))))
theorem ok_weights_differ (T : Tx K mg) {n : Nat} (hh : OkAll P w K mg base T n) : FnOk P w K mg base (L2.CX P w) (4 * n + 3 + 1) T.a_weights_differ T.d_weights_differ ["size", "one", "other"] (spOf K mg 3 (callT T.a_total_crossings T.a_total_need T.a_reason T.a_has_bond T.a_can_be_laid T.P_law_right T.P_law (n + 1) 18)) := by
  refine Fun.ok3 (n := 4) T.F_weights_differ sc_weights_differ rfl rfl fun cdv A outer s H E hr2 => ?_
  have hr := hr2.mono (Nat.le_add_right (4 * n + 1) 2)
  have hr0 := hr2.mono (Nat.le_add_right (4 * n) 3)
  have hu64 := hr2.units
  have hu65 : (A.deeper (envOfC "weights_differ" (defScope s_weights_differ) s.heap.objs.size T.a_weights_differ cdv)).units + 65 < cLine := by have := hr2.un; omega
  have hu62 : (A.deeper (envOfC "weights_differ" (defScope s_weights_differ) s.heap.objs.size T.a_weights_differ cdv)).units + 62 < cLine := by have := hr2.un; omega
  have hu100 : (A.deeper (envOfC "weights_differ" (defScope s_weights_differ) s.heap.objs.size T.a_weights_differ cdv)).units + 100 < cLine := by have := hr2.un; omega
  have hu1 : (A.deeper (envOfC "weights_differ" (defScope s_weights_differ) s.heap.objs.size T.a_weights_differ cdv)).units + 1 < cLine := by omega
  have tk : Takes (cxOf (L2.CX P w) P w K mg base N_weights_differ "weights_differ" (defScope s_weights_differ) T.a_weights_differ cdv A outer s H E) (fun cls d _ H => E cls d H) := takes_of rfl rfl rfl rfl
  exact (s_cons (s_set (i := 3) sc_weights_differ.nd rfl (by first | exact Or.inl rfl | exact Or.inr rfl) (q_ix x_ix (q_v (i := 0)) q_int (fun _ _ => rfl)))
    (s_one (s_ret (q_andV (q_call tk hh.is_index hr0 (by rfl) T.g_is_index T.F_is_index.kp T.b_is_index (q_cons (q_v (i := 1)) (q_cons (q_v (i := 3)) q_nil)) rfl (kA1_len (kA1_len kA0_len))) (q_andV (q_call tk hh.is_index hr0 (by rfl) T.g_is_index T.F_is_index.kp T.b_is_index (q_cons (q_v (i := 2)) (q_cons (q_v (i := 3)) q_nil)) rfl (kA1_len (kA1_len kA0_len))) (q_one (q_cmp (o_ne hu64) (q_call tk hh.weight hr0 (by rfl) T.g_weight T.F_weight.kp T.b_weight (q_cons (q_v (i := 0)) (q_cons (q_v (i := 1)) q_nil)) rfl (kA1_len (kA1_len kA0_len))) (q_call tk hh.weight hr0 (by rfl) T.g_weight T.F_weight.kp T.b_weight (q_cons (q_v (i := 0)) (q_cons (q_v (i := 2)) q_nil)) rfl (kA1_len (kA1_len kA0_len))) (nomark _))))))))
theorem ok_is_reason (T : Tx K mg) {n : Nat} (hh : OkAll P w K mg base T n) : FnOk P w K mg base (L2.CX P w) (4 * n + 3 + 1) T.a_is_reason T.d_is_reason ["size", "value"] (spOf K mg 2 (callT T.a_total_crossings T.a_total_need T.a_reason T.a_has_bond T.a_can_be_laid T.P_law_right T.P_law (n + 1) 19)) := by
  refine Fun.ok3 (n := 2) T.F_is_reason sc_is_reason rfl rfl fun cdv A outer s H E hr2 => ?_
  have hr := hr2.mono (Nat.le_add_right (4 * n + 1) 2)
  have hr0 := hr2.mono (Nat.le_add_right (4 * n) 3)
  have hu64 := hr2.units
  have hu65 : (A.deeper (envOfC "is_reason" (defScope s_is_reason) s.heap.objs.size T.a_is_reason cdv)).units + 65 < cLine := by have := hr2.un; omega
  have hu62 : (A.deeper (envOfC "is_reason" (defScope s_is_reason) s.heap.objs.size T.a_is_reason cdv)).units + 62 < cLine := by have := hr2.un; omega
  have hu100 : (A.deeper (envOfC "is_reason" (defScope s_is_reason) s.heap.objs.size T.a_is_reason cdv)).units + 100 < cLine := by have := hr2.un; omega
  have hu1 : (A.deeper (envOfC "is_reason" (defScope s_is_reason) s.heap.objs.size T.a_is_reason cdv)).units + 1 < cLine := by omega
  have tk : Takes (cxOf (L2.CX P w) P w K mg base N_is_reason "is_reason" (defScope s_is_reason) T.a_is_reason cdv A outer s H E) (fun cls d _ H => E cls d H) := takes_of rfl rfl rfl rfl
  exact (s_cons (s_if (q_tnot (q_tr (q_call tk hh.is_size hr0 (by rfl) T.g_is_size T.F_is_size.kp T.b_is_size (q_cons (q_v (i := 0)) q_nil) rfl (kA1_len kA0_len)))) (s_one (s_raise rfl tk (mk_own PySem.F.excBase_ValueError T.xq_InvalidSize T.g_InvalidSize T.kc_InvalidSize T.se_InvalidSize T.ty_InvalidSize (by rfl)))) s_nil)
    (s_cons (s_if (q_tnot (q_tr (q_isi (by rfl) T.m_isinstance (by rfl) T.m_tuple bt_tuple (q_v (i := 1))))) (s_one (s_ret q_bl)) s_nil)
    (s_cons (s_if (q_tcmp (o_eq hu64) (q_v (i := 1)) (q_tup (q_cons q_str q_nil)) (nomark _)) (s_one (s_ret (q_call tk hh.is_narrow hr0 (by rfl) T.g_is_narrow T.F_is_narrow.kp T.b_is_narrow (q_cons (q_v (i := 0)) q_nil) rfl (kA1_len kA0_len)))) s_nil)
    (s_cons (s_if (q_tcmp (o_eq hu64) (q_v (i := 1)) (q_tup (q_cons q_str q_nil)) (nomark _)) (s_one (s_ret (q_call tk hh.is_few hr0 (by rfl) T.g_is_few T.F_is_few.kp T.b_is_few (q_cons (q_v (i := 0)) q_nil) rfl (kA1_len kA0_len)))) s_nil)
    (s_one (s_ret (q_andV (q_cmp (o_eq hu64) (q_callB f_len (by rfl) T.m_len bt_len (q_cons (q_v (i := 1)) q_nil)) q_int (nomark _)) (q_andV (q_cmp (o_eq hu64) (q_ix x_ix (q_v (i := 1)) q_int (fun _ _ => rfl)) q_str (nomark _)) (q_one (q_call tk hh.weights_differ hr0 (by rfl) T.g_weights_differ T.F_weights_differ.kp T.b_weights_differ (q_cons (q_v (i := 0)) (q_cons (q_ix x_ix (q_v (i := 1)) q_int (fun _ _ => rfl)) (q_cons (q_ix x_ix (q_v (i := 1)) q_int (fun _ _ => rfl)) q_nil))) rfl (kA1_len (kA1_len (kA1_len kA0_len)))))))))))))
theorem ok_law_urn (T : Tx K mg) {n : Nat} (hh : OkAll P w K mg base T n) : FnOk P w K mg base (L2.CX P w) (4 * n + 3 + 1) T.a_law_urn T.d_law_urn ["script", "at"] (spOf K mg 2 (callT T.a_total_crossings T.a_total_need T.a_reason T.a_has_bond T.a_can_be_laid T.P_law_right T.P_law (n + 1) 20)) := by
  refine Fun.ok3 (n := 5) T.F_law_urn sc_law_urn rfl rfl fun cdv A outer s H E hr2 => ?_
  have hr := hr2.mono (Nat.le_add_right (4 * n + 1) 2)
  have hr0 := hr2.mono (Nat.le_add_right (4 * n) 3)
  have hu64 := hr2.units
  have hu65 : (A.deeper (envOfC "_law_urn" (defScope s_law_urn) s.heap.objs.size T.a_law_urn cdv)).units + 65 < cLine := by have := hr2.un; omega
  have hu62 : (A.deeper (envOfC "_law_urn" (defScope s_law_urn) s.heap.objs.size T.a_law_urn cdv)).units + 62 < cLine := by have := hr2.un; omega
  have hu100 : (A.deeper (envOfC "_law_urn" (defScope s_law_urn) s.heap.objs.size T.a_law_urn cdv)).units + 100 < cLine := by have := hr2.un; omega
  have hu1 : (A.deeper (envOfC "_law_urn" (defScope s_law_urn) s.heap.objs.size T.a_law_urn cdv)).units + 1 < cLine := by omega
  have tk : Takes (cxOf (L2.CX P w) P w K mg base N_law_urn "_law_urn" (defScope s_law_urn) T.a_law_urn cdv A outer s H E) (fun cls d _ H => E cls d H) := takes_of rfl rfl rfl rfl
  exact (s_cons (s_set (i := 2) sc_law_urn.nd rfl (by first | exact Or.inl rfl | exact Or.inr rfl) (q_if (q_tcmp o_lt (q_v (i := 1)) (q_callB f_len (by rfl) T.m_len bt_len (q_cons (q_v (i := 0)) q_nil)) (nomark _)) (q_ix x_ix (q_v (i := 0)) (q_v (i := 1)) (fun _ _ => rfl)) (q_op o_add (q_op o_mul q_int (q_v (i := 1))) q_int)))
    (s_cons (s_set (i := 3) sc_law_urn.nd rfl (by first | exact Or.inl rfl | exact Or.inr rfl) (q_op o_mod (q_callTy f_int (by rfl) T.m_int bt_int (q_cons (q_callB f_abs (by rfl) T.m_abs bt_abs (q_cons (q_v (i := 2)) q_nil)) q_nil)) (q_op o_pow (q_op o_pow q_int q_int) q_int)))
    (s_cons (s_set (i := 4) sc_law_urn.nd rfl (by first | exact Or.inl rfl | exact Or.inr rfl) (q_op o_mod (q_callTy f_int (by rfl) T.m_int bt_int (q_cons (q_op o_add (q_op o_add (q_op o_add (q_op o_mul (q_v (i := 3)) q_int) (q_op o_mul q_int (q_v (i := 1)))) (q_op o_mul q_int (q_callTy f_int (by rfl) T.m_int bt_int (q_cons (q_cmp o_lt (q_v (i := 2)) q_int (nomark _)) q_nil)))) q_int) q_nil)) q_int))
    (s_one (s_ret (q_lst (q_cons (q_callB (f_max rfl) (by rfl) T.m_max bt_max (q_cons q_int (q_cons (q_op o_sub (q_v (i := 3)) (q_op o_pow q_int q_int)) q_nil))) (q_cons (q_v (i := 4)) (q_cons q_int q_nil)))))))))
theorem ok_law_take (T : Tx K mg) {n : Nat} (hh : OkAll P w K mg base T n) : FnOk P w K mg base (L2.CX P w) (4 * n + 3 + 1) T.a_law_take T.d_law_take ["urn", "total"] (spOf K mg 2 (callT T.a_total_crossings T.a_total_need T.a_reason T.a_has_bond T.a_can_be_laid T.P_law_right T.P_law (n + 1) 21)) := by
  refine Fun.ok3 (n := 6) T.F_law_take sc_law_take rfl rfl fun cdv A outer s H E hr2 => ?_
  have hr := hr2.mono (Nat.le_add_right (4 * n + 1) 2)
  have hr0 := hr2.mono (Nat.le_add_right (4 * n) 3)
  have hu64 := hr2.units
  have hu65 : (A.deeper (envOfC "_law_take" (defScope s_law_take) s.heap.objs.size T.a_law_take cdv)).units + 65 < cLine := by have := hr2.un; omega
  have hu62 : (A.deeper (envOfC "_law_take" (defScope s_law_take) s.heap.objs.size T.a_law_take cdv)).units + 62 < cLine := by have := hr2.un; omega
  have hu100 : (A.deeper (envOfC "_law_take" (defScope s_law_take) s.heap.objs.size T.a_law_take cdv)).units + 100 < cLine := by have := hr2.un; omega
  have hu1 : (A.deeper (envOfC "_law_take" (defScope s_law_take) s.heap.objs.size T.a_law_take cdv)).units + 1 < cLine := by omega
  have tk : Takes (cxOf (L2.CX P w) P w K mg base N_law_take "_law_take" (defScope s_law_take) T.a_law_take cdv A outer s H E) (fun cls d _ H => E cls d H) := takes_of rfl rfl rfl rfl
  exact (s_cons (s_if (q_tcmp o_gt (q_ix x_ix (q_v (i := 0)) q_int (fun _ _ => rfl)) q_int (nomark _)) (s_cons (s_set (i := 5) sc_law_take.nd rfl (by first | exact Or.inl rfl | exact Or.inr rfl) (q_op o_mod (q_callTy f_int (by rfl) T.m_int bt_int (q_cons (q_ix x_ix (q_v (i := 0)) q_int (fun _ _ => rfl)) q_nil)) (q_v (i := 1))))
    (s_cons (s_setix set_list setL_ok (q_v (i := 0)) q_int (q_op o_fdiv (q_ix x_ix (q_v (i := 0)) q_int (fun _ _ => rfl)) (q_v (i := 1))))
    (s_one (s_ret (q_v (i := 5)))))) s_nil)
    (s_cons (s_setix set_list setL_ok (q_v (i := 0)) q_int (q_op o_add (q_ix x_ix (q_v (i := 0)) q_int (fun _ _ => rfl)) q_int))
    (s_cons (s_set (i := 2) sc_law_take.nd rfl (by first | exact Or.inl rfl | exact Or.inr rfl) (q_op o_mod (q_callTy f_int (by rfl) T.m_int bt_int (q_cons (q_op o_add (q_ix x_ix (q_v (i := 0)) q_int (fun _ _ => rfl)) (q_op o_mul q_int (q_ix x_ix (q_v (i := 0)) q_int (fun _ _ => rfl)))) q_nil)) q_int))
    (s_cons (s_set (i := 3) sc_law_take.nd rfl (by first | exact Or.inl rfl | exact Or.inr rfl) (q_op o_mod (q_callTy f_int (by rfl) T.m_int bt_int (q_cons (q_op o_add (q_op o_mul (q_v (i := 2)) (q_v (i := 2))) (q_op o_mul q_int (q_ix x_ix (q_v (i := 0)) q_int (fun _ _ => rfl)))) q_nil)) q_int))
    (s_cons (s_set (i := 4) sc_law_take.nd rfl (by first | exact Or.inl rfl | exact Or.inr rfl) (q_op o_mod (q_callTy f_int (by rfl) T.m_int bt_int (q_cons (q_op o_add (q_op o_mul (q_v (i := 3)) (q_v (i := 3))) (q_v (i := 2))) q_nil)) q_int))
    (s_one (s_ret (q_op o_mod (q_callTy f_int (by rfl) T.m_int bt_int (q_cons (q_op o_fdiv (q_v (i := 4)) q_int) q_nil)) (q_v (i := 1))))))))))
theorem ok_law_one (T : Tx K mg) {n : Nat} (hh : OkAll P w K mg base T n) : FnOk P w K mg base (L2.CX P w) (4 * n + 3 + 1) T.a_law_one T.d_law_one ["urn", "items"] (spOf K mg 2 (callT T.a_total_crossings T.a_total_need T.a_reason T.a_has_bond T.a_can_be_laid T.P_law_right T.P_law (n + 1) 22)) := by
  refine Fun.ok3 (n := 2) T.F_law_one sc_law_one rfl rfl fun cdv A outer s H E hr2 => ?_
  have hr := hr2.mono (Nat.le_add_right (4 * n + 1) 2)
  have hr0 := hr2.mono (Nat.le_add_right (4 * n) 3)
  have hu64 := hr2.units
  have hu65 : (A.deeper (envOfC "_law_one" (defScope s_law_one) s.heap.objs.size T.a_law_one cdv)).units + 65 < cLine := by have := hr2.un; omega
  have hu62 : (A.deeper (envOfC "_law_one" (defScope s_law_one) s.heap.objs.size T.a_law_one cdv)).units + 62 < cLine := by have := hr2.un; omega
  have hu100 : (A.deeper (envOfC "_law_one" (defScope s_law_one) s.heap.objs.size T.a_law_one cdv)).units + 100 < cLine := by have := hr2.un; omega
  have hu1 : (A.deeper (envOfC "_law_one" (defScope s_law_one) s.heap.objs.size T.a_law_one cdv)).units + 1 < cLine := by omega
  have tk : Takes (cxOf (L2.CX P w) P w K mg base N_law_one "_law_one" (defScope s_law_one) T.a_law_one cdv A outer s H E) (fun cls d _ H => E cls d H) := takes_of rfl rfl rfl rfl
  exact (s_one (s_ret (q_ix x_ix (q_v (i := 1)) (q_call tk hh.law_take hr0 (by rfl) T.g_law_take T.F_law_take.kp T.b_law_take (q_cons (q_v (i := 0)) (q_cons (q_callB f_len (by rfl) T.m_len bt_len (q_cons (q_v (i := 1)) q_nil)) q_nil)) rfl (kA1_len (kA1_len kA0_len))) (fun _ _ => rfl))))
theorem ok_law_is_laid (T : Tx K mg) {n : Nat} (hh : OkAll P w K mg base T n) : FnOk P w K mg base (L2.CX P w) (4 * n + 3 + 1) T.a_law_is_laid T.d_law_is_laid ["size"] (spOf K mg 1 (callT T.a_total_crossings T.a_total_need T.a_reason T.a_has_bond T.a_can_be_laid T.P_law_right T.P_law (n + 1) 23)) := by
  refine Fun.ok3 (n := 1) T.F_law_is_laid sc_law_is_laid rfl rfl fun cdv A outer s H E hr2 => ?_
  have hr := hr2.mono (Nat.le_add_right (4 * n + 1) 2)
  have hr0 := hr2.mono (Nat.le_add_right (4 * n) 3)
  have hu64 := hr2.units
  have hu65 : (A.deeper (envOfC "_law_is_laid" (defScope s_law_is_laid) s.heap.objs.size T.a_law_is_laid cdv)).units + 65 < cLine := by have := hr2.un; omega
  have hu62 : (A.deeper (envOfC "_law_is_laid" (defScope s_law_is_laid) s.heap.objs.size T.a_law_is_laid cdv)).units + 62 < cLine := by have := hr2.un; omega
  have hu100 : (A.deeper (envOfC "_law_is_laid" (defScope s_law_is_laid) s.heap.objs.size T.a_law_is_laid cdv)).units + 100 < cLine := by have := hr2.un; omega
  have hu1 : (A.deeper (envOfC "_law_is_laid" (defScope s_law_is_laid) s.heap.objs.size T.a_law_is_laid cdv)).units + 1 < cLine := by omega
  have tk : Takes (cxOf (L2.CX P w) P w K mg base N_law_is_laid "_law_is_laid" (defScope s_law_is_laid) T.a_law_is_laid cdv A outer s H E) (fun cls d _ H => E cls d H) := takes_of rfl rfl rfl rfl
  exact (s_one (s_ret (q_orV (q_cmp (o_eq hu64) (q_op o_mod (q_ix x_ix (q_v (i := 0)) q_int (fun _ _ => rfl)) (q_ix x_ix (q_v (i := 0)) q_int (fun _ _ => rfl))) q_int (nomark _)) (q_one (q_cmp (o_eq hu64) (q_op o_mod (q_ix x_ix (q_v (i := 0)) q_int (fun _ _ => rfl)) (q_ix x_ix (q_v (i := 0)) q_int (fun _ _ => rfl))) q_int (nomark _))))))
theorem ok_law_small (T : Tx K mg) {n : Nat} (hh : OkAll P w K mg base T n) : FnOk P w K mg base (L2.CX P w) (4 * n + 3 + 1) T.a_law_small T.d_law_small ["urn", "cells"] (spOf K mg 2 (callT T.a_total_crossings T.a_total_need T.a_reason T.a_has_bond T.a_can_be_laid T.P_law_right T.P_law (n + 1) 24)) := by
  refine Fun.ok3 (n := 5) T.F_law_small sc_law_small rfl rfl fun cdv A outer s H E hr2 => ?_
  have hr := hr2.mono (Nat.le_add_right (4 * n + 1) 2)
  have hr0 := hr2.mono (Nat.le_add_right (4 * n) 3)
  have hu64 := hr2.units
  have hu65 : (A.deeper (envOfC "_law_small" (defScope s_law_small) s.heap.objs.size T.a_law_small cdv)).units + 65 < cLine := by have := hr2.un; omega
  have hu62 : (A.deeper (envOfC "_law_small" (defScope s_law_small) s.heap.objs.size T.a_law_small cdv)).units + 62 < cLine := by have := hr2.un; omega
  have hu100 : (A.deeper (envOfC "_law_small" (defScope s_law_small) s.heap.objs.size T.a_law_small cdv)).units + 100 < cLine := by have := hr2.un; omega
  have hu1 : (A.deeper (envOfC "_law_small" (defScope s_law_small) s.heap.objs.size T.a_law_small cdv)).units + 1 < cLine := by omega
  have tk : Takes (cxOf (L2.CX P w) P w K mg base N_law_small "_law_small" (defScope s_law_small) T.a_law_small cdv A outer s H E) (fun cls d _ H => E cls d H) := takes_of rfl rfl rfl rfl
  exact (s_cons (s_set (i := 2) sc_law_small.nd rfl (by first | exact Or.inl rfl | exact Or.inr rfl) (q_call tk hh.law_one hr0 (by rfl) T.g_law_one T.F_law_one.kp T.b_law_one (q_cons (q_v (i := 0)) (q_cons (q_frz (q_cons q_int (q_cons q_int (q_cons q_int (q_cons q_int (q_cons q_int (q_cons q_int (q_cons q_int q_nil)))))))) q_nil)) rfl (kA1_len (kA1_len kA0_len))))
    (s_cons (s_set (i := 3) sc_law_small.nd rfl (by first | exact Or.inl rfl | exact Or.inr rfl) (q_op o_add q_int (q_call tk hh.law_take hr0 (by rfl) T.g_law_take T.F_law_take.kp T.b_law_take (q_cons (q_v (i := 0)) (q_cons (q_op o_add (q_op o_mul q_int (q_v (i := 2))) q_int) q_nil)) rfl (kA1_len (kA1_len kA0_len)))))
    (s_cons (s_if (q_tcmp o_gt (q_call tk hh.law_take hr0 (by rfl) T.g_law_take T.F_law_take.kp T.b_law_take (q_cons (q_v (i := 0)) (q_cons q_int q_nil)) rfl (kA1_len (kA1_len kA0_len))) q_int (nomark _)) (s_one (s_set (i := 3) sc_law_small.nd rfl (by first | exact Or.inl rfl | exact Or.inr rfl) (q_op o_mul (q_v (i := 2)) (q_op o_add q_int (q_call tk hh.law_take hr0 (by rfl) T.g_law_take T.F_law_take.kp T.b_law_take (q_cons (q_v (i := 0)) (q_cons q_int q_nil)) rfl (kA1_len (kA1_len kA0_len))))))) s_nil)
    (s_cons (s_set (i := 3) sc_law_small.nd rfl (by first | exact Or.inl rfl | exact Or.inr rfl) (q_callB (f_min rfl) (by rfl) T.m_min bt_min (q_cons (q_v (i := 3)) (q_cons (q_v (i := 1)) q_nil))))
    (s_cons (s_set (i := 4) sc_law_small.nd rfl (by first | exact Or.inl rfl | exact Or.inr rfl) (q_op o_add q_int (q_call tk hh.law_take hr0 (by rfl) T.g_law_take T.F_law_take.kp T.b_law_take (q_cons (q_v (i := 0)) (q_cons (q_callB (f_max rfl) (by rfl) T.m_max bt_max (q_cons q_int (q_cons (q_callB (f_min rfl) (by rfl) T.m_min bt_min (q_cons (q_op o_add (q_op o_mul q_int (q_v (i := 2))) q_int) (q_cons (q_op o_fdiv (q_v (i := 1)) (q_v (i := 3))) q_nil))) q_nil))) q_nil)) rfl (kA1_len (kA1_len kA0_len)))))
    (s_one (s_ret (q_if (q_tcmp (o_eq hu64) (q_call tk hh.law_take hr0 (by rfl) T.g_law_take T.F_law_take.kp T.b_law_take (q_cons (q_v (i := 0)) (q_cons q_int q_nil)) rfl (kA1_len (kA1_len kA0_len))) q_int (nomark _)) (q_tup (q_cons (q_v (i := 3)) (q_cons (q_v (i := 4)) (q_cons (q_v (i := 2)) q_nil)))) (q_tup (q_cons (q_v (i := 4)) (q_cons (q_v (i := 3)) (q_cons (q_v (i := 2)) q_nil))))))))))))
theorem ok_law_great (T : Tx K mg) {n : Nat} (hh : OkAll P w K mg base T n) : FnOk P w K mg base (L2.CX P w) (4 * n + 3 + 1) T.a_law_great T.d_law_great ["urn"] (spOf K mg 1 (callT T.a_total_crossings T.a_total_need T.a_reason T.a_has_bond T.a_can_be_laid T.P_law_right T.P_law (n + 1) 25)) := by
  refine Fun.ok3 (n := 7) T.F_law_great sc_law_great rfl rfl fun cdv A outer s H E hr2 => ?_
  have hr := hr2.mono (Nat.le_add_right (4 * n + 1) 2)
  have hr0 := hr2.mono (Nat.le_add_right (4 * n) 3)
  have hu64 := hr2.units
  have hu65 : (A.deeper (envOfC "_law_great" (defScope s_law_great) s.heap.objs.size T.a_law_great cdv)).units + 65 < cLine := by have := hr2.un; omega
  have hu62 : (A.deeper (envOfC "_law_great" (defScope s_law_great) s.heap.objs.size T.a_law_great cdv)).units + 62 < cLine := by have := hr2.un; omega
  have hu100 : (A.deeper (envOfC "_law_great" (defScope s_law_great) s.heap.objs.size T.a_law_great cdv)).units + 100 < cLine := by have := hr2.un; omega
  have hu1 : (A.deeper (envOfC "_law_great" (defScope s_law_great) s.heap.objs.size T.a_law_great cdv)).units + 1 < cLine := by omega
  have tk : Takes (cxOf (L2.CX P w) P w K mg base N_law_great "_law_great" (defScope s_law_great) T.a_law_great cdv A outer s H E) (fun cls d _ H => E cls d H) := takes_of rfl rfl rfl rfl
  exact (s_cons (s_set (i := 1) sc_law_great.nd rfl (by first | exact Or.inl rfl | exact Or.inr rfl) (q_call tk hh.law_one hr0 (by rfl) T.g_law_one T.F_law_one.kp T.b_law_one (q_cons (q_v (i := 0)) (q_cons (q_frz (q_cons q_int (q_cons q_int (q_cons q_int (q_cons q_int (q_cons q_int (q_cons q_int (q_cons q_int (q_cons q_int (q_cons (q_op o_add (q_op o_pow q_int q_int) q_int) (q_cons (q_op o_pow q_int q_int) (q_cons (q_op o_add (q_op o_pow q_int q_int) q_int) q_nil)))))))))))) q_nil)) rfl (kA1_len (kA1_len kA0_len))))
    (s_cons (s_set (i := 2) sc_law_great.nd rfl (by first | exact Or.inl rfl | exact Or.inr rfl) (q_op o_fdiv (q_op o_pow q_int q_int) (q_v (i := 1))))
    (s_cons (s_set (i := 3) sc_law_great.nd rfl (by first | exact Or.inl rfl | exact Or.inr rfl) (q_lst q_nil))
    (s_cons (s_for (passes_of rfl) rfl (i_rng1 (by rfl) T.m_range (q_cons q_int q_nil)) (t_name (i := 4) sc_law_great.nd rfl (by first | exact Or.inl rfl | exact Or.inr rfl)) (s_cons (s_set (i := 5) sc_law_great.nd rfl (by first | exact Or.inl rfl | exact Or.inr rfl) (q_call tk hh.law_one hr0 (by rfl) T.g_law_one T.F_law_one.kp T.b_law_one (q_cons (q_v (i := 0)) (q_cons (q_frz (q_cons q_int (q_cons q_int (q_cons q_int (q_cons q_int (q_cons (q_op o_pow q_int q_int) (q_cons (q_op o_sub (q_v (i := 2)) q_int) (q_cons (q_op o_fdiv (q_v (i := 2)) q_int) q_nil)))))))) q_nil)) rfl (kA1_len (kA1_len kA0_len))))
    (s_cons (s_set (i := 6) sc_law_great.nd rfl (by first | exact Or.inl rfl | exact Or.inr rfl) (q_call tk hh.law_one hr0 (by rfl) T.g_law_one T.F_law_one.kp T.b_law_one (q_cons (q_v (i := 0)) (q_cons (q_frz (q_cons q_int (q_cons q_int (q_cons q_int (q_cons (q_op o_sub (q_v (i := 1)) q_int) (q_cons (q_op o_fdiv (q_v (i := 1)) q_int) q_nil)))))) q_nil)) rfl (kA1_len (kA1_len kA0_len))))
    (s_one (s_expr (q_bm PySem.F.plainAttrs_list PySem.F.slot_list_append PySem.F.type_list_append m_append (q_v (i := 3)) (q_cons (q_callB (f_max rfl) (by rfl) T.m_max bt_max (q_cons q_int (q_cons (q_callB (f_min rfl) (by rfl) T.m_min bt_min (q_cons (q_op o_pow q_int q_int) (q_cons (q_op o_add (q_op o_mul (q_callB (f_min rfl) (by rfl) T.m_min bt_min (q_cons (q_v (i := 5)) (q_cons (q_v (i := 2)) q_nil))) (q_v (i := 1))) (q_v (i := 6))) q_nil))) q_nil))) q_nil)))))))
    (s_one (s_ret (q_tup (q_cons (q_ix x_ix (q_v (i := 3)) q_int (fun _ _ => rfl)) (q_cons (q_ix x_ix (q_v (i := 3)) q_int (fun _ _ => rfl)) (q_cons (q_v (i := 1)) q_nil))))))))))
theorem ok_law_no_size (T : Tx K mg) {n : Nat} (hh : OkAll P w K mg base T n) : FnOk P w K mg base (L2.CX P w) (4 * n + 3 + 1) T.a_law_no_size T.d_law_no_size ["urn"] (spOf K mg 1 (callT T.a_total_crossings T.a_total_need T.a_reason T.a_has_bond T.a_can_be_laid T.P_law_right T.P_law (n + 1) 26)) := by
  refine Fun.ok3 (n := 2) T.F_law_no_size sc_law_no_size rfl rfl fun cdv A outer s H E hr2 => ?_
  have hr := hr2.mono (Nat.le_add_right (4 * n + 1) 2)
  have hr0 := hr2.mono (Nat.le_add_right (4 * n) 3)
  have hu64 := hr2.units
  have hu65 : (A.deeper (envOfC "_law_no_size" (defScope s_law_no_size) s.heap.objs.size T.a_law_no_size cdv)).units + 65 < cLine := by have := hr2.un; omega
  have hu62 : (A.deeper (envOfC "_law_no_size" (defScope s_law_no_size) s.heap.objs.size T.a_law_no_size cdv)).units + 62 < cLine := by have := hr2.un; omega
  have hu100 : (A.deeper (envOfC "_law_no_size" (defScope s_law_no_size) s.heap.objs.size T.a_law_no_size cdv)).units + 100 < cLine := by have := hr2.un; omega
  have hu1 : (A.deeper (envOfC "_law_no_size" (defScope s_law_no_size) s.heap.objs.size T.a_law_no_size cdv)).units + 1 < cLine := by omega
  have tk : Takes (cxOf (L2.CX P w) P w K mg base N_law_no_size "_law_no_size" (defScope s_law_no_size) T.a_law_no_size cdv A outer s H E) (fun cls d _ H => E cls d H) := takes_of rfl rfl rfl rfl
  exact (s_cons (s_set (i := 1) sc_law_no_size.nd rfl (by first | exact Or.inl rfl | exact Or.inr rfl) (q_frz (q_cons q_non (q_cons q_int (q_cons (q_tup q_nil) (q_cons (q_tup (q_cons q_int (q_cons q_int q_nil))) (q_cons (q_tup (q_cons q_int (q_cons q_int (q_cons q_int (q_cons q_int q_nil))))) (q_cons (q_frz (q_cons q_int (q_cons q_int (q_cons q_int q_nil)))) (q_cons (q_tup (q_cons q_int (q_cons q_int (q_cons q_int q_nil)))) (q_cons (q_tup (q_cons q_int (q_cons q_int (q_cons q_int q_nil)))) (q_cons (q_tup (q_cons q_int (q_cons q_int (q_cons q_int q_nil)))) (q_cons (q_tup (q_cons q_int (q_cons q_int (q_cons q_int q_nil)))) (q_cons (q_tup (q_cons (q_un o_neg q_int) (q_cons q_int (q_cons q_int q_nil)))) (q_cons q_str q_nil))))))))))))))
    (s_cons (s_set (i := 1) sc_law_no_size.nd rfl (by first | exact Or.inl rfl | exact Or.inr rfl) (q_op o_addZ (q_v (i := 1)) (q_frz (q_cons (q_tup (q_cons q_bl (q_cons q_int (q_cons q_int q_nil)))) (q_cons (q_tup (q_cons q_int (q_cons q_bl (q_cons q_int q_nil)))) (q_cons (q_tup (q_cons q_int (q_cons q_int (q_cons q_bl q_nil)))) (q_cons (q_tup (q_cons (q_op o_add (q_op o_pow q_int q_int) q_int) (q_cons q_int (q_cons q_int q_nil)))) (q_cons (q_tup (q_cons q_int (q_cons (q_op o_add (q_op o_pow q_int q_int) q_int) (q_cons q_int q_nil)))) (q_cons q_dE1 q_nil)))))))))
    (s_one (s_ret (q_call tk hh.law_one hr0 (by rfl) T.g_law_one T.F_law_one.kp T.b_law_one (q_cons (q_v (i := 0)) (q_cons (q_op o_addZ (q_v (i := 1)) (q_frz (q_cons (q_tup (q_cons q_int (q_cons q_int (q_cons (q_op o_add (q_op o_pow q_int q_int) q_int) q_nil)))) (q_cons (q_tup (q_cons q_str (q_cons q_int (q_cons q_int q_nil)))) (q_cons (q_tup (q_cons q_int (q_cons q_non (q_cons q_int q_nil)))) (q_cons (q_tup (q_cons (q_tup (q_cons q_int q_nil)) (q_cons q_int (q_cons q_int q_nil)))) (q_cons q_bl (q_cons (q_tup (q_cons q_int (q_cons q_int (q_cons (q_frz (q_cons q_int q_nil)) q_nil)))) q_nil)))))))) q_nil)) rfl (kA1_len (kA1_len kA0_len)))))))
theorem ok_law_right (T : Tx K mg) {n : Nat} (hh : OkAll P w K mg base T n) (tb : LamX.TabB base mg T.c_law_right T.P_law_right) : PrG P w K mg base (4 * n + 3 + 1) T.a_law_right (callT T.a_total_crossings T.a_total_need T.a_reason T.a_has_bond T.a_can_be_laid T.P_law_right T.P_law (n + 1) 27) := by
  refine FunC.okG (n := 7) T.F_law_right T.b_law_right sc_law_right rfl rfl fun A outer s H E hgd hr2 => ?_
  have hr := hr2.mono (Nat.le_add_right (4 * n + 1) 2)
  have hr0 := hr2.mono (Nat.le_add_right (4 * n) 3)
  have hu64 := hr2.units
  have hu65 : (A.deeper (envOfC "_law_right" (defScope s_law_right) s.heap.objs.size T.a_law_right (.ref T.c_law_right))).units + 65 < cLine := by have := hr2.un; omega
  have hu62 : (A.deeper (envOfC "_law_right" (defScope s_law_right) s.heap.objs.size T.a_law_right (.ref T.c_law_right))).units + 62 < cLine := by have := hr2.un; omega
  have hu100 : (A.deeper (envOfC "_law_right" (defScope s_law_right) s.heap.objs.size T.a_law_right (.ref T.c_law_right))).units + 100 < cLine := by have := hr2.un; omega
  have hu1 : (A.deeper (envOfC "_law_right" (defScope s_law_right) s.heap.objs.size T.a_law_right (.ref T.c_law_right))).units + 1 < cLine := by omega
  have tk : Takes (cxOf (L2.CX P w) P w K mg base N_law_right "_law_right" (defScope s_law_right) T.a_law_right (.ref T.c_law_right) A outer s H E) (fun cls d _ H => E cls d H) := takes_of rfl rfl rfl rfl
  exact (s_cons (s_asg (t_tup rfl (ts_cons (t_name (i := 1) sc_law_right.nd rfl (by first | exact Or.inl rfl | exact Or.inr rfl)) (ts_cons (t_name (i := 2) sc_law_right.nd rfl (by first | exact Or.inl rfl | exact Or.inr rfl)) ts_nil))) (q_tup (q_cons (q_call tk hh.law_no_size hr0 (by rfl) T.g_law_no_size T.F_law_no_size.kp T.b_law_no_size (q_cons (q_v (i := 0)) q_nil) rfl (kA1_len kA0_len)) (q_cons (q_call tk hh.law_one hr0 (by rfl) T.g_law_one T.F_law_one.kp T.b_law_one (q_cons (q_v (i := 0)) (q_cons (q_frz (q_cons q_non (q_cons (q_un o_neg q_int) (q_cons q_str (q_cons q_bl (q_cons (q_tup (q_cons q_int q_nil)) (q_cons (q_frz q_nil) (q_cons q_dE0 (q_cons (q_op o_pow q_int q_int) (q_cons q_bl q_nil)))))))))) q_nil)) rfl (kA1_len (kA1_len kA0_len))) q_nil))))
    (s_cons (s_for (passes_of rfl) rfl (i_list (q_frz (q_cons (q_fn (by rfl) T.g_can_be_laid) (q_cons (q_fn (by rfl) T.g_has_bond) (q_cons (q_fn (by rfl) T.g_reason) (q_cons (q_fn (by rfl) T.g_total_need) (q_cons (q_fn (by rfl) T.g_total_crossings) q_nil))))))) (t_name (i := 3) sc_law_right.nd rfl (by first | exact Or.inl rfl | exact Or.inr rfl)) (s_one (s_if (q_tcmp (o_ne hu64) (q_met (k := 4 * n + 1) (by rfl) T.g_law_met T.F_law_met T.b_law_met sc_law_met rfl (by first | exact Or.inl rfl | exact Or.inr (Or.inl rfl)) (gv_law_met T hgd hu100) tb rfl hr2 (LamX.lamS_by (sc := defScope s_law_right) (by decide +kernel)) rfl (fun _ _ _ _ _ => rfl) (fun A outer s H E f c hrL => (by have hr0L := hrL.mono (Nat.le_succ (4 * n)); exact (fun tkL => (q_callV (.cons (pr_callS (pr_of hh.can_be_laid T.b_can_be_laid (sh_can_be_laid _)) hr0L tkL) T.F_can_be_laid.kp (.cons (pr_callS (pr_of hh.has_bond T.b_has_bond (sh_has_bond _)) hr0L tkL) T.F_has_bond.kp (.cons (pr_callS (pr_of hh.reason T.b_reason (sh_reason _)) hr0L tkL) T.F_reason.kp (.cons (pr_callS (pr_of hh.total_need T.b_total_need (sh_total_need _)) hr0L tkL) T.F_total_need.kp (.cons (pr_callS (pr_of hh.total_crossings T.b_total_crossings (sh_total_crossings _)) hr0L tkL) T.F_total_crossings.kp .nil))))) (q_cons (q_v (i := 1)) q_nil))) (takes_of rfl rfl rfl rfl)))) q_str (nomark _)) (s_one (s_ret q_bl)) s_nil)))
    (s_cons (s_set (i := 4) sc_law_right.nd rfl (by first | exact Or.inl rfl | exact Or.inr rfl) (q_lst (q_cons (q_met (k := 4 * n + 1) (by rfl) T.g_law_met T.F_law_met T.b_law_met sc_law_met rfl (by first | exact Or.inl rfl | exact Or.inr (Or.inl rfl)) (gv_law_met T hgd hu100) tb rfl hr2 (LamX.lamS_by (sc := defScope s_law_right) (by decide +kernel)) rfl (fun _ _ _ _ _ => rfl) (fun A outer s H E f c hrL => (by have hr0L := hrL.mono (Nat.le_succ (4 * n)); exact (fun tkL => (q_call tkL hh.is_reason hr0L (by rfl) T.g_is_reason T.F_is_reason.kp T.b_is_reason (q_cons (q_v (i := 1)) (q_cons (q_v (i := 2)) q_nil)) rfl (kA1_len (kA1_len kA0_len)))) (takes_of rfl rfl rfl rfl)))) q_nil)))
    (s_cons (s_expr (q_bm PySem.F.plainAttrs_list PySem.F.slot_list_append PySem.F.type_list_append m_append (q_v (i := 4)) (q_cons (q_met (k := 4 * n + 1) (by rfl) T.g_law_met T.F_law_met T.b_law_met sc_law_met rfl (by first | exact Or.inl rfl | exact Or.inr (Or.inl rfl)) (gv_law_met T hgd hu100) tb rfl hr2 (LamX.lamS_by (sc := defScope s_law_right) (by decide +kernel)) rfl (fun _ _ _ _ _ => rfl) (fun A outer s H E f c hrL => (by have hr0L := hrL.mono (Nat.le_succ (4 * n)); exact (fun tkL => (q_call tkL hh.weight hr0L (by rfl) T.g_weight T.F_weight.kp T.b_weight (q_cons (q_v (i := 1)) (q_cons (q_v (i := 2)) q_nil)) rfl (kA1_len (kA1_len kA0_len)))) (takes_of rfl rfl rfl rfl)))) q_nil)))
    (s_cons (s_set (i := 5) sc_law_right.nd rfl (by first | exact Or.inl rfl | exact Or.inr rfl) (q_call tk hh.law_one hr0 (by rfl) T.g_law_one T.F_law_one.kp T.b_law_one (q_cons (q_v (i := 0)) (q_cons (q_frz (q_cons (q_call tk hh.law_small hr0 (by rfl) T.g_law_small T.F_law_small.kp T.b_law_small (q_cons (q_v (i := 0)) (q_cons q_int q_nil)) rfl (kA1_len (kA1_len kA0_len))) (q_cons (q_call tk hh.law_great hr0 (by rfl) T.g_law_great T.F_law_great.kp T.b_law_great (q_cons (q_v (i := 0)) q_nil) rfl (kA1_len kA0_len)) q_nil))) q_nil)) rfl (kA1_len (kA1_len kA0_len))))
    (s_cons (s_expr (q_bm PySem.F.plainAttrs_list PySem.F.slot_list_append PySem.F.type_list_append m_append (q_v (i := 4)) (q_cons (q_met (k := 4 * n + 1) (by rfl) T.g_law_met T.F_law_met T.b_law_met sc_law_met rfl (by first | exact Or.inl rfl | exact Or.inr (Or.inl rfl)) (gv_law_met T hgd hu100) tb rfl hr2 (LamX.lamS_by (sc := defScope s_law_right) (by decide +kernel)) rfl (fun _ _ _ _ _ => rfl) (fun A outer s H E f c hrL => (by have hr0L := hrL.mono (Nat.le_succ (4 * n)); exact (fun tkL => (q_call tkL hh.weight hr0L (by rfl) T.g_weight T.F_weight.kp T.b_weight (q_cons (q_v (i := 5)) (q_cons (q_v (i := 2)) q_nil)) rfl (kA1_len (kA1_len kA0_len)))) (takes_of rfl rfl rfl rfl)))) q_nil)))
    (s_cons (s_expr (q_bm PySem.F.plainAttrs_list PySem.F.slot_list_append PySem.F.type_list_append m_append (q_v (i := 4)) (q_cons (q_met (k := 4 * n + 1) (by rfl) T.g_law_met T.F_law_met T.b_law_met sc_law_met rfl (by first | exact Or.inl rfl | exact Or.inr (Or.inl rfl)) (gv_law_met T hgd hu100) tb rfl hr2 (LamX.lamS_by (sc := defScope s_law_right) (by decide +kernel)) rfl (fun _ _ _ _ _ => rfl) (fun A outer s H E f c hrL => (by have hr0L := hrL.mono (Nat.le_succ (4 * n)); exact (fun tkL => (q_call tkL hh.weight hr0L (by rfl) T.g_weight T.F_weight.kp T.b_weight (q_cons (q_v (i := 5)) (q_cons (q_ix x_ix (q_v (i := 5)) q_int (fun _ _ => rfl)) q_nil)) rfl (kA1_len (kA1_len kA0_len)))) (takes_of rfl rfl rfl rfl)))) q_nil)))
    (s_cons (s_if (q_tcmp (o_ne hu64) (q_v (i := 4)) (q_frz (q_cons q_str (q_cons q_str (q_cons (q_op o_add q_str (q_callB (f_reprG hgd hu62) (by rfl) T.m_repr bt_repr (q_cons (q_v (i := 2)) q_nil))) (q_cons (q_op o_add q_str (q_callB (f_reprG hgd hu62) (by rfl) T.m_repr bt_repr (q_cons (q_ix x_ix (q_v (i := 5)) q_int (fun _ _ => rfl)) q_nil))) q_nil))))) (nomark _)) (s_one (s_ret q_bl)) s_nil)
    (s_cons (s_set (i := 6) sc_law_right.nd rfl (by first | exact Or.inl rfl | exact Or.inr rfl) (q_if (q_tr (q_call tk hh.law_is_laid hr0 (by rfl) T.g_law_is_laid T.F_law_is_laid.kp T.b_law_is_laid (q_cons (q_v (i := 5)) q_nil) rfl (kA1_len kA0_len))) q_str (q_op o_add q_str (q_callB (f_reprG hgd hu62) (by rfl) T.m_repr bt_repr (q_cons (q_v (i := 5)) q_nil)))))
    (s_cons (s_for (passes_of rfl) rfl (i_list (q_frz (q_cons (q_fn (by rfl) T.g_total_need) (q_cons (q_fn (by rfl) T.g_total_crossings) q_nil)))) (t_name (i := 3) sc_law_right.nd rfl (by first | exact Or.inl rfl | exact Or.inr rfl)) (s_one (s_if (q_tcmp (o_ne hu64) (q_met (k := 4 * n + 1) (by rfl) T.g_law_met T.F_law_met T.b_law_met sc_law_met rfl (by first | exact Or.inl rfl | exact Or.inr (Or.inl rfl)) (gv_law_met T hgd hu100) tb rfl hr2 (LamX.lamS_by (sc := defScope s_law_right) (by decide +kernel)) rfl (fun _ _ _ _ _ => rfl) (fun A outer s H E f c hrL => (by have hr0L := hrL.mono (Nat.le_succ (4 * n)); exact (fun tkL => (q_callV (.cons (pr_callS (pr_of hh.can_be_laid T.b_can_be_laid (sh_can_be_laid _)) hr0L tkL) T.F_can_be_laid.kp (.cons (pr_callS (pr_of hh.has_bond T.b_has_bond (sh_has_bond _)) hr0L tkL) T.F_has_bond.kp (.cons (pr_callS (pr_of hh.reason T.b_reason (sh_reason _)) hr0L tkL) T.F_reason.kp (.cons (pr_callS (pr_of hh.total_need T.b_total_need (sh_total_need _)) hr0L tkL) T.F_total_need.kp (.cons (pr_callS (pr_of hh.total_crossings T.b_total_crossings (sh_total_crossings _)) hr0L tkL) T.F_total_crossings.kp .nil))))) (q_cons (q_v (i := 5)) q_nil))) (takes_of rfl rfl rfl rfl)))) (q_v (i := 6)) (nomark _)) (s_one (s_ret q_bl)) s_nil)))
    (s_cons (s_set (i := 4) sc_law_right.nd rfl (by first | exact Or.inl rfl | exact Or.inr rfl) (q_lst (q_cons (q_met (k := 4 * n + 1) (by rfl) T.g_law_met T.F_law_met T.b_law_met sc_law_met rfl (by first | exact Or.inl rfl | exact Or.inr (Or.inl rfl)) (gv_law_met T hgd hu100) tb rfl hr2 (LamX.lamS_by (sc := defScope s_law_right) (by decide +kernel)) rfl (fun _ _ _ _ _ => rfl) (fun A outer s H E f c hrL => (by have hr0L := hrL.mono (Nat.le_succ (4 * n)); exact (fun tkL => (q_call tkL hh.is_reason hr0L (by rfl) T.g_is_reason T.F_is_reason.kp T.b_is_reason (q_cons (q_v (i := 5)) (q_cons (q_v (i := 1)) q_nil)) rfl (kA1_len (kA1_len kA0_len)))) (takes_of rfl rfl rfl rfl)))) q_nil)))
    (s_cons (s_expr (q_bm PySem.F.plainAttrs_list PySem.F.slot_list_append PySem.F.type_list_append m_append (q_v (i := 4)) (q_cons (q_met (k := 4 * n + 1) (by rfl) T.g_law_met T.F_law_met T.b_law_met sc_law_met rfl (by first | exact Or.inl rfl | exact Or.inr (Or.inl rfl)) (gv_law_met T hgd hu100) tb rfl hr2 (LamX.lamS_by (sc := defScope s_law_right) (by decide +kernel)) rfl (fun _ _ _ _ _ => rfl) (fun A outer s H E f c hrL => (by have hr0L := hrL.mono (Nat.le_succ (4 * n)); exact (fun tkL => (q_call tkL hh.reason hr0L (by rfl) T.g_reason T.F_reason.kp T.b_reason (q_cons (q_v (i := 5)) q_nil) rfl (kA1_len kA0_len))) (takes_of rfl rfl rfl rfl)))) q_nil)))
    (s_one (s_ret (q_cmp (o_eq hu64) (q_v (i := 4)) (q_frz (q_cons q_str (q_cons q_str q_nil))) (nomark _))))))))))))))))
theorem ok_law (T : Tx K mg) {n : Nat} (hh : OkAll P w K mg base T n) (tb : LamX.TabB base mg T.c_law T.P_law) : PrG P w K mg base (4 * n + 3 + 1) T.a_law (callT T.a_total_crossings T.a_total_need T.a_reason T.a_has_bond T.a_can_be_laid T.P_law_right T.P_law (n + 1) 28) := by
  refine FunC.okG (n := 5) T.F_law T.b_law sc_law rfl rfl fun A outer s H E hgd hr2 => ?_
  have hr := hr2.mono (Nat.le_add_right (4 * n + 1) 2)
  have hr0 := hr2.mono (Nat.le_add_right (4 * n) 3)
  have hu64 := hr2.units
  have hu65 : (A.deeper (envOfC "law" (defScope s_law) s.heap.objs.size T.a_law (.ref T.c_law))).units + 65 < cLine := by have := hr2.un; omega
  have hu62 : (A.deeper (envOfC "law" (defScope s_law) s.heap.objs.size T.a_law (.ref T.c_law))).units + 62 < cLine := by have := hr2.un; omega
  have hu100 : (A.deeper (envOfC "law" (defScope s_law) s.heap.objs.size T.a_law (.ref T.c_law))).units + 100 < cLine := by have := hr2.un; omega
  have hu1 : (A.deeper (envOfC "law" (defScope s_law) s.heap.objs.size T.a_law (.ref T.c_law))).units + 1 < cLine := by omega
  have tk : Takes (cxOf (L2.CX P w) P w K mg base N_law "law" (defScope s_law) T.a_law (.ref T.c_law) A outer s H E) (fun cls d _ H => E cls d H) := takes_of rfl rfl rfl rfl
  exact (s_cons (s_for (passes_of rfl) rfl (i_rng1 (by rfl) T.m_range (q_cons (q_callB (f_max rfl) (by rfl) T.m_max bt_max (q_cons q_int (q_cons (q_callB (f_min rfl) (by rfl) T.m_min bt_min (q_cons q_int (q_cons (q_callB f_len (by rfl) T.m_len bt_len (q_cons (q_v (i := 0)) q_nil)) q_nil))) q_nil))) q_nil)) (t_name (i := 1) sc_law.nd rfl (by first | exact Or.inl rfl | exact Or.inr rfl)) (s_cons (s_set (i := 3) sc_law.nd rfl (by first | exact Or.inl rfl | exact Or.inr rfl) (q_call tk hh.law_urn hr0 (by rfl) T.g_law_urn T.F_law_urn.kp T.b_law_urn (q_cons (q_v (i := 0)) (q_cons (q_v (i := 1)) q_nil)) rfl (kA1_len (kA1_len kA0_len))))
    (s_one (s_for (passes_of rfl) rfl (i_rng1 (by rfl) T.m_range (q_cons q_int q_nil)) (t_name (i := 4) sc_law.nd rfl (by first | exact Or.inl rfl | exact Or.inr rfl)) (s_one (s_if (q_tnot (q_tr (q_callG (g_callS hh.law_right hgd hr0 tk) T.F_law_right.kp (by rfl) T.g_law_right (q_cons (q_v (i := 3)) q_nil)))) (s_one (s_ret q_bl)) s_nil))))))
    (s_cons (s_set (i := 2) sc_law.nd rfl (by first | exact Or.inl rfl | exact Or.inr rfl) (q_lst (q_cons (q_met (k := 4 * n + 1) (by rfl) T.g_law_met T.F_law_met T.b_law_met sc_law_met rfl (by first | exact Or.inl rfl | exact Or.inr (Or.inl rfl)) (gv_law_met T hgd hu100) tb rfl hr2 (LamX.lamS_by (sc := defScope s_law) (by decide +kernel)) rfl (fun _ _ _ _ _ => rfl) (fun A outer s H E f c hrL => (by have hr0L := hrL.mono (Nat.le_succ (4 * n)); exact (fun tkL => (q_call tkL hh.total_need hr0L (by rfl) T.g_total_need T.F_total_need.kp T.b_total_need (q_cons (q_tup (q_cons q_int (q_cons q_int (q_cons q_int q_nil)))) q_nil) rfl (kA1_len kA0_len))) (takes_of rfl rfl rfl rfl)))) q_nil)))
    (s_cons (s_expr (q_bm PySem.F.plainAttrs_list PySem.F.slot_list_append PySem.F.type_list_append m_append (q_v (i := 2)) (q_cons (q_met (k := 4 * n + 1) (by rfl) T.g_law_met T.F_law_met T.b_law_met sc_law_met rfl (by first | exact Or.inl rfl | exact Or.inr (Or.inl rfl)) (gv_law_met T hgd hu100) tb rfl hr2 (LamX.lamS_by (sc := defScope s_law) (by decide +kernel)) rfl (fun _ _ _ _ _ => rfl) (fun A outer s H E f c hrL => (by have hr0L := hrL.mono (Nat.le_succ (4 * n)); exact (fun tkL => (q_call tkL hh.weight hr0L (by rfl) T.g_weight T.F_weight.kp T.b_weight (q_cons (q_tup (q_cons (q_op o_pow q_int q_int) (q_cons (q_op o_pow q_int q_int) (q_cons (q_op o_pow q_int q_int) q_nil)))) (q_cons (q_op o_sub (q_op o_pow q_int q_int) q_int) q_nil)) rfl (kA1_len (kA1_len kA0_len)))) (takes_of rfl rfl rfl rfl)))) q_nil)))
    (s_one (s_ret (q_cmp (o_eq hu64) (q_v (i := 2)) (q_frz (q_cons q_str (q_cons q_str q_nil))) (nomark _)))))))
theorem bad_pr {K : PySem.W.Frag} {mg : Str → Option Value} {f : Addr} {k : Nat} : Pr3 P w K mg base k f runBad := fun _ _ _ _ _ _ _ _ _ _ _ ⟨_, _, _, _, _, z⟩ => z.elim
theorem all_ok (T : Tx K mg) (tb_law_right : LamX.TabB base mg T.c_law_right T.P_law_right) (tb_law : LamX.TabB base mg T.c_law T.P_law) : ∀ n, OkAll P w K mg base T n
  | 0 => ⟨ok_bad rfl, ok_bad rfl, ok_bad rfl, ok_bad rfl, ok_bad rfl, okI_bad, okI_bad, ok_bad rfl, ok_bad rfl, ok_bad rfl, ok_bad rfl, ok_bad rfl, ok_bad rfl, ok_bad rfl, ok_bad rfl, ok_bad rfl, ok_bad rfl, ok_bad rfl, ok_bad rfl, ok_bad rfl, ok_bad rfl, ok_bad rfl, ok_bad rfl, ok_bad rfl, ok_bad rfl, ok_bad rfl, ok_bad rfl, prG_bad, prG_bad⟩
  | n + 1 => have hh := all_ok T tb_law_right tb_law n
    ⟨ok_is_whole T hh, ok_is_index T hh, ok_copied T hh, ok_can_hold_floor T hh, ok_is_size T hh, ok_InvalidNumber___init__ T hh, ok_Unlaid___init__ T hh, ok_can_be_laid T hh, ok_pairs_with_sum T hh, ok_weight T hh, ok_is_one_bar T hh, ok_is_narrow T hh, ok_has_bond T hh, ok_need_along T hh, ok_total_need T hh, ok_total_crossings T hh, ok_is_few T hh, ok_reason T hh, ok_weights_differ T hh, ok_is_reason T hh, ok_law_urn T hh, ok_law_take T hh, ok_law_one T hh, ok_law_is_laid T hh, ok_law_small T hh, ok_law_great T hh, ok_law_no_size T hh, ok_law_right T hh tb_law_right, ok_law T hh tb_law⟩
end
theorem all_mk {l : PySem.W.OpenLaw} {w : World} {K : PySem.W.Frag} {h : Heap} {mg : Str → Option Value} {fa : Addr} {q : Program} (X : K.In h) (G : h.Ns mainGlobals mg) (hfa : mg "law" = some (.ref fa))
    {f0 f1 f2 f3 f4 f5 f6 f7 f8 f9 f10 f11 f12 f13 f14 f15 f16 f17 f18 f19 f20 f21 f22 f23 f24 f25 f26 f27 f28 f29 C_InvalidSize C_InvalidLine C_InvalidPlan C_InvalidOperation C_InvalidNumber C_Unlaid C_TooMany cc27 pt27 cc28 pt28 : Addr} {od0 an0 od1 an1 od2 an2 od3 an3 od4 an4 od5 an5 od6 an6 od7 an7 od8 an8 od9 an9 od10 an10 od11 an11 od12 an12 od13 an13 od14 an14 od15 an15 od16 an16 od17 an17 od18 an18 od19 an19 od20 an20 od21 an21 od22 an22 od23 an23 od24 an24 od25 an25 od26 an26 od27 an27 od28 an28 od29 an29 : Option Addr} {sl0 sl1 sl2 sl3 sl4 sl5 sl6 sl7 sl8 sl9 sl10 sl11 sl12 sl13 sl14 sl15 sl16 sl17 sl18 sl19 sl20 sl21 sl22 sl23 sl24 sl25 sl26 sl27 sl28 sl29 : Array (Option Value)} {oc0 kV0 dc0 pm0 ct0 cd0 oc1 kV1 dc1 pm1 ct1 cd1 oc2 kV2 dc2 pm2 ct2 cd2 oc3 kV3 dc3 pm3 ct3 cd3 oc4 kV4 dc4 pm4 ct4 cd4 oc5 kV5 dc5 pm5 ct5 cd5 oc6 kV6 dc6 pm6 ct6 cd6 oc7 kV7 dc7 pm7 ct7 cd7 oc8 kV8 dc8 pm8 ct8 cd8 oc9 kV9 dc9 pm9 ct9 cd9 oc10 kV10 dc10 pm10 ct10 cd10 oc11 kV11 dc11 pm11 ct11 cd11 oc12 kV12 dc12 pm12 ct12 cd12 oc13 kV13 dc13 pm13 ct13 cd13 oc14 kV14 dc14 pm14 ct14 cd14 oc15 kV15 dc15 pm15 ct15 cd15 oc16 kV16 dc16 pm16 ct16 cd16 oc17 kV17 dc17 pm17 ct17 cd17 oc18 kV18 dc18 pm18 ct18 cd18 oc19 kV19 dc19 pm19 ct19 cd19 oc20 kV20 dc20 pm20 ct20 cd20 oc21 kV21 dc21 pm21 ct21 cd21 oc22 kV22 dc22 pm22 ct22 cd22 oc23 kV23 dc23 pm23 ct23 cd23 oc24 kV24 dc24 pm24 ct24 cd24 oc25 kV25 dc25 pm25 ct25 cd25 oc26 kV26 dc26 pm26 ct26 cd26 oc27 kV27 dc27 pm27 ct27 oc28 kV28 dc28 pm28 ct28 oc29 kV29 dc29 pm29 ct29 cd29 : Value} {dr27 dr28 : DefRec}
    (vg_InvalidSize : PySem.W.nsIn K mainGlobals "InvalidSize" = some (some (.ref C_InvalidSize)))
    (vg_InvalidLine : PySem.W.nsIn K mainGlobals "InvalidLine" = some (some (.ref C_InvalidLine)))
    (vg_InvalidPlan : PySem.W.nsIn K mainGlobals "InvalidPlan" = some (some (.ref C_InvalidPlan)))
    (vg_InvalidOperation : PySem.W.nsIn K mainGlobals "InvalidOperation" = some (some (.ref C_InvalidOperation)))
    (vg_InvalidNumber : PySem.W.nsIn K mainGlobals "InvalidNumber" = some (some (.ref C_InvalidNumber)))
    (vg_Unlaid : PySem.W.nsIn K mainGlobals "Unlaid" = some (some (.ref C_Unlaid)))
    (vg_TooMany : PySem.W.nsIn K mainGlobals "TooMany" = some (some (.ref C_TooMany)))
    (vq_InvalidSize : PySem.W.excIn K C_InvalidSize [.type "ValueError", .type "Exception", .type "BaseException", .type "object"] "ValueError.__new__" = true)
    (vk_InvalidSize : PySem.W.keepIn K (.ref C_InvalidSize) = true)
    (vs_InvalidSize : PySem.W.subIn K (.ref C_InvalidSize) (.type "BaseException") = some true)
    (vt_InvalidSize : PySem.W.typeIn K (.ref C_InvalidSize) = some (.type "type"))
    (vn_InvalidNumber_value : PySem.W.findIn K (.ref C_InvalidNumber) "value" = some none)
    (vn_TooMany_limit : PySem.W.findIn K (.ref C_TooMany) "limit" = some none)
    (vn_Unlaid_value : PySem.W.findIn K (.ref C_Unlaid) "value" = some none)
    (va_InvalidNumber : PySem.W.findIn K (.ref C_InvalidNumber) "__getattribute__" = some (some (.builtin "BaseException.__getattribute__")))
    (vb_InvalidNumber : PySem.W.findIn K (.ref C_InvalidNumber) "__getattr__" = some none)
    (vc_InvalidNumber : PySem.W.subIn K (.ref C_InvalidNumber) (.type "BaseException") = some true)
    (vd_InvalidNumber : PySem.W.hasDictIn K C_InvalidNumber = true)
    (va_TooMany : PySem.W.findIn K (.ref C_TooMany) "__getattribute__" = some (some (.builtin "BaseException.__getattribute__")))
    (vb_TooMany : PySem.W.findIn K (.ref C_TooMany) "__getattr__" = some none)
    (vc_TooMany : PySem.W.subIn K (.ref C_TooMany) (.type "BaseException") = some true)
    (vd_TooMany : PySem.W.hasDictIn K C_TooMany = true)
    (va_Unlaid : PySem.W.findIn K (.ref C_Unlaid) "__getattribute__" = some (some (.builtin "BaseException.__getattribute__")))
    (vb_Unlaid : PySem.W.findIn K (.ref C_Unlaid) "__getattr__" = some none)
    (vc_Unlaid : PySem.W.subIn K (.ref C_Unlaid) (.type "BaseException") = some true)
    (vd_Unlaid : PySem.W.hasDictIn K C_Unlaid = true)
    (ve_InvalidSize_InvalidSize : PySem.W.exmOne K (.ref C_InvalidSize) (.ref C_InvalidSize) = some true)
    (ve_InvalidNumber_InvalidSize : PySem.W.exmOne K (.ref C_InvalidNumber) (.ref C_InvalidSize) = some false)
    (ve_Unlaid_InvalidSize : PySem.W.exmOne K (.ref C_Unlaid) (.ref C_InvalidSize) = some false)
    (ve_InvalidSize_InvalidLine : PySem.W.exmOne K (.ref C_InvalidSize) (.ref C_InvalidLine) = some false)
    (ve_InvalidNumber_InvalidLine : PySem.W.exmOne K (.ref C_InvalidNumber) (.ref C_InvalidLine) = some false)
    (ve_Unlaid_InvalidLine : PySem.W.exmOne K (.ref C_Unlaid) (.ref C_InvalidLine) = some false)
    (ve_InvalidSize_InvalidPlan : PySem.W.exmOne K (.ref C_InvalidSize) (.ref C_InvalidPlan) = some false)
    (ve_InvalidNumber_InvalidPlan : PySem.W.exmOne K (.ref C_InvalidNumber) (.ref C_InvalidPlan) = some false)
    (ve_Unlaid_InvalidPlan : PySem.W.exmOne K (.ref C_Unlaid) (.ref C_InvalidPlan) = some false)
    (ve_InvalidSize_InvalidOperation : PySem.W.exmOne K (.ref C_InvalidSize) (.ref C_InvalidOperation) = some false)
    (ve_InvalidNumber_InvalidOperation : PySem.W.exmOne K (.ref C_InvalidNumber) (.ref C_InvalidOperation) = some false)
    (ve_Unlaid_InvalidOperation : PySem.W.exmOne K (.ref C_Unlaid) (.ref C_InvalidOperation) = some false)
    (ve_InvalidSize_InvalidNumber : PySem.W.exmOne K (.ref C_InvalidSize) (.ref C_InvalidNumber) = some false)
    (ve_InvalidNumber_InvalidNumber : PySem.W.exmOne K (.ref C_InvalidNumber) (.ref C_InvalidNumber) = some true)
    (ve_Unlaid_InvalidNumber : PySem.W.exmOne K (.ref C_Unlaid) (.ref C_InvalidNumber) = some false)
    (ve_InvalidSize_Unlaid : PySem.W.exmOne K (.ref C_InvalidSize) (.ref C_Unlaid) = some false)
    (ve_InvalidNumber_Unlaid : PySem.W.exmOne K (.ref C_InvalidNumber) (.ref C_Unlaid) = some false)
    (ve_Unlaid_Unlaid : PySem.W.exmOne K (.ref C_Unlaid) (.ref C_Unlaid) = some true)
    (ve_InvalidSize_TooMany : PySem.W.exmOne K (.ref C_InvalidSize) (.ref C_TooMany) = some false)
    (ve_InvalidNumber_TooMany : PySem.W.exmOne K (.ref C_InvalidNumber) (.ref C_TooMany) = some false)
    (ve_Unlaid_TooMany : PySem.W.exmOne K (.ref C_Unlaid) (.ref C_TooMany) = some false)
    (a0 : PySem.W.nsIn K mainGlobals "is_whole" = some (some (.ref f0)))
    (l0 : K.lookup f0 = some ⟨oc0, od0, .func (PySem.W.fnOf "is_whole" "is_whole" (defArgs s_is_whole) (defBody s_is_whole) (defScope s_is_whole) .none kV0 dc0 pm0 an0 cd0 ct0), sl0⟩)
    (c0 : PySem.W.codeIn K cd0 "is_whole" = true)
    (k0 : PySem.W.keepIn K (.ref f0) = true)
    (a1 : PySem.W.nsIn K mainGlobals "is_index" = some (some (.ref f1)))
    (l1 : K.lookup f1 = some ⟨oc1, od1, .func (PySem.W.fnOf "is_index" "is_index" (defArgs s_is_index) (defBody s_is_index) (defScope s_is_index) .none kV1 dc1 pm1 an1 cd1 ct1), sl1⟩)
    (c1 : PySem.W.codeIn K cd1 "is_index" = true)
    (k1 : PySem.W.keepIn K (.ref f1) = true)
    (a2 : PySem.W.nsIn K mainGlobals "copied" = some (some (.ref f2)))
    (l2 : K.lookup f2 = some ⟨oc2, od2, .func (PySem.W.fnOf "copied" "copied" (defArgs s_copied) (defBody s_copied) (defScope s_copied) .none kV2 dc2 pm2 an2 cd2 ct2), sl2⟩)
    (c2 : PySem.W.codeIn K cd2 "copied" = true)
    (k2 : PySem.W.keepIn K (.ref f2) = true)
    (a3 : PySem.W.nsIn K mainGlobals "can_hold_floor" = some (some (.ref f3)))
    (l3 : K.lookup f3 = some ⟨oc3, od3, .func (PySem.W.fnOf "can_hold_floor" "can_hold_floor" (defArgs s_can_hold_floor) (defBody s_can_hold_floor) (defScope s_can_hold_floor) .none kV3 dc3 pm3 an3 cd3 ct3), sl3⟩)
    (c3 : PySem.W.codeIn K cd3 "can_hold_floor" = true)
    (k3 : PySem.W.keepIn K (.ref f3) = true)
    (a4 : PySem.W.nsIn K mainGlobals "is_size" = some (some (.ref f4)))
    (l4 : K.lookup f4 = some ⟨oc4, od4, .func (PySem.W.fnOf "is_size" "is_size" (defArgs s_is_size) (defBody s_is_size) (defScope s_is_size) .none kV4 dc4 pm4 an4 cd4 ct4), sl4⟩)
    (c4 : PySem.W.codeIn K cd4 "is_size" = true)
    (k4 : PySem.W.keepIn K (.ref f4) = true)
    (a5 : PySem.W.findIn K (.ref C_InvalidNumber) "__init__" = some (some (.ref f5)))
    (l5 : K.lookup f5 = some ⟨oc5, od5, .func (PySem.W.fnOf "__init__" "InvalidNumber.__init__" (defArgs s_InvalidNumber___init__) (defBody s_InvalidNumber___init__) (defScope s_InvalidNumber___init__) .none kV5 dc5 pm5 an5 cd5 ct5), sl5⟩)
    (c5 : PySem.W.codeIn K cd5 "InvalidNumber.__init__" = true)
    (k5 : PySem.W.keepIn K (.ref f5) = true)
    (oa5 : PySem.W.excInitIn K C_InvalidNumber [.type "IndexError", .type "LookupError", .type "Exception", .type "BaseException", .type "object"] "IndexError.__new__" = true)
    (ob5 : PySem.W.excOver K C_InvalidNumber [.type "IndexError", .type "LookupError", .type "Exception", .type "BaseException", .type "object"] = true)
    (oh5 : PySem.W.hasDictIn K C_InvalidNumber = true)
    (os5 : PySem.W.findIn K (.ref C_InvalidNumber) "__setattr__" = some (some (.builtin "object.__setattr__")))
    (oe5 : PySem.W.subIn K (.ref C_InvalidNumber) (.type "BaseException") = some true)
    (oy5 : PySem.W.typeIn K (.ref C_InvalidNumber) = some (.type "type"))
    (ok5 : PySem.W.keepIn K (.ref C_InvalidNumber) = true)
    (oi5 : PySem.W.typeIn K (.ref f5) = some (.type "function"))
    (ot5 : PySem.W.takerIn K C_InvalidNumber "value" = some none)
    (a6 : PySem.W.findIn K (.ref C_Unlaid) "__init__" = some (some (.ref f6)))
    (l6 : K.lookup f6 = some ⟨oc6, od6, .func (PySem.W.fnOf "__init__" "Unlaid.__init__" (defArgs s_Unlaid___init__) (defBody s_Unlaid___init__) (defScope s_Unlaid___init__) .none kV6 dc6 pm6 an6 cd6 ct6), sl6⟩)
    (c6 : PySem.W.codeIn K cd6 "Unlaid.__init__" = true)
    (k6 : PySem.W.keepIn K (.ref f6) = true)
    (oa6 : PySem.W.excInitIn K C_Unlaid [.type "LookupError", .type "Exception", .type "BaseException", .type "object"] "LookupError.__new__" = true)
    (ob6 : PySem.W.excOver K C_Unlaid [.type "LookupError", .type "Exception", .type "BaseException", .type "object"] = true)
    (oh6 : PySem.W.hasDictIn K C_Unlaid = true)
    (os6 : PySem.W.findIn K (.ref C_Unlaid) "__setattr__" = some (some (.builtin "object.__setattr__")))
    (oe6 : PySem.W.subIn K (.ref C_Unlaid) (.type "BaseException") = some true)
    (oy6 : PySem.W.typeIn K (.ref C_Unlaid) = some (.type "type"))
    (ok6 : PySem.W.keepIn K (.ref C_Unlaid) = true)
    (oi6 : PySem.W.typeIn K (.ref f6) = some (.type "function"))
    (ot6 : PySem.W.takerIn K C_Unlaid "value" = some none)
    (a7 : PySem.W.nsIn K mainGlobals "can_be_laid" = some (some (.ref f7)))
    (l7 : K.lookup f7 = some ⟨oc7, od7, .func (PySem.W.fnOf "can_be_laid" "can_be_laid" (defArgs s_can_be_laid) (defBody s_can_be_laid) (defScope s_can_be_laid) .none kV7 dc7 pm7 an7 cd7 ct7), sl7⟩)
    (c7 : PySem.W.codeIn K cd7 "can_be_laid" = true)
    (k7 : PySem.W.keepIn K (.ref f7) = true)
    (a8 : PySem.W.nsIn K mainGlobals "pairs_with_sum" = some (some (.ref f8)))
    (l8 : K.lookup f8 = some ⟨oc8, od8, .func (PySem.W.fnOf "pairs_with_sum" "pairs_with_sum" (defArgs s_pairs_with_sum) (defBody s_pairs_with_sum) (defScope s_pairs_with_sum) .none kV8 dc8 pm8 an8 cd8 ct8), sl8⟩)
    (c8 : PySem.W.codeIn K cd8 "pairs_with_sum" = true)
    (k8 : PySem.W.keepIn K (.ref f8) = true)
    (a9 : PySem.W.nsIn K mainGlobals "weight" = some (some (.ref f9)))
    (l9 : K.lookup f9 = some ⟨oc9, od9, .func (PySem.W.fnOf "weight" "weight" (defArgs s_weight) (defBody s_weight) (defScope s_weight) .none kV9 dc9 pm9 an9 cd9 ct9), sl9⟩)
    (c9 : PySem.W.codeIn K cd9 "weight" = true)
    (k9 : PySem.W.keepIn K (.ref f9) = true)
    (a10 : PySem.W.nsIn K mainGlobals "is_one_bar" = some (some (.ref f10)))
    (l10 : K.lookup f10 = some ⟨oc10, od10, .func (PySem.W.fnOf "is_one_bar" "is_one_bar" (defArgs s_is_one_bar) (defBody s_is_one_bar) (defScope s_is_one_bar) .none kV10 dc10 pm10 an10 cd10 ct10), sl10⟩)
    (c10 : PySem.W.codeIn K cd10 "is_one_bar" = true)
    (k10 : PySem.W.keepIn K (.ref f10) = true)
    (a11 : PySem.W.nsIn K mainGlobals "is_narrow" = some (some (.ref f11)))
    (l11 : K.lookup f11 = some ⟨oc11, od11, .func (PySem.W.fnOf "is_narrow" "is_narrow" (defArgs s_is_narrow) (defBody s_is_narrow) (defScope s_is_narrow) .none kV11 dc11 pm11 an11 cd11 ct11), sl11⟩)
    (c11 : PySem.W.codeIn K cd11 "is_narrow" = true)
    (k11 : PySem.W.keepIn K (.ref f11) = true)
    (a12 : PySem.W.nsIn K mainGlobals "has_bond" = some (some (.ref f12)))
    (l12 : K.lookup f12 = some ⟨oc12, od12, .func (PySem.W.fnOf "has_bond" "has_bond" (defArgs s_has_bond) (defBody s_has_bond) (defScope s_has_bond) .none kV12 dc12 pm12 an12 cd12 ct12), sl12⟩)
    (c12 : PySem.W.codeIn K cd12 "has_bond" = true)
    (k12 : PySem.W.keepIn K (.ref f12) = true)
    (a13 : PySem.W.nsIn K mainGlobals "need_along" = some (some (.ref f13)))
    (l13 : K.lookup f13 = some ⟨oc13, od13, .func (PySem.W.fnOf "need_along" "need_along" (defArgs s_need_along) (defBody s_need_along) (defScope s_need_along) .none kV13 dc13 pm13 an13 cd13 ct13), sl13⟩)
    (c13 : PySem.W.codeIn K cd13 "need_along" = true)
    (k13 : PySem.W.keepIn K (.ref f13) = true)
    (a14 : PySem.W.nsIn K mainGlobals "total_need" = some (some (.ref f14)))
    (l14 : K.lookup f14 = some ⟨oc14, od14, .func (PySem.W.fnOf "total_need" "total_need" (defArgs s_total_need) (defBody s_total_need) (defScope s_total_need) .none kV14 dc14 pm14 an14 cd14 ct14), sl14⟩)
    (c14 : PySem.W.codeIn K cd14 "total_need" = true)
    (k14 : PySem.W.keepIn K (.ref f14) = true)
    (a15 : PySem.W.nsIn K mainGlobals "total_crossings" = some (some (.ref f15)))
    (l15 : K.lookup f15 = some ⟨oc15, od15, .func (PySem.W.fnOf "total_crossings" "total_crossings" (defArgs s_total_crossings) (defBody s_total_crossings) (defScope s_total_crossings) .none kV15 dc15 pm15 an15 cd15 ct15), sl15⟩)
    (c15 : PySem.W.codeIn K cd15 "total_crossings" = true)
    (k15 : PySem.W.keepIn K (.ref f15) = true)
    (a16 : PySem.W.nsIn K mainGlobals "is_few" = some (some (.ref f16)))
    (l16 : K.lookup f16 = some ⟨oc16, od16, .func (PySem.W.fnOf "is_few" "is_few" (defArgs s_is_few) (defBody s_is_few) (defScope s_is_few) .none kV16 dc16 pm16 an16 cd16 ct16), sl16⟩)
    (c16 : PySem.W.codeIn K cd16 "is_few" = true)
    (k16 : PySem.W.keepIn K (.ref f16) = true)
    (a17 : PySem.W.nsIn K mainGlobals "reason" = some (some (.ref f17)))
    (l17 : K.lookup f17 = some ⟨oc17, od17, .func (PySem.W.fnOf "reason" "reason" (defArgs s_reason) (defBody s_reason) (defScope s_reason) .none kV17 dc17 pm17 an17 cd17 ct17), sl17⟩)
    (c17 : PySem.W.codeIn K cd17 "reason" = true)
    (k17 : PySem.W.keepIn K (.ref f17) = true)
    (a18 : PySem.W.nsIn K mainGlobals "weights_differ" = some (some (.ref f18)))
    (l18 : K.lookup f18 = some ⟨oc18, od18, .func (PySem.W.fnOf "weights_differ" "weights_differ" (defArgs s_weights_differ) (defBody s_weights_differ) (defScope s_weights_differ) .none kV18 dc18 pm18 an18 cd18 ct18), sl18⟩)
    (c18 : PySem.W.codeIn K cd18 "weights_differ" = true)
    (k18 : PySem.W.keepIn K (.ref f18) = true)
    (a19 : PySem.W.nsIn K mainGlobals "is_reason" = some (some (.ref f19)))
    (l19 : K.lookup f19 = some ⟨oc19, od19, .func (PySem.W.fnOf "is_reason" "is_reason" (defArgs s_is_reason) (defBody s_is_reason) (defScope s_is_reason) .none kV19 dc19 pm19 an19 cd19 ct19), sl19⟩)
    (c19 : PySem.W.codeIn K cd19 "is_reason" = true)
    (k19 : PySem.W.keepIn K (.ref f19) = true)
    (a20 : PySem.W.nsIn K mainGlobals "_law_urn" = some (some (.ref f20)))
    (l20 : K.lookup f20 = some ⟨oc20, od20, .func (PySem.W.fnOf "_law_urn" "_law_urn" (defArgs s_law_urn) (defBody s_law_urn) (defScope s_law_urn) .none kV20 dc20 pm20 an20 cd20 ct20), sl20⟩)
    (c20 : PySem.W.codeIn K cd20 "_law_urn" = true)
    (k20 : PySem.W.keepIn K (.ref f20) = true)
    (a21 : PySem.W.nsIn K mainGlobals "_law_take" = some (some (.ref f21)))
    (l21 : K.lookup f21 = some ⟨oc21, od21, .func (PySem.W.fnOf "_law_take" "_law_take" (defArgs s_law_take) (defBody s_law_take) (defScope s_law_take) .none kV21 dc21 pm21 an21 cd21 ct21), sl21⟩)
    (c21 : PySem.W.codeIn K cd21 "_law_take" = true)
    (k21 : PySem.W.keepIn K (.ref f21) = true)
    (a22 : PySem.W.nsIn K mainGlobals "_law_one" = some (some (.ref f22)))
    (l22 : K.lookup f22 = some ⟨oc22, od22, .func (PySem.W.fnOf "_law_one" "_law_one" (defArgs s_law_one) (defBody s_law_one) (defScope s_law_one) .none kV22 dc22 pm22 an22 cd22 ct22), sl22⟩)
    (c22 : PySem.W.codeIn K cd22 "_law_one" = true)
    (k22 : PySem.W.keepIn K (.ref f22) = true)
    (a23 : PySem.W.nsIn K mainGlobals "_law_is_laid" = some (some (.ref f23)))
    (l23 : K.lookup f23 = some ⟨oc23, od23, .func (PySem.W.fnOf "_law_is_laid" "_law_is_laid" (defArgs s_law_is_laid) (defBody s_law_is_laid) (defScope s_law_is_laid) .none kV23 dc23 pm23 an23 cd23 ct23), sl23⟩)
    (c23 : PySem.W.codeIn K cd23 "_law_is_laid" = true)
    (k23 : PySem.W.keepIn K (.ref f23) = true)
    (a24 : PySem.W.nsIn K mainGlobals "_law_small" = some (some (.ref f24)))
    (l24 : K.lookup f24 = some ⟨oc24, od24, .func (PySem.W.fnOf "_law_small" "_law_small" (defArgs s_law_small) (defBody s_law_small) (defScope s_law_small) .none kV24 dc24 pm24 an24 cd24 ct24), sl24⟩)
    (c24 : PySem.W.codeIn K cd24 "_law_small" = true)
    (k24 : PySem.W.keepIn K (.ref f24) = true)
    (a25 : PySem.W.nsIn K mainGlobals "_law_great" = some (some (.ref f25)))
    (l25 : K.lookup f25 = some ⟨oc25, od25, .func (PySem.W.fnOf "_law_great" "_law_great" (defArgs s_law_great) (defBody s_law_great) (defScope s_law_great) .none kV25 dc25 pm25 an25 cd25 ct25), sl25⟩)
    (c25 : PySem.W.codeIn K cd25 "_law_great" = true)
    (k25 : PySem.W.keepIn K (.ref f25) = true)
    (a26 : PySem.W.nsIn K mainGlobals "_law_no_size" = some (some (.ref f26)))
    (l26 : K.lookup f26 = some ⟨oc26, od26, .func (PySem.W.fnOf "_law_no_size" "_law_no_size" (defArgs s_law_no_size) (defBody s_law_no_size) (defScope s_law_no_size) .none kV26 dc26 pm26 an26 cd26 ct26), sl26⟩)
    (c26 : PySem.W.codeIn K cd26 "_law_no_size" = true)
    (k26 : PySem.W.keepIn K (.ref f26) = true)
    (a27 : PySem.W.nsIn K mainGlobals "_law_right" = some (some (.ref f27)))
    (ta27 : PySem.W.tabIn K "_law_right" = some (cc27, pt27))
    (tb27 : PySem.W.codeHdIn K cc27 pt27 = true)
    (tl27 : K.lookup pt27 = none)
    (tr27 : (recsOf q).find? (fun e => e.name == ("_law_right" : Str)) = some dr27)
    (l27 : K.lookup f27 = some ⟨oc27, od27, .func (PySem.W.fnOf "_law_right" "_law_right" (defArgs s_law_right) (defBody s_law_right) (defScope s_law_right) .none kV27 dc27 pm27 an27 (.ref cc27) ct27), sl27⟩)
    (c27 : PySem.W.codeIn K (.ref cc27) "_law_right" = true)
    (k27 : PySem.W.keepIn K (.ref f27) = true)
    (a28 : PySem.W.nsIn K mainGlobals "law" = some (some (.ref f28)))
    (ta28 : PySem.W.tabIn K "law" = some (cc28, pt28))
    (tb28 : PySem.W.codeHdIn K cc28 pt28 = true)
    (tl28 : K.lookup pt28 = none)
    (tr28 : (recsOf q).find? (fun e => e.name == ("law" : Str)) = some dr28)
    (l28 : K.lookup f28 = some ⟨oc28, od28, .func (PySem.W.fnOf "law" "law" (defArgs s_law) (defBody s_law) (defScope s_law) .none kV28 dc28 pm28 an28 (.ref cc28) ct28), sl28⟩)
    (c28 : PySem.W.codeIn K (.ref cc28) "law" = true)
    (k28 : PySem.W.keepIn K (.ref f28) = true)
    (a29 : PySem.W.nsIn K mainGlobals "_law_met" = some (some (.ref f29)))
    (l29 : K.lookup f29 = some ⟨oc29, od29, .func (PySem.W.fnOf "_law_met" "_law_met" (defArgs s_law_met) (defBody s_law_met) (defScope s_law_met) .none kV29 dc29 pm29 an29 cd29 ct29), sl29⟩)
    (c29 : PySem.W.codeIn K cd29 "_law_met" = true)
    (k29 : PySem.W.keepIn K (.ref f29) = true)
    (tn : [pt27, pt28].Nodup)
    (z0 : PySem.W.nsIn K mainGlobals "abs" = some none)
    (z1 : PySem.W.nsIn K mainGlobals "all" = some none)
    (z2 : PySem.W.nsIn K mainGlobals "bool" = some none)
    (z3 : PySem.W.nsIn K mainGlobals "dict" = some none)
    (z4 : PySem.W.nsIn K mainGlobals "int" = some none)
    (z5 : PySem.W.nsIn K mainGlobals "isinstance" = some none)
    (z6 : PySem.W.nsIn K mainGlobals "len" = some none)
    (z7 : PySem.W.nsIn K mainGlobals "list" = some none)
    (z8 : PySem.W.nsIn K mainGlobals "max" = some none)
    (z9 : PySem.W.nsIn K mainGlobals "min" = some none)
    (z10 : PySem.W.nsIn K mainGlobals "range" = some none)
    (z11 : PySem.W.nsIn K mainGlobals "repr" = some none)
    (z12 : PySem.W.nsIn K mainGlobals "tuple" = some none)
    {tc0 : Tok}
    (n0 : PySem.W.nsIn K mainGlobals "MAX_SIDE" = some (some (.int 1000000000000000000000000000000 tc0)))
    {tc1 : Addr}
    (n1 : PySem.W.nsIn K mainGlobals "WITHOUT_BOND" = some (some (.ref tc1)))
    (u1 : TupK K tc1 [6, 6, 2])
    (hrun : ∀ A_total_crossings A_total_need A_reason A_has_bond A_can_be_laid P_law_right P_law : Addr, ∀ ns : List Int, ns.length ≤ 63 → ∃ st', callT A_total_crossings A_total_need A_reason A_has_bond A_can_be_laid P_law_right P_law 12 28 [.frz (ns.map D.int)] [.tb P_law_right (("_law_right" : Str) ++ ".<locals>." ++ "<lambda>"), .tb P_law (("law" : Str) ++ ".<locals>." ++ "<lambda>")] = .ok (.bl true) st') :
    ∃ (ts : List Tab3) (run : L3.Run), (adrOf ts).Nodup ∧ (∀ t ∈ ts, K.lookup t.P = none ∧ PySem.W.codeHdIn K t.c t.P = true ∧ ∃ x d', PySem.W.tabIn K x = some (t.c, t.P) ∧ (recsOf q).find? (fun e => e.name == x) = some d') ∧ (∀ ns : List Int, ns.length ≤ 63 → ∃ st', run [.frz (ns.map D.int)] (stoOf ts) = .ok (.bl true) st') ∧ ∀ base : Heap, K.In base → base.Ns mainGlobals mg → (∀ t ∈ ts, LamX.TabB base mg t.c t.P) → PrG l.prog w K mg base 48 fa run := by
  have e := hfa.symm.trans (PySem.W.mg_of X G a28)
  cases e
  have F0 := fun_mk (st := s_is_whole) l0 c0 k0
  have b0 := F0.binds (ps := ["value"]) fun _ _ _ _ _ _ us hl => match us, hl with | [_], _ => rfl
  have F1 := fun_mk (st := s_is_index) l1 c1 k1
  have b1 := F1.binds (ps := ["value", "many"]) fun _ _ _ _ _ _ us hl => match us, hl with | [_, _], _ => rfl
  have F2 := fun_mk (st := s_copied) l2 c2 k2
  have b2 := F2.binds (ps := ["value"]) fun _ _ _ _ _ _ us hl => match us, hl with | [_], _ => rfl
  have F3 := fun_mk (st := s_can_hold_floor) l3 c3 k3
  have b3 := F3.binds (ps := ["size"]) fun _ _ _ _ _ _ us hl => match us, hl with | [_], _ => rfl
  have F4 := fun_mk (st := s_is_size) l4 c4 k4
  have b4 := F4.binds (ps := ["value"]) fun _ _ _ _ _ _ us hl => match us, hl with | [_], _ => rfl
  have F5 := fun_mk (st := s_InvalidNumber___init__) l5 c5 k5
  have b5 := F5.binds (ps := ["self", "value"]) fun _ _ _ _ _ _ us hl => match us, hl with | [_, _], _ => rfl
  have F6 := fun_mk (st := s_Unlaid___init__) l6 c6 k6
  have b6 := F6.binds (ps := ["self", "value"]) fun _ _ _ _ _ _ us hl => match us, hl with | [_, _], _ => rfl
  have F7 := fun_mk (st := s_can_be_laid) l7 c7 k7
  have b7 := F7.binds (ps := ["size"]) fun _ _ _ _ _ _ us hl => match us, hl with | [_], _ => rfl
  have F8 := fun_mk (st := s_pairs_with_sum) l8 c8 k8
  have b8 := F8.binds (ps := ["width", "height", "total"]) fun _ _ _ _ _ _ us hl => match us, hl with | [_, _, _], _ => rfl
  have F9 := fun_mk (st := s_weight) l9 c9 k9
  have b9 := F9.binds (ps := ["size", "number"]) fun _ _ _ _ _ _ us hl => match us, hl with | [_, _], _ => rfl
  have F10 := fun_mk (st := s_is_one_bar) l10 c10 k10
  have b10 := F10.binds (ps := ["size"]) fun _ _ _ _ _ _ us hl => match us, hl with | [_], _ => rfl
  have F11 := fun_mk (st := s_is_narrow) l11 c11 k11
  have b11 := F11.binds (ps := ["size"]) fun _ _ _ _ _ _ us hl => match us, hl with | [_], _ => rfl
  have F12 := fun_mk (st := s_has_bond) l12 c12 k12
  have b12 := F12.binds (ps := ["size"]) fun _ _ _ _ _ _ us hl => match us, hl with | [_], _ => rfl
  have F13 := fun_mk (st := s_need_along) l13 c13 k13
  have b13 := F13.binds (ps := ["side", "other", "length"]) fun _ _ _ _ _ _ us hl => match us, hl with | [_, _, _], _ => rfl
  have F14 := fun_mk (st := s_total_need) l14 c14 k14
  have b14 := F14.binds (ps := ["size"]) fun _ _ _ _ _ _ us hl => match us, hl with | [_], _ => rfl
  have F15 := fun_mk (st := s_total_crossings) l15 c15 k15
  have b15 := F15.binds (ps := ["size"]) fun _ _ _ _ _ _ us hl => match us, hl with | [_], _ => rfl
  have F16 := fun_mk (st := s_is_few) l16 c16 k16
  have b16 := F16.binds (ps := ["size"]) fun _ _ _ _ _ _ us hl => match us, hl with | [_], _ => rfl
  have F17 := fun_mk (st := s_reason) l17 c17 k17
  have b17 := F17.binds (ps := ["size"]) fun _ _ _ _ _ _ us hl => match us, hl with | [_], _ => rfl
  have F18 := fun_mk (st := s_weights_differ) l18 c18 k18
  have b18 := F18.binds (ps := ["size", "one", "other"]) fun _ _ _ _ _ _ us hl => match us, hl with | [_, _, _], _ => rfl
  have F19 := fun_mk (st := s_is_reason) l19 c19 k19
  have b19 := F19.binds (ps := ["size", "value"]) fun _ _ _ _ _ _ us hl => match us, hl with | [_, _], _ => rfl
  have F20 := fun_mk (st := s_law_urn) l20 c20 k20
  have b20 := F20.binds (ps := ["script", "at"]) fun _ _ _ _ _ _ us hl => match us, hl with | [_, _], _ => rfl
  have F21 := fun_mk (st := s_law_take) l21 c21 k21
  have b21 := F21.binds (ps := ["urn", "total"]) fun _ _ _ _ _ _ us hl => match us, hl with | [_, _], _ => rfl
  have F22 := fun_mk (st := s_law_one) l22 c22 k22
  have b22 := F22.binds (ps := ["urn", "items"]) fun _ _ _ _ _ _ us hl => match us, hl with | [_, _], _ => rfl
  have F23 := fun_mk (st := s_law_is_laid) l23 c23 k23
  have b23 := F23.binds (ps := ["size"]) fun _ _ _ _ _ _ us hl => match us, hl with | [_], _ => rfl
  have F24 := fun_mk (st := s_law_small) l24 c24 k24
  have b24 := F24.binds (ps := ["urn", "cells"]) fun _ _ _ _ _ _ us hl => match us, hl with | [_, _], _ => rfl
  have F25 := fun_mk (st := s_law_great) l25 c25 k25
  have b25 := F25.binds (ps := ["urn"]) fun _ _ _ _ _ _ us hl => match us, hl with | [_], _ => rfl
  have F26 := fun_mk (st := s_law_no_size) l26 c26 k26
  have b26 := F26.binds (ps := ["urn"]) fun _ _ _ _ _ _ us hl => match us, hl with | [_], _ => rfl
  have F27 := fun_mk (st := s_law_right) l27 c27 k27
  have b27 := F27.binds (ps := ["urn"]) fun _ _ _ _ _ _ us hl => match us, hl with | [_], _ => rfl
  have F28 := fun_mk (st := s_law) l28 c28 k28
  have b28 := F28.binds (ps := ["script"]) fun _ _ _ _ _ _ us hl => match us, hl with | [_], _ => rfl
  have F29 := fun_mk (st := s_law_met) l29 c29 k29
  have b29 := F29.binds (ps := ["call"]) fun _ _ _ _ _ _ us hl => match us, hl with | [_], _ => rfl
  let T : Tx K mg := ⟨_, PySem.W.mg_of X G vg_InvalidSize, _, PySem.W.mg_of X G vg_InvalidLine, _, PySem.W.mg_of X G vg_InvalidPlan, _, PySem.W.mg_of X G vg_InvalidOperation, _, PySem.W.mg_of X G vg_InvalidNumber, _, PySem.W.mg_of X G vg_Unlaid, _, PySem.W.mg_of X G vg_TooMany, vq_InvalidSize, vk_InvalidSize, vs_InvalidSize, vt_InvalidSize, vn_InvalidNumber_value, vn_TooMany_limit, vn_Unlaid_value, ⟨va_InvalidNumber, vb_InvalidNumber, vc_InvalidNumber, vd_InvalidNumber⟩, ⟨va_TooMany, vb_TooMany, vc_TooMany, vd_TooMany⟩, ⟨va_Unlaid, vb_Unlaid, vc_Unlaid, vd_Unlaid⟩, ve_InvalidSize_InvalidSize, ve_InvalidNumber_InvalidSize, ve_Unlaid_InvalidSize, ve_InvalidSize_InvalidLine, ve_InvalidNumber_InvalidLine, ve_Unlaid_InvalidLine, ve_InvalidSize_InvalidPlan, ve_InvalidNumber_InvalidPlan, ve_Unlaid_InvalidPlan, ve_InvalidSize_InvalidOperation, ve_InvalidNumber_InvalidOperation, ve_Unlaid_InvalidOperation, ve_InvalidSize_InvalidNumber, ve_InvalidNumber_InvalidNumber, ve_Unlaid_InvalidNumber, ve_InvalidSize_Unlaid, ve_InvalidNumber_Unlaid, ve_Unlaid_Unlaid, ve_InvalidSize_TooMany, ve_InvalidNumber_TooMany, ve_Unlaid_TooMany, _, _, F0, b0, PySem.W.mg_of X G a0, _, _, F1, b1, PySem.W.mg_of X G a1, _, _, F2, b2, PySem.W.mg_of X G a2, _, _, F3, b3, PySem.W.mg_of X G a3, _, _, F4, b4, PySem.W.mg_of X G a4, _, _, F5, b5, ⟨PySem.F.excBase_IndexError, PySem.F.store_IndexError, oa5, ob5, oh5, os5, oe5, oy5, ok5⟩, a5, oi5, ot5, _, _, F6, b6, ⟨PySem.F.excBase_LookupError, PySem.F.store_LookupError, oa6, ob6, oh6, os6, oe6, oy6, ok6⟩, a6, oi6, ot6, _, _, F7, b7, PySem.W.mg_of X G a7, _, _, F8, b8, PySem.W.mg_of X G a8, _, _, F9, b9, PySem.W.mg_of X G a9, _, _, F10, b10, PySem.W.mg_of X G a10, _, _, F11, b11, PySem.W.mg_of X G a11, _, _, F12, b12, PySem.W.mg_of X G a12, _, _, F13, b13, PySem.W.mg_of X G a13, _, _, F14, b14, PySem.W.mg_of X G a14, _, _, F15, b15, PySem.W.mg_of X G a15, _, _, F16, b16, PySem.W.mg_of X G a16, _, _, F17, b17, PySem.W.mg_of X G a17, _, _, F18, b18, PySem.W.mg_of X G a18, _, _, F19, b19, PySem.W.mg_of X G a19, _, _, F20, b20, PySem.W.mg_of X G a20, _, _, F21, b21, PySem.W.mg_of X G a21, _, _, F22, b22, PySem.W.mg_of X G a22, _, _, F23, b23, PySem.W.mg_of X G a23, _, _, F24, b24, PySem.W.mg_of X G a24, _, _, F25, b25, PySem.W.mg_of X G a25, _, _, F26, b26, PySem.W.mg_of X G a26, _, _, cc27, pt27, ⟨F27, _, _, _, _, _, _, _, _, rfl, l27, c27⟩, b27, PySem.W.mg_of X G a27, _, _, cc28, pt28, ⟨F28, _, _, _, _, _, _, _, _, rfl, l28, c28⟩, b28, PySem.W.mg_of X G a28, _, _, F29, b29, PySem.W.mg_of X G a29, PySem.W.mg_none_of X G z0, PySem.W.mg_none_of X G z1, PySem.W.mg_none_of X G z2, PySem.W.mg_none_of X G z3, PySem.W.mg_none_of X G z4, PySem.W.mg_none_of X G z5, PySem.W.mg_none_of X G z6, PySem.W.mg_none_of X G z7, PySem.W.mg_none_of X G z8, PySem.W.mg_none_of X G z9, PySem.W.mg_none_of X G z10, PySem.W.mg_none_of X G z11, PySem.W.mg_none_of X G z12, tc0, PySem.W.mg_of X G n0, tc1, PySem.W.mg_of X G n1, u1⟩
  refine ⟨[⟨cc27, pt27, (("_law_right" : Str) ++ ".<locals>." ++ "<lambda>")⟩, ⟨cc28, pt28, (("law" : Str) ++ ".<locals>." ++ "<lambda>")⟩], callT T.a_total_crossings T.a_total_need T.a_reason T.a_has_bond T.a_can_be_laid T.P_law_right T.P_law 12 28, tn, ?_, fun ns hl => hrun _ _ _ _ _ _ _ ns hl, fun base _ _ TB => (all_ok (base := base) T (TB ⟨cc27, pt27, (("_law_right" : Str) ++ ".<locals>." ++ "<lambda>")⟩ (by simp)) (TB ⟨cc28, pt28, (("law" : Str) ++ ".<locals>." ++ "<lambda>")⟩ (by simp)) 12).law⟩
  intro t ht
  simp only [List.mem_cons, List.not_mem_nil, or_false] at ht
  rcases ht with rfl | rfl
  · exact ⟨tl27, tb27, _, _, ta27, tr27⟩
  · exact ⟨tl28, tb28, _, _, ta28, tr28⟩
end k17
open PySem PySem.W PyProof.Rows
set_option maxRecDepth 100000 in
set_option maxHeartbeats 0 in
theorem PySem.Challenge.cw_bondfloors_k17_errors_of_sizes_holds : PySem.Challenge.rw_bondfloors_k17_errors_of_sizes.Holds := by
  w_on; o_law; k_head; (case hw => w_witness2)
  k_fill
  refine L3.law_endT (l := PySem.Challenge.rw_bondfloors_k17_errors_of_sizes) (n := 63) (k := 48) rfl (by decide) rfl ⟨rfl, by decide, by decide⟩ (fun w h Y => PySem.W.km_in_of Y) ?F
  case F =>
    intro w mg fa h KX G hmg
    refine' k17.all_mk KX G hmg ?vg_InvalidSize ?vg_InvalidLine ?vg_InvalidPlan ?vg_InvalidOperation ?vg_InvalidNumber ?vg_Unlaid ?vg_TooMany ?vq_InvalidSize ?vk_InvalidSize ?vs_InvalidSize ?vt_InvalidSize ?vn_InvalidNumber_value ?vn_TooMany_limit ?vn_Unlaid_value ?va_InvalidNumber ?vb_InvalidNumber ?vc_InvalidNumber ?vd_InvalidNumber ?va_TooMany ?vb_TooMany ?vc_TooMany ?vd_TooMany ?va_Unlaid ?vb_Unlaid ?vc_Unlaid ?vd_Unlaid ?ve_InvalidSize_InvalidSize ?ve_InvalidNumber_InvalidSize ?ve_Unlaid_InvalidSize ?ve_InvalidSize_InvalidLine ?ve_InvalidNumber_InvalidLine ?ve_Unlaid_InvalidLine ?ve_InvalidSize_InvalidPlan ?ve_InvalidNumber_InvalidPlan ?ve_Unlaid_InvalidPlan ?ve_InvalidSize_InvalidOperation ?ve_InvalidNumber_InvalidOperation ?ve_Unlaid_InvalidOperation ?ve_InvalidSize_InvalidNumber ?ve_InvalidNumber_InvalidNumber ?ve_Unlaid_InvalidNumber ?ve_InvalidSize_Unlaid ?ve_InvalidNumber_Unlaid ?ve_Unlaid_Unlaid ?ve_InvalidSize_TooMany ?ve_InvalidNumber_TooMany ?ve_Unlaid_TooMany ?a0 ?l0 ?c0 ?k0 ?a1 ?l1 ?c1 ?k1 ?a2 ?l2 ?c2 ?k2 ?a3 ?l3 ?c3 ?k3 ?a4 ?l4 ?c4 ?k4 ?a5 ?l5 ?c5 ?k5 ?oa5 ?ob5 ?oh5 ?os5 ?oe5 ?oy5 ?ok5 ?oi5 ?ot5 ?a6 ?l6 ?c6 ?k6 ?oa6 ?ob6 ?oh6 ?os6 ?oe6 ?oy6 ?ok6 ?oi6 ?ot6 ?a7 ?l7 ?c7 ?k7 ?a8 ?l8 ?c8 ?k8 ?a9 ?l9 ?c9 ?k9 ?a10 ?l10 ?c10 ?k10 ?a11 ?l11 ?c11 ?k11 ?a12 ?l12 ?c12 ?k12 ?a13 ?l13 ?c13 ?k13 ?a14 ?l14 ?c14 ?k14 ?a15 ?l15 ?c15 ?k15 ?a16 ?l16 ?c16 ?k16 ?a17 ?l17 ?c17 ?k17 ?a18 ?l18 ?c18 ?k18 ?a19 ?l19 ?c19 ?k19 ?a20 ?l20 ?c20 ?k20 ?a21 ?l21 ?c21 ?k21 ?a22 ?l22 ?c22 ?k22 ?a23 ?l23 ?c23 ?k23 ?a24 ?l24 ?c24 ?k24 ?a25 ?l25 ?c25 ?k25 ?a26 ?l26 ?c26 ?k26 ?a27 ?ta27 ?tb27 ?tl27 ?tr27 ?l27 ?c27 ?k27 ?a28 ?ta28 ?tb28 ?tl28 ?tr28 ?l28 ?c28 ?k28 ?a29 ?l29 ?c29 ?k29 ?tn ?z0 ?z1 ?z2 ?z3 ?z4 ?z5 ?z6 ?z7 ?z8 ?z9 ?z10 ?z11 ?z12 ?n0 ?n1 ?u1 k17.main_run
    (case vg_InvalidSize => k_is)
    (case vg_InvalidLine => k_is)
    (case vg_InvalidPlan => k_is)
    (case vg_InvalidOperation => k_is)
    (case vg_InvalidNumber => k_is)
    (case vg_Unlaid => k_is)
    (case vg_TooMany => k_is)
    (case vq_InvalidSize => exact L3.excIn_by (by k_is) (L3.tail1 (by k_is) (L3.nsOk_of (by k_is) (by rfl)) (by k_is)) (L3.nsOk_of (by k_is) (by rfl)) (by k_is))
    (case vk_InvalidSize => k_is)
    (case vs_InvalidSize => k_is)
    (case vt_InvalidSize => k_is)
    (case vn_InvalidNumber_value => k_is)
    (case vn_TooMany_limit => k_is)
    (case vn_Unlaid_value => k_is)
    (case va_InvalidNumber => k_is)
    (case vb_InvalidNumber => k_is)
    (case vc_InvalidNumber => k_is)
    (case vd_InvalidNumber => k_is)
    (case va_TooMany => k_is)
    (case vb_TooMany => k_is)
    (case vc_TooMany => k_is)
    (case vd_TooMany => k_is)
    (case va_Unlaid => k_is)
    (case vb_Unlaid => k_is)
    (case vc_Unlaid => k_is)
    (case vd_Unlaid => k_is)
    (case ve_InvalidSize_InvalidSize => exact L3.exm_of (by k_is) (by k_is) (by k_is) (by k_is))
    (case ve_InvalidNumber_InvalidSize => exact L3.exm_of (by k_is) (by k_is) (by k_is) (by k_is))
    (case ve_Unlaid_InvalidSize => exact L3.exm_of (by k_is) (by k_is) (by k_is) (by k_is))
    (case ve_InvalidSize_InvalidLine => exact L3.exm_of (by k_is) (by k_is) (by k_is) (by k_is))
    (case ve_InvalidNumber_InvalidLine => exact L3.exm_of (by k_is) (by k_is) (by k_is) (by k_is))
    (case ve_Unlaid_InvalidLine => exact L3.exm_of (by k_is) (by k_is) (by k_is) (by k_is))
    (case ve_InvalidSize_InvalidPlan => exact L3.exm_of (by k_is) (by k_is) (by k_is) (by k_is))
    (case ve_InvalidNumber_InvalidPlan => exact L3.exm_of (by k_is) (by k_is) (by k_is) (by k_is))
    (case ve_Unlaid_InvalidPlan => exact L3.exm_of (by k_is) (by k_is) (by k_is) (by k_is))
    (case ve_InvalidSize_InvalidOperation => exact L3.exm_of (by k_is) (by k_is) (by k_is) (by k_is))
    (case ve_InvalidNumber_InvalidOperation => exact L3.exm_of (by k_is) (by k_is) (by k_is) (by k_is))
    (case ve_Unlaid_InvalidOperation => exact L3.exm_of (by k_is) (by k_is) (by k_is) (by k_is))
    (case ve_InvalidSize_InvalidNumber => exact L3.exm_of (by k_is) (by k_is) (by k_is) (by k_is))
    (case ve_InvalidNumber_InvalidNumber => exact L3.exm_of (by k_is) (by k_is) (by k_is) (by k_is))
    (case ve_Unlaid_InvalidNumber => exact L3.exm_of (by k_is) (by k_is) (by k_is) (by k_is))
    (case ve_InvalidSize_Unlaid => exact L3.exm_of (by k_is) (by k_is) (by k_is) (by k_is))
    (case ve_InvalidNumber_Unlaid => exact L3.exm_of (by k_is) (by k_is) (by k_is) (by k_is))
    (case ve_Unlaid_Unlaid => exact L3.exm_of (by k_is) (by k_is) (by k_is) (by k_is))
    (case ve_InvalidSize_TooMany => exact L3.exm_of (by k_is) (by k_is) (by k_is) (by k_is))
    (case ve_InvalidNumber_TooMany => exact L3.exm_of (by k_is) (by k_is) (by k_is) (by k_is))
    (case ve_Unlaid_TooMany => exact L3.exm_of (by k_is) (by k_is) (by k_is) (by k_is))
    (case a0 => k_is)
    (case l0 => k_is)
    (case c0 => k_is)
    (case k0 => k_is)
    (case a1 => k_is)
    (case l1 => k_is)
    (case c1 => k_is)
    (case k1 => k_is)
    (case a2 => k_is)
    (case l2 => k_is)
    (case c2 => k_is)
    (case k2 => k_is)
    (case a3 => k_is)
    (case l3 => k_is)
    (case c3 => k_is)
    (case k3 => k_is)
    (case a4 => k_is)
    (case l4 => k_is)
    (case c4 => k_is)
    (case k4 => k_is)
    (case a5 => k_is)
    (case l5 => k_is)
    (case c5 => k_is)
    (case k5 => k_is)
    (case oa5 => exact L3.excInit_by (by k_is) (by rfl))
    (case ob5 => exact L3.excOver_by (by k_is) (by rfl))
    (case oh5 => k_is)
    (case os5 => k_is)
    (case oe5 => k_is)
    (case oy5 => k_is)
    (case ok5 => k_is)
    (case oi5 => k_is)
    (case ot5 => k_is)
    (case a6 => k_is)
    (case l6 => k_is)
    (case c6 => k_is)
    (case k6 => k_is)
    (case oa6 => exact L3.excInit_by (by k_is) (by rfl))
    (case ob6 => exact L3.excOver_by (by k_is) (by rfl))
    (case oh6 => k_is)
    (case os6 => k_is)
    (case oe6 => k_is)
    (case oy6 => k_is)
    (case ok6 => k_is)
    (case oi6 => k_is)
    (case ot6 => k_is)
    (case a7 => k_is)
    (case l7 => k_is)
    (case c7 => k_is)
    (case k7 => k_is)
    (case a8 => k_is)
    (case l8 => k_is)
    (case c8 => k_is)
    (case k8 => k_is)
    (case a9 => k_is)
    (case l9 => k_is)
    (case c9 => k_is)
    (case k9 => k_is)
    (case a10 => k_is)
    (case l10 => k_is)
    (case c10 => k_is)
    (case k10 => k_is)
    (case a11 => k_is)
    (case l11 => k_is)
    (case c11 => k_is)
    (case k11 => k_is)
    (case a12 => k_is)
    (case l12 => k_is)
    (case c12 => k_is)
    (case k12 => k_is)
    (case a13 => k_is)
    (case l13 => k_is)
    (case c13 => k_is)
    (case k13 => k_is)
    (case a14 => k_is)
    (case l14 => k_is)
    (case c14 => k_is)
    (case k14 => k_is)
    (case a15 => k_is)
    (case l15 => k_is)
    (case c15 => k_is)
    (case k15 => k_is)
    (case a16 => k_is)
    (case l16 => k_is)
    (case c16 => k_is)
    (case k16 => k_is)
    (case a17 => k_is)
    (case l17 => k_is)
    (case c17 => k_is)
    (case k17 => k_is)
    (case a18 => k_is)
    (case l18 => k_is)
    (case c18 => k_is)
    (case k18 => k_is)
    (case a19 => k_is)
    (case l19 => k_is)
    (case c19 => k_is)
    (case k19 => k_is)
    (case a20 => k_is)
    (case l20 => k_is)
    (case c20 => k_is)
    (case k20 => k_is)
    (case a21 => k_is)
    (case l21 => k_is)
    (case c21 => k_is)
    (case k21 => k_is)
    (case a22 => k_is)
    (case l22 => k_is)
    (case c22 => k_is)
    (case k22 => k_is)
    (case a23 => k_is)
    (case l23 => k_is)
    (case c23 => k_is)
    (case k23 => k_is)
    (case a24 => k_is)
    (case l24 => k_is)
    (case c24 => k_is)
    (case k24 => k_is)
    (case a25 => k_is)
    (case l25 => k_is)
    (case c25 => k_is)
    (case k25 => k_is)
    (case a26 => k_is)
    (case l26 => k_is)
    (case c26 => k_is)
    (case k26 => k_is)
    (case a27 => k_is)
    (case ta27 => exact L3.tabIn_by (by k_is) (by k_is) (by rfl) (by k_is) (by rfl))
    (case tb27 => exact L3.codeHd_by (by k_is) (by rfl))
    (case tl27 => first | kernel_rfl | rfl)
    (case tr27 => exact rfl)
    (case l27 => k_is)
    (case c27 => k_is)
    (case k27 => k_is)
    (case a28 => k_is)
    (case ta28 => exact L3.tabIn_by (by k_is) (by k_is) (by rfl) (by k_is) (by rfl))
    (case tb28 => exact L3.codeHd_by (by k_is) (by rfl))
    (case tl28 => first | kernel_rfl | rfl)
    (case tr28 => exact rfl)
    (case l28 => k_is)
    (case c28 => k_is)
    (case k28 => k_is)
    (case a29 => k_is)
    (case l29 => k_is)
    (case c29 => k_is)
    (case k29 => k_is)
    (case tn => exact by decide)
    (case z0 => k_is)
    (case z1 => k_is)
    (case z2 => k_is)
    (case z3 => k_is)
    (case z4 => k_is)
    (case z5 => k_is)
    (case z6 => k_is)
    (case z7 => k_is)
    (case z8 => k_is)
    (case z9 => k_is)
    (case z10 => k_is)
    (case z11 => k_is)
    (case z12 => k_is)
    (case n0 => k_is)
    (case n1 => k_is)
    (case u1 => exact L3.TupK.of (by k_is) (by decide) (by repeat (first | exact .nil | refine .cons ⟨_, rfl⟩ ?_)))
